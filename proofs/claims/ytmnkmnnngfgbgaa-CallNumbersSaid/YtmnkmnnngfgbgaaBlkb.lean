/- More of blocks and rows. No program. -/
import Derived.Test.YtmnkmnnngfgbgaaBlk
namespace Go.Proofs.Ytmnkmnnngfgbgaa
open Go.RowKit
section
variable {w w' w'' : World} {g : Nat} {t : TypeId} {cs : Array Value} {own own' : Nat → Prop}
theorem own_below {base size n : Nat} {e : TypeId} {v : Value} {xs : List Value} (h : w.ownsRow base e size v n xs) (hb : Below w.heap.size w w') : w'.ownsRow base e size v n xs := own_kept (own := fun _ => False) h (Kept.of_below hb) fun _ _ _ => id
theorem own_empty {base : Nat} (e : TypeId) (hb : base ≤ g) (h : Blk w g e #[]) : w.ownsRow base e 1 (.slice (some ⟨g, 0, none⟩) 0 0) 0 [] :=
  ⟨rfl, .inr ⟨g, 0, #[], rfl, hb, h, Nat.le_refl _, by decide, rfl, rfl⟩⟩
theorem own_drewN {base size n : Nat} {e : TypeId} {v : Value} {xs : List Value} (h : w.ownsRow base e size v n xs) (k : Nat) : (w.drewN k).ownsRow base e size v n xs := own_kept (own := fun _ => False) h ((Kept.refl _ _).drewN_ k) fun _ _ _ => id
theorem own_base {base size n : Nat} {e : TypeId} {v : Value} {xs : List Value} (h : w.ownsRow base e size v n xs) {k : Nat} (hk : v.ownBlock = some k) : base ≤ k := by
  rcases h.2 with ⟨rfl, _⟩ | ⟨g, cap, cur, rfl, hb, _⟩
  · simp [Value.ownBlock] at hk
  · have : g = k := by simpa [Value.ownBlock] using hk
    omega
end
end Go.Proofs.Ytmnkmnnngfgbgaa
