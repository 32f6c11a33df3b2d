/- Package swing: a row of one point; a row cloned; what an append leaves alone. -/
import Derived.Test.YtcbpocannmconaaSwi
import Derived.Lib.SmallJoins
namespace Go.Proofs.Ytcbpocannmconaa
open Go.RowKit
set_option linter.unusedVariables false
set_option linter.unusedSimpArgs false
theorem OwP.one {w : World} {base : Nat} (hb : base ≤ w.heap.size) (x y : Int) : OwP (w.alloc (.cells #[.complex .f64 (wd x) (wd y)] 28)) base (.slice (some ⟨w.heap.size, 0, none⟩) 1 1) 1 (fun _ => clampZ x) (fun _ => clampZ y) :=
  ⟨_, World.ownsRow_lit w #[.complex .f64 (wd x) (wd y)] 1 hb (by decide) rfl, fun i hi => by
    obtain rfl : i = 0 := by omega
    exact ⟨_, _, rfl, wd_fl _, wd_fl _, clampZ_abs _, clampZ_abs _⟩⟩
theorem OwP.none_ (w : World) (base : Nat) (hb : base ≤ w.heap.size) (a b : Nat → Int) : OwP (w.alloc (.cells #[] 28)) base (.slice (some ⟨w.heap.size, 0, none⟩) 0 0) 0 a b :=
  ⟨_, World.ownsRow_lit w #[] 0 hb (by decide) rfl, fun i hi => by omega⟩
theorem OwP.nil_ (w : World) (base : Nat) (a b : Nat → Int) : OwP w base (.slice none 0 0) 0 a b := ⟨[], World.ownsRow_nil _ _ _ _, fun i hi => by omega⟩
theorem OwP.grew {w w' : World} {base n B : Nat} {v : Value} {a b : Nat → Int} (h : OwP w base v n a b) (hg : w.grownBy w' v.ownBlock) (hb : B ≤ base) (hw : B ≤ w.heap.size) : Below B w w' := by
  obtain ⟨xs, ho, -⟩ := h
  exact (Below.refl _ _).grown hg hw (fun g e => Nat.le_trans hb (own_least ho e))
theorem OwP.congr_ {w : World} {base n : Nat} {v : Value} {a b a' b' : Nat → Int} (h : OwP w base v n a b) (hc : ∀ i, i < n → a i = a' i ∧ b i = b' i) : OwP w base v n a' b' := by
  obtain ⟨xs, ho, hx⟩ := h
  refine ⟨xs, ho, fun i hi => ?_⟩
  obtain ⟨x, y, h1, h2, h3, h4, h5⟩ := hx i hi
  obtain ⟨c1, c2⟩ := hc i hi
  exact ⟨x, y, h1, c1 ▸ h2, c2 ▸ h3, c1 ▸ h4, c2 ▸ h5⟩
section
variable {A : Option Addr} {len cap B : Nat} {a b : Nat → Int} {w : World}
set_option maxHeartbeats 2000000 in
theorem clone_any (hp : Pts w B A len a b) (hA : A = none ∧ len = 0 ∧ cap = 0 ∨ ∃ ad, A = some ad) (hB : B ≤ w.heap.size) (hl : len ≤ 1000) :
    Calls Try.prog 20 #[.slice A len cap] w fun e w' => ∃ v', e = .returned v' ∧ OwP w' w.heap.size v' len a b ∧ Below w.heap.size w w' := by
  have q22 : ∀ (w : World) (a : Option Addr) (n c n' c' : Nat), (binOp .eql 24 (.slice a n c) (.slice none n' c')).run Try.prog w = .ok (.bool a.isNone) w := fun w a n c n' c' => Lib.run_eql_slice_nil w _ _ a n c n' c' Try.underlying24
  rcases hA with ⟨rfl, rfl, rfl⟩ | ⟨ad, rfl⟩
  · go_enter Try.func20, Try.ntmps20
    go_wp2_with fail
    go_ret
    exact ⟨_, rfl, OwP.nil_ _ _ _ _, Below.refl _ _⟩
  · have HP := Lib.hid hp
    clear hp
    go_enter Try.func20, Try.ntmps20
    go_wp2_with (at_builtin; refine wpList_app rfl (.tmp 5) (.tmp 6) rfl rfl rfl (OwP.none_ w w.heap.size (Nat.le_refl _) a b) (HP.out.below ((Below.refl _ _).alloc hB _)) (.inr ⟨_, rfl⟩) (by omega) (by simp) ?_; intro v5 w5 hown5 hg5; have HO5 := Lib.hid hown5; have HB5 := Lib.hid (((Below.refl w.heap.size w).alloc (Nat.le_refl _) (.cells #[] 28)).trans ((OwP.none_ w w.heap.size (Nat.le_refl _) a b).grew hg5 (Nat.le_refl _) (by simp))); clear hown5 hg5)
    go_ret
    refine ⟨_, rfl, ?_, HB5.out⟩
    have := HO5.out
    rw [jn_zero, jn_zero, Nat.zero_add] at this
    exact this
end
end Go.Proofs.Ytcbpocannmconaa
