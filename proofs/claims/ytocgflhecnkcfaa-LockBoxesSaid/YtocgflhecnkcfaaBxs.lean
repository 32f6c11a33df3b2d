/- Several blocks of a call, known whole. No program. -/
import Derived.Test.YtocgflhecnkcfaaBlk
namespace Go.Proofs.Ytocgflhecnkcfaa
open Go.RowKit
/-- A box: its block, its element type, its cells. -/
abbrev Bx1 := Nat × TypeId × List Value
/-- The blocks of L are known whole in w, no two are one, and beneath v all is as it was. -/
structure Bxs (v w : World) (L : List Bx1) : Prop where
  bl : ∀ (i g : Nat) (T : TypeId) (l : List Value), L[i]? = some (g, T, l) → Blk w g T l.toArray
  lo : ∀ (i g : Nat) (T : TypeId) (l : List Value), L[i]? = some (g, T, l) → v.heap.size ≤ g
  ne : ∀ (i j g : Nat) (T : TypeId) (l : List Value) (g' : Nat) (T' : TypeId) (l' : List Value), L[i]? = some (g, T, l) → L[j]? = some (g', T', l') → i ≠ j → g ≠ g'
  be : Below v.heap.size v w
section
variable {v w w' : World} {L : List Bx1}
theorem Bxs.nil_ (w : World) : Bxs w w [] := ⟨fun i g T l h => by simp at h, fun i g T l h => by simp at h, fun i j g T l g' T' l' h => by simp at h, Below.refl _ _⟩
theorem Bxs.under {B : Nat} (h : Below B w w') (h0 : Bxs v w L) (hB : w.heap.size ≤ B) : Below v.heap.size v w' := h0.be.trans (h.mono (Nat.le_trans h0.be.size hB))
theorem Bxs.below (h : Bxs v w L) (hb : Below w.heap.size w w') : Bxs v w' L :=
  ⟨fun i g T l hi => (h.bl i g T l hi).below_ hb (h.bl i g T l hi).size, h.lo, h.ne, h.be.trans (hb.mono h.be.size)⟩
theorem Bxs.drew_ (h : Bxs v w L) : Bxs v w.drew L := ⟨h.bl, h.lo, h.ne, h.be.drew⟩
theorem Bxs.drewN_ (h : Bxs v w L) (n : Nat) : Bxs v (w.drewN n) L := ⟨h.bl, h.lo, h.ne, ⟨h.be.os, h.be.tape, h.be.output, h.be.size, h.be.block⟩⟩
theorem Bxs.alloc_ (h : Bxs v w L) (l : List Value) (T : TypeId) {g : Nat} (hg : g = w.heap.size) : Bxs v (w.alloc (.cells l.toArray T)) (L ++ [(g, T, l)]) := by
  subst hg
  have key : ∀ i e, (L ++ [((w.heap.size, T, l) : Bx1)])[i]? = some e → L[i]? = some e ∨ i = L.length ∧ e = (w.heap.size, T, l) := by
    intro i e hi
    rcases Nat.lt_trichotomy i L.length with hl | hl | hl
    · exact .inl (by rwa [List.getElem?_append_left hl] at hi)
    · subst hl; exact .inr ⟨rfl, by simpa using hi.symm⟩
    · rw [List.getElem?_append_right (Nat.le_of_lt hl)] at hi
      obtain ⟨n, hn⟩ : ∃ n, i - L.length = n + 1 := ⟨i - L.length - 1, by omega⟩
      rw [hn] at hi
      simp at hi
  refine ⟨fun i g T' l' hi => ?_, fun i g T' l' hi => ?_, fun i j g T1 l1 g' T2 l2 hi hj hne => ?_, h.be.alloc h.be.size _⟩
  · rcases key i _ hi with hi | ⟨_, hi⟩
    · exact (h.bl i _ _ _ hi).alloc_ _
    · injection hi with h1 h2; injection h2 with h2 h3; subst h1 h2 h3; exact Blk.made w _ _
  · rcases key i _ hi with hi | ⟨_, hi⟩
    · exact h.lo i _ _ _ hi
    · injection hi with h1 h2; subst h1; exact h.be.size
  · rcases key i _ hi with hi | ⟨e1, hi⟩ <;> rcases key j _ hj with hj | ⟨e2, hj⟩
    · exact h.ne i j _ _ _ _ _ _ hi hj hne
    · injection hj with h1 h2; subst h1; exact Nat.ne_of_lt (h.bl i _ _ _ hi).size
    · injection hi with h1 h2; subst h1; exact Nat.ne_of_gt (h.bl j _ _ _ hj).size
    · omega
theorem Bxs.set_ (h : Bxs v w L) (i k : Nat) {g : Nat} {T : TypeId} {l : List Value} (hi : L[i]? = some (g, T, l)) (u : Value) : Bxs v (w.setCell ⟨g, k, none⟩ u) (L.set i (g, T, l.set k u)) := by
  have key : ∀ j e, (L.set i (g, T, l.set k u))[j]? = some e → (j ≠ i ∧ L[j]? = some e) ∨ j = i ∧ e = (g, T, l.set k u) := by
    intro j e hj
    by_cases hji : j = i
    · subst hji
      rw [List.getElem?_set_self (by rw [List.getElem?_eq_some_iff] at hi; exact hi.1)] at hj
      exact .inr ⟨rfl, by simpa using hj.symm⟩
    · rw [List.getElem?_set_ne (Ne.symm hji)] at hj
      exact .inl ⟨hji, hj⟩
  refine ⟨fun j g1 T1 l1 hj => ?_, fun j g1 T1 l1 hj => ?_, fun j j' g1 T1 l1 g2 T2 l2 hj hj' hne => ?_, h.be.setCell (h.lo i _ _ _ hi) _⟩
  · rcases key j _ hj with ⟨hne, hj⟩ | ⟨_, hj⟩
    · exact (h.bl j _ _ _ hj).far _ (h.ne j i _ _ _ _ _ _ hj hi hne)
    · injection hj with h1 h2; injection h2 with h2 h3; subst h1 h2 h3
      have := (h.bl i _ _ _ hi).set_ k u
      simpa using this
  · rcases key j _ hj with ⟨_, hj⟩ | ⟨_, hj⟩
    · exact h.lo j _ _ _ hj
    · injection hj with h1 h2; subst h1; exact h.lo i _ _ _ hi
  · rcases key j _ hj with ⟨n1, k1⟩ | ⟨e1, k1⟩ <;> rcases key j' _ hj' with ⟨n2, k2⟩ | ⟨e2, k2⟩
    · exact h.ne j j' _ _ _ _ _ _ k1 k2 hne
    · injection k2 with h1 h2; rw [h1]; exact h.ne j i _ _ _ _ _ _ k1 hi n1
    · injection k1 with h1 h2; rw [h1]; exact h.ne i j' _ _ _ _ _ _ hi k2 (Ne.symm n2)
    · omega
/-- Some of the boxes. -/
theorem Bxs.some_ (h : Bxs v w L) (L' : List Bx1) (f : Nat → Nat) (hf : ∀ i e, L'[i]? = some e → L[f i]? = some e) (hi : ∀ i j, i < L'.length → j < L'.length → f i = f j → i = j) : Bxs v w L' :=
  ⟨fun i g T l e => h.bl (f i) _ _ _ (hf i _ e), fun i g T l e => h.lo (f i) _ _ _ (hf i _ e), fun i j g T l g' T' l' e e' hne => h.ne (f i) (f j) _ _ _ _ _ _ (hf i _ e) (hf j _ e') fun he => hne (hi i j (by rw [List.getElem?_eq_some_iff] at e; exact e.1) (by rw [List.getElem?_eq_some_iff] at e'; exact e'.1) he), h.be⟩
/-- All but those from n on. -/
theorem Bxs.first_ (h : Bxs v w L) (n : Nat) : Bxs v w (L.take n) :=
  h.some_ _ id (fun i e hi => by rw [List.getElem?_take] at hi; split at hi; exact hi; cases hi) (fun i j _ _ h => h)
end
theorem wp_worldx {P : Program} {code : Code} {Q : Exit → Act → World → Prop} {a : Act} {w : World} (φ : World → Prop) (h : φ w) (k : ∀ wx, φ wx → Code.wp P code Q a wx) : Code.wp P code Q a w := k w h
end Go.Proofs.Ytocgflhecnkcfaa
