/- Rows as sequences: what ends, neighbours and counts say. No program. -/
import Derived.Below
namespace Go.Proofs.Ytjkklcigmikleaa
set_option linter.unusedVariables false
/-- Who comes ahead of place k; who comes behind it. -/
def pv (A : Nat → Nat) (k : Nat) : Int := if k = 0 then -1 else (A (k - 1) : Int)
def nx (A : Nat → Nat) (n k : Nat) : Int := if k + 1 < n then (A (k + 1) : Int) else -1
def fst (A : Nat → Nat) (n : Nat) : Int := if 0 < n then (A 0 : Int) else -1
/-- R rows of members below M: row r has n r members, A r 0, A r 1, .. -/
structure Rep (R M : Nat) (n : Nat → Nat) (A : Nat → Nat → Nat) (E0 E1 C W B0 B1 : Nat → Int) : Prop where
  cnt : ∀ r, r < R → C r = (n r : Int)
  first : ∀ r, r < R → E0 r = fst (A r) (n r)
  last : ∀ r, r < R → E1 r = pv (A r) (n r)
  mem : ∀ r, r < R → ∀ k, k < n r → A r k < M ∧ W (A r k) = (r : Int) ∧ B0 (A r k) = pv (A r) k ∧ B1 (A r k) = nx (A r) (n r) k
  inj : ∀ r, r < R → ∀ k k', k < n r → k' < n r → A r k = A r k' → k = k'
  out : ∀ i, i < M → W i = -1 ∨ ∃ r k, r < R ∧ k < n r ∧ A r k = i ∧ W i = (r : Int)
section
variable {R M : Nat} {n : Nat → Nat} {A : Nat → Nat → Nat} {E0 E1 C W B0 B1 : Nat → Int}
theorem Rep.start (R M : Nat) : Rep R M (fun _ => 0) (fun _ _ => 0) (fun _ => -1) (fun _ => -1) (fun _ => 0) (fun _ => -1) (fun _ => 0) (fun _ => 0) :=
  ⟨fun _ _ => rfl, fun _ _ => rfl, fun _ _ => rfl, fun _ _ k hk => absurd hk (Nat.not_lt_zero k), fun _ _ k _ hk => absurd hk (Nat.not_lt_zero k), fun _ _ => .inl rfl⟩
/-- Who stands at a place of one row stands at none of another. -/
theorem Rep.one (h : Rep R M n A E0 E1 C W B0 B1) {r r' k k' : Nat} (hr : r < R) (hr' : r' < R) (hk : k < n r) (hk' : k' < n r') (e : A r k = A r' k') : r = r' ∧ k = k' := by
  have a := (h.mem r hr k hk).2.1
  have b := (h.mem r' hr' k' hk').2.1
  rw [e] at a
  have : r = r' := by omega
  subst this
  exact ⟨rfl, h.inj r hr k k' hk hk' e⟩
/-- One comes to the back. -/
theorem Rep.push (h : Rep R M n A E0 E1 C W B0 B1) {r i : Nat} (hr : r < R) (hi : i < M) (hW : W i = -1) {E0' E1' C' W' B0' B1' : Nat → Int}
    (he0 : ∀ j, j < R → E0' j = if j = r ∧ n r = 0 then (i : Int) else E0 j) (he1 : ∀ j, j < R → E1' j = if j = r then (i : Int) else E1 j) (hc : ∀ j, j < R → C' j = if j = r then C r + 1 else C j)
    (hw : ∀ j, W' j = if j = i then (r : Int) else W j) (hb0 : ∀ j, B0' j = if j = i then E1 r else B0 j) (hb1 : ∀ j, B1' j = if j = i then -1 else if (j : Int) = E1 r then (i : Int) else B1 j) :
    Rep R M (fun j => if j = r then n r + 1 else n j) (fun j k => if j = r ∧ k = n r then i else A j k) E0' E1' C' W' B0' B1' := by
  have hne : ∀ r', r' < R → ∀ k, k < n r' → A r' k ≠ i := fun r' hr' k hk e => by
    have := (h.mem r' hr' k hk).2.1
    rw [e, hW] at this
    omega
  have hlast := h.last r hr
  refine ⟨fun j hj => ?_, fun j hj => ?_, fun j hj => ?_, fun j hj k hk => ?_, fun j hj k k' hk hk' e => ?_, fun x hx => ?_⟩
  · rw [hc j hj]
    by_cases e : j = r
    · subst e; simp [h.cnt j hj]
    · simp [e, h.cnt j hj]
  · rw [he0 j hj]
    have hf := h.first j hj
    by_cases e : j = r
    · subst e
      by_cases e0 : n j = 0
      · simp [e0, fst]
      · have : 0 < n j := by omega
        have e2 : ¬ (0 = n j) := by omega
        simp [e0, fst, hf, this, e2]
    · simp [e, hf]
  · rw [he1 j hj]
    by_cases e : j = r
    · subst e; simp [pv]
    · simp only [e, if_false, false_and]; exact h.last j hj
  · by_cases e : j = r
    · subst e
      simp only [if_true] at hk
      by_cases ek : k = n j
      · subst ek
        simp only [and_self, if_true]
        refine ⟨hi, by rw [hw]; simp, ?_, ?_⟩
        · rw [hb0, if_pos rfl, hlast]
          unfold pv
          by_cases e0 : n j = 0
          · simp [e0]
          · have e2 : ¬ (n j - 1 = n j) := by omega
            simp [e0, e2]
        · rw [hb1, if_pos rfl]; unfold nx; simp
      · have hk' : k < n j := by omega
        have hm := h.mem j hj k hk'
        have hn := hne j hj k hk'
        simp only [ek, and_false, if_false, if_true]
        refine ⟨hm.1, by rw [hw, if_neg hn]; exact hm.2.1, ?_, ?_⟩
        · rw [hb0, if_neg hn, hm.2.2.1]
          unfold pv
          by_cases e0 : k = 0
          · simp [e0]
          · have e2 : ¬ (k - 1 = n j) := by omega
            simp [e0, e2]
        · rw [hb1, if_neg hn]
          by_cases el : k + 1 = n j
          · have e3 : (A j k : Int) = E1 j := by
              rw [hlast]; unfold pv
              rw [if_neg (by omega), show n j - 1 = k by omega]
            rw [if_pos e3]
            unfold nx
            simp [el]
          · have e3 : ¬ (A j k : Int) = E1 j := by
              rw [hlast]; unfold pv
              rw [if_neg (by omega)]
              intro c
              have := h.inj j hj k (n j - 1) hk' (by omega) (by omega)
              omega
            rw [if_neg e3, hm.2.2.2]
            unfold nx
            have e4 : k + 1 < n j := by omega
            have e5 : ¬ (k + 1 = n j) := by omega
            simp [e4, e5, hk']
    · simp only [e, if_false] at hk
      have hm := h.mem j hj k hk
      have hn := hne j hj k hk
      simp only [e, false_and, if_false]
      refine ⟨hm.1, by rw [hw, if_neg hn]; exact hm.2.1, by rw [hb0, if_neg hn]; exact hm.2.2.1, ?_⟩
      have e3 : ¬ (A j k : Int) = E1 r := by
        rw [hlast]; unfold pv
        by_cases e0 : n r = 0
        · rw [if_pos e0]; omega
        · rw [if_neg e0]
          intro c
          have := h.one hj hr hk (show n r - 1 < n r by omega) (by omega)
          exact e this.1
      rw [hb1, if_neg hn, if_neg e3]
      exact hm.2.2.2
  · by_cases ej : j = r
    · subst ej
      simp only [if_true] at hk hk'
      by_cases ek : k = n j
      · by_cases ek' : k' = n j
        · omega
        · simp only [ek, ek', and_self, and_false, if_true, if_false] at e
          exact absurd e.symm (hne j hj k' (by omega))
      · by_cases ek' : k' = n j
        · simp only [ek, ek', and_self, and_false, if_true, if_false] at e
          exact absurd e (hne j hj k (by omega))
        · simp only [ek, ek', and_false, if_false] at e
          exact h.inj j hj k k' (by omega) (by omega) e
    · simp only [ej, false_and, if_false] at hk hk' e
      exact h.inj j hj k k' hk hk' e
  · rw [hw]
    by_cases e : x = i
    · subst e
      right
      exact ⟨r, n r, hr, by simp, by simp, by simp⟩
    · rw [if_neg e]
      rcases h.out x hx with h1 | ⟨r', k, h1, h2, h3, h4⟩
      · exact .inl h1
      · right
        refine ⟨r', k, h1, ?_, ?_, h4⟩
        · by_cases e' : r' = r
          · subst e'; simp; omega
          · simp [e']; exact h2
        · by_cases e' : r' = r
          · subst e'
            have : ¬ k = n r' := by omega
            simp [this, h3]
          · simp [e', h3]
/-- One goes from place k of row r. -/
theorem Rep.remove (h : Rep R M n A E0 E1 C W B0 B1) {r k : Nat} (hr : r < R) (hk : k < n r) {E0' E1' C' W' B0' B1' : Nat → Int}
    (he0 : ∀ j, j < R → E0' j = if j = r ∧ k = 0 then nx (A r) (n r) k else E0 j) (he1 : ∀ j, j < R → E1' j = if j = r ∧ k + 1 = n r then pv (A r) k else E1 j) (hc : ∀ j, j < R → C' j = if j = r then C r - 1 else C j)
    (hw : ∀ j, W' j = if j = A r k then -1 else W j) (hb0 : ∀ j, B0' j = if (j : Int) = nx (A r) (n r) k then pv (A r) k else B0 j) (hb1 : ∀ j, B1' j = if (j : Int) = pv (A r) k then nx (A r) (n r) k else B1 j) :
    Rep R M (fun j => if j = r then n r - 1 else n j) (fun j x => if j = r ∧ k ≤ x then A r (x + 1) else A j x) E0' E1' C' W' B0' B1' := by
  have hne : ∀ r', r' < R → ∀ x, x < n r' → (r' ≠ r ∨ x ≠ k) → A r' x ≠ A r k := fun r' hr' x hx hor e => by
    have := h.one hr' hr hx hk e
    omega
  -- the neighbours are told by their places
  have hnx : ∀ r', r' < R → ∀ x, x < n r' → ((A r' x : Int) = nx (A r) (n r) k ↔ r' = r ∧ x = k + 1) := fun r' hr' x hx => by
    unfold nx
    by_cases e : k + 1 < n r
    · rw [if_pos e]
      constructor
      · intro c
        exact h.one hr' hr hx e (by omega)
      · rintro ⟨rfl, rfl⟩; rfl
    · rw [if_neg e]
      constructor
      · intro c; omega
      · rintro ⟨rfl, rfl⟩; omega
  have hpv : ∀ r', r' < R → ∀ x, x < n r' → ((A r' x : Int) = pv (A r) k ↔ r' = r ∧ x + 1 = k) := fun r' hr' x hx => by
    unfold pv
    by_cases e : k = 0
    · rw [if_pos e]
      constructor
      · intro c; omega
      · rintro ⟨_, c⟩; omega
    · rw [if_neg e]
      constructor
      · intro c
        have := h.one hr' hr hx (show k - 1 < n r by omega) (by omega)
        omega
      · rintro ⟨rfl, c⟩
        rw [show x = k - 1 by omega]
  refine ⟨fun j hj => ?_, fun j hj => ?_, fun j hj => ?_, fun j hj x hx => ?_, fun j hj x x' hx hx' e => ?_, fun i hi => ?_⟩
  · rw [hc j hj]
    by_cases e : j = r
    · subst e; simp [h.cnt j hj]; omega
    · simp [e, h.cnt j hj]
  · rw [he0 j hj]
    have hf := h.first j hj
    by_cases e : j = r
    · subst e
      by_cases e0 : k = 0
      · subst e0
        simp only [and_self, if_true, Nat.zero_le, fst, nx]
        by_cases e1 : 0 + 1 < n j
        · rw [if_pos e1, if_pos (by omega)]
        · rw [if_neg e1, if_neg (by omega)]
      · have e1 : ¬ k ≤ 0 := by omega
        simp only [e0, e1, and_false, if_false, if_true, hf, fst]
        rw [if_pos (by omega), if_pos (by omega)]
    · simp only [e, false_and, if_false]; exact hf
  · rw [he1 j hj]
    have hl := h.last j hj
    by_cases e : j = r
    · subst e
      by_cases e0 : k + 1 = n j
      · simp only [e0, and_self, if_true, pv]
        by_cases e1 : k = 0
        · rw [if_pos e1, if_pos (by omega)]
        · rw [if_neg e1, if_neg (by omega), if_neg (by omega)]
          rw [show n j - 1 - 1 = k - 1 by omega]
      · simp only [e0, and_false, if_false, if_true, hl, pv]
        rw [if_neg (by omega), if_neg (by omega)]
        have e2 : k ≤ n j - 1 - 1 := by omega
        simp only [e2, and_self, if_true, show n j - 1 - 1 + 1 = n j - 1 by omega]
    · simp only [e, false_and, if_false]; exact hl
  · by_cases e : j = r
    · subst e
      simp only [if_true] at hx
      by_cases ex : k ≤ x
      · -- from behind
        have hx1 : x + 1 < n j := by omega
        have hm := h.mem j hj (x + 1) hx1
        have hn := hne j hj (x + 1) hx1 (.inr (by omega))
        simp only [ex, and_self, if_true]
        refine ⟨hm.1, by rw [hw, if_neg hn]; exact hm.2.1, ?_, ?_⟩
        · rw [hb0]
          by_cases e1 : x = k
          · subst e1
            rw [if_pos ((hnx j hj (x + 1) hx1).2 ⟨rfl, rfl⟩)]
            unfold pv
            by_cases e0 : x = 0
            · rw [if_pos e0, if_pos e0]
            · rw [if_neg e0, if_neg e0]
              dsimp only
              rw [if_neg (by omega)]
          · rw [if_neg (fun c => by have := (hnx j hj (x + 1) hx1).1 c; omega), hm.2.2.1]
            unfold pv
            rw [if_neg (by omega), if_neg (by omega)]
            dsimp only
            rw [if_pos ⟨trivial, by omega⟩, show x + 1 - 1 = x by omega, show x - 1 + 1 = x by omega]
        · rw [hb1, if_neg (fun c => by have := (hpv j hj (x + 1) hx1).1 c; omega), hm.2.2.2]
          unfold nx
          by_cases e1 : x + 1 + 1 < n j
          · rw [if_pos e1, if_pos (by omega)]
            dsimp only
            rw [if_pos ⟨trivial, by omega⟩]
          · rw [if_neg e1, if_neg (by omega)]
      · have hx1 : x < n j := by omega
        have hm := h.mem j hj x hx1
        have hn := hne j hj x hx1 (.inr (by omega))
        simp only [ex, and_false, if_false, if_true]
        refine ⟨hm.1, by rw [hw, if_neg hn]; exact hm.2.1, ?_, ?_⟩
        · rw [hb0, if_neg (fun c => by have := (hnx j hj x hx1).1 c; omega), hm.2.2.1]
          unfold pv
          by_cases e0 : x = 0
          · rw [if_pos e0, if_pos e0]
          · rw [if_neg e0, if_neg e0]
            dsimp only
            rw [if_neg (by omega)]
        · rw [hb1]
          by_cases e1 : x + 1 = k
          · rw [if_pos ((hpv j hj x hx1).2 ⟨rfl, e1⟩)]
            unfold nx
            by_cases e2 : k + 1 < n j
            · rw [if_pos e2, if_pos (by omega)]
              dsimp only
              rw [if_pos ⟨trivial, by omega⟩, e1]
            · rw [if_neg e2, if_neg (by omega)]
          · rw [if_neg (fun c => by have := (hpv j hj x hx1).1 c; omega), hm.2.2.2]
            unfold nx
            rw [if_pos (by omega), if_pos (by omega)]
            dsimp only
            rw [if_neg (by omega)]
    · simp only [e, if_false] at hx
      have hm := h.mem j hj x hx
      have hn := hne j hj x hx (.inl e)
      simp only [e, false_and, if_false]
      refine ⟨hm.1, by rw [hw, if_neg hn]; exact hm.2.1, ?_, ?_⟩
      · rw [hb0, if_neg (fun c => by have := (hnx j hj x hx).1 c; omega)]; exact hm.2.2.1
      · rw [hb1, if_neg (fun c => by have := (hpv j hj x hx).1 c; omega)]; exact hm.2.2.2
  · by_cases ej : j = r
    · subst ej
      simp only [if_true, true_and] at hx hx' e
      have key : ∀ y, y < n j - 1 → ∃ z, z < n j ∧ z ≠ k ∧ (if k ≤ y then A j (y + 1) else A j y) = A j z ∧ ((k ≤ y ∧ z = y + 1) ∨ (y < k ∧ z = y)) := fun y hy => by
        by_cases c : k ≤ y
        · exact ⟨y + 1, by omega, by omega, by rw [if_pos c], .inl ⟨c, rfl⟩⟩
        · exact ⟨y, by omega, by omega, by rw [if_neg c], .inr ⟨by omega, rfl⟩⟩
      obtain ⟨z, hz, -, ez, oz⟩ := key x hx
      obtain ⟨z', hz', -, ez', oz'⟩ := key x' hx'
      rw [ez, ez'] at e
      have := h.inj j hj z z' hz hz' e
      omega
    · simp only [ej, false_and, if_false] at hx hx' e
      exact h.inj j hj x x' hx hx' e
  · rw [hw]
    by_cases e : i = A r k
    · exact .inl (if_pos e)
    · rw [if_neg e]
      rcases h.out i hi with h1 | ⟨r', x, h1, h2, h3, h4⟩
      · exact .inl h1
      · right
        by_cases er : r' = r
        · subst er
          by_cases ex : x < k
          · refine ⟨r', x, h1, by simp; omega, ?_, h4⟩
            have : ¬ k ≤ x := by omega
            simp [this, h3]
          · have hxk : x ≠ k := fun c => e (by rw [← h3, c])
            refine ⟨r', x - 1, h1, by simp; omega, ?_, h4⟩
            have c : k ≤ x - 1 := by omega
            simp only [c, and_self, if_true, show x - 1 + 1 = x by omega, h3]
        · exact ⟨r', x, h1, by simp [er, h2], by simp [er, h3], h4⟩
end
end Go.Proofs.Ytjkklcigmikleaa
