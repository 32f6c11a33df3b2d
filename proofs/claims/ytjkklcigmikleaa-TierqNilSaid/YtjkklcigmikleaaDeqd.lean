/- Rows as sequences, in memory: what Push, Remove and the ends do to them; layer 6's example stands. -/
import Derived.Test.YtjkklcigmikleaaDeqc
namespace Go.Proofs.Ytjkklcigmikleaa
open Go.RowKit
set_option linter.unusedVariables false
/-- In w the rows behind ⟨p, 0⟩ are A (row r has n r members); none was pushed more than ub times. -/
def RowsAt (w : World) (p a b R M : Nat) (n : Nat → Nat) (A : Nat → Nat → Nat) (ub : Int) : Prop :=
  ∃ E0 E1 C W B0 B1 U : Nat → Int, DeqAt w p a b R M E0 E1 C W B0 B1 U ∧ Rep R M n A E0 E1 C W B0 B1 ∧ ∀ i, 0 ≤ U i ∧ U i ≤ ub
section
variable {p a b R M : Nat} {n : Nat → Nat} {A : Nat → Nat → Nat} {ub : Int}
theorem RowsAt.kept {w w' : World} {own : Nat → Prop} (h : RowsAt w p a b R M n A ub) (hk : Kept own w w') (op : ¬ own p) (oa : ¬ own a) (ob : ¬ own b) : RowsAt w' p a b R M n A ub := by
  obtain ⟨E0, E1, C, W, B0, B1, U, h1, h2, h3⟩ := h
  exact ⟨E0, E1, C, W, B0, B1, U, h1.kept hk op oa ob, h2, h3⟩
theorem RowsAt.lts {w : World} (h : RowsAt w p a b R M n A ub) : p < w.heap.size ∧ a < w.heap.size ∧ b < w.heap.size := by
  obtain ⟨E0, E1, C, W, B0, B1, U, h1, h2, h3⟩ := h
  exact h1.lts
theorem RowsAt.below {w w' : World} {B : Nat} (h : RowsAt w p a b R M n A ub) (hb : Below B w w') (hp : p < B) (ha : a < B) (hbb : b < B) : RowsAt w' p a b R M n A ub := by
  obtain ⟨E0, E1, C, W, B0, B1, U, h1, h2, h3⟩ := h
  exact ⟨E0, E1, C, W, B0, B1, U, h1.below hb hp ha hbb, h2, h3⟩
theorem RowsAt.apart {w : World} {g : Nat} {t : TypeId} {cs : Array Value} (h : RowsAt w p a b R M n A ub) (hb : Blk w g t cs) (h1 : t ≠ 104) (h2 : t ≠ 107) (h3 : t ≠ 109) : ¬ (g = p ∨ g = a ∨ g = b) := by
  obtain ⟨E0, E1, C, W, B0, B1, U, hd, _, _⟩ := h
  obtain ⟨cs, bc, _, _⟩ := hd.rows
  obtain ⟨fs, bf, _, _⟩ := hd.mems
  rintro (e | e | e)
  · exact hb.other hd.head h1 e
  · exact hb.other bc h2 e
  · exact hb.other bf h3 e
theorem rows_push {r i : Nat} (w : World) (h : RowsAt w p a b R M n A ub) (hr : r < R) (hi : i < M) (hnew : ∀ r', r' < R → ∀ k, k < n r' → A r' k ≠ i) (hub : ub ≤ 9223372036854775807) (hn : n r ≤ 1000000) :
    Calls Try.prog 31 #[.pointer (some ⟨p, 0, none⟩), .int .i64 (r : Int), .int .i64 (i : Int)] w fun e w' => e = .returned (.int .i64 0) ∧
      RowsAt w' p a b R M (fun j => if j = r then n r + 1 else n j) (fun j k => if j = r ∧ k = n r then i else A j k) (ub + 1) ∧ Kept (fun g => g = a ∨ g = b) w w' := by
  obtain ⟨E0, E1, C, W, B0, B1, U, h1, h2, h3⟩ := h
  have hW : W i = -1 := by
    rcases h2.out i hi with c | ⟨r', k, c1, c2, c3, _⟩
    · exact c
    · exact absurd c3 (hnew r' c1 k c2)
  have hC := h2.cnt r hr
  have hU := h3 i
  have hE := h2.last r hr
  have hU' : ∀ j, 0 ≤ (if j = i then U i + 1 else U j) ∧ (if j = i then U i + 1 else U j) ≤ ub + 1 := fun j => by
    have := h3 j
    by_cases e : j = i
    · rw [if_pos e]; omega
    · rw [if_neg e]; omega
  by_cases hz : n r = 0
  · have hl : E1 r = -1 := by rw [hE]; unfold pv; rw [if_pos hz]
    refine (push_none hr hi hW hl hU.1 (by omega) (by omega) (by omega) w h1).mono fun e w' ⟨he, hd, hk⟩ => ⟨he, ⟨_, _, _, _, _, _, _, hd, h2.push hr hi hW ?_ ?_ ?_ ?_ ?_ ?_, hU'⟩, hk⟩
    · intro j hj; simp [hz]
    · intro j hj; rfl
    · intro j hj; by_cases e : j = r <;> simp [e]
    · intro j; rfl
    · intro j; rw [hl]
    · intro j
      by_cases e : j = i
      · simp [e]
      · rw [hl]
        have : ¬ (j : Int) = -1 := by omega
        simp [e, this]
  · have hl : E1 r = (A r (n r - 1) : Int) := by rw [hE]; unfold pv; rw [if_neg hz]
    have hm := h2.mem r hr (n r - 1) (by omega)
    have hx := hnew r hr (n r - 1) (by omega)
    refine (push_some hr hi hW hm.1 hx hl hU.1 (by omega) (by omega) (by omega) w h1).mono fun e w' ⟨he, hd, hk⟩ => ⟨he, ⟨_, _, _, _, _, _, _, hd, h2.push hr hi hW ?_ ?_ ?_ ?_ ?_ ?_, hU'⟩, hk⟩
    · intro j hj; simp [hz]
    · intro j hj; rfl
    · intro j hj; by_cases e : j = r <;> simp [e]
    · intro j; rfl
    · intro j; rw [hl]
    · intro j
      rw [hl]
      by_cases e : j = i
      · simp [e]
      · by_cases e2 : j = A r (n r - 1)
        · simp [e2]
        · have : ¬ (j : Int) = (A r (n r - 1) : Int) := by omega
          simp [e, e2, this]
theorem rows_busy {r r' k i : Nat} (w : World) (h : RowsAt w p a b R M n A ub) (hr : r < R) (hi : i < M) (hr' : r' < R) (hk : k < n r') (he : A r' k = i) :
    Calls Try.prog 31 #[.pointer (some ⟨p, 0, none⟩), .int .i64 (r : Int), .int .i64 (i : Int)] w fun e w' => e = .returned (.int .i64 10) ∧ w = w' := by
  obtain ⟨E0, E1, C, W, B0, B1, U, h1, h2, h3⟩ := h
  have hW := (h2.mem r' hr' k hk).2.1
  rw [he] at hW
  exact push_busy hr hi hW w h1
theorem rows_rem {r k : Nat} (w : World) (h : RowsAt w p a b R M n A ub) (hr : r < R) (hk : k < n r) (hn : n r ≤ 1000000) {i : Nat} (hi : A r k = i) :
    Calls Try.prog 40 #[.pointer (some ⟨p, 0, none⟩), .int .i64 (i : Int)] w fun e w' => e = .returned (.int .i64 0) ∧
      RowsAt w' p a b R M (fun j => if j = r then n r - 1 else n j) (fun j x => if j = r ∧ k ≤ x then A r (x + 1) else A j x) ub ∧ Kept (fun g => g = a ∨ g = b) w w' := by
  subst hi
  obtain ⟨E0, E1, C, W, B0, B1, U, h1, h2, h3⟩ := h
  have hm := h2.mem r hr k hk
  have hC := h2.cnt r hr
  by_cases e0 : k = 0
  · have b0 : pv (A r) k = -1 := by unfold pv; rw [if_pos e0]
    by_cases e1 : k + 1 < n r
    · have b1 : nx (A r) (n r) k = (A r (k + 1) : Int) := by unfold nx; rw [if_pos e1]
      have hy := h2.mem r hr (k + 1) e1
      refine (rem_nm hr hm.1 hm.2.1 hy.1 (hm.2.2.1.trans b0) (hm.2.2.2.trans b1) (by omega) (by omega) w h1).mono fun e w' ⟨he, hd, hk'⟩ => ⟨he, ⟨_, _, _, _, _, _, _, hd, h2.remove hr hk ?_ ?_ ?_ ?_ ?_ ?_, h3⟩, hk'⟩
      · intro j hj; rw [b1]; by_cases e : j = r <;> simp [e, e0]
      · intro j hj; simp [show ¬ (k + 1 = n r) by omega]
      · intro j hj; by_cases e : j = r <;> simp [e]
      · intro j; rfl
      · intro j; rw [b0, b1]; by_cases e : j = A r (k + 1)
        · simp [e]
        · have : ¬ (j : Int) = (A r (k + 1) : Int) := by omega
          simp [e, this]
      · intro j; rw [b0, if_neg (by omega)]
    · have b1 : nx (A r) (n r) k = -1 := by unfold nx; rw [if_neg e1]
      refine (rem_nn hr hm.1 hm.2.1 (hm.2.2.1.trans b0) (hm.2.2.2.trans b1) (by omega) (by omega) w h1).mono fun e w' ⟨he, hd, hk'⟩ => ⟨he, ⟨_, _, _, _, _, _, _, hd, h2.remove hr hk ?_ ?_ ?_ ?_ ?_ ?_, h3⟩, hk'⟩
      · intro j hj; rw [b1]; simp [e0]
      · intro j hj; rw [b0]; simp [show k + 1 = n r by omega]
      · intro j hj; by_cases e : j = r <;> simp [e]
      · intro j; rfl
      · intro j; rw [b1, if_neg (by omega)]
      · intro j; rw [b0, if_neg (by omega)]
  · have b0 : pv (A r) k = (A r (k - 1) : Int) := by unfold pv; rw [if_neg e0]
    have hx := h2.mem r hr (k - 1) (by omega)
    by_cases e1 : k + 1 < n r
    · have b1 : nx (A r) (n r) k = (A r (k + 1) : Int) := by unfold nx; rw [if_pos e1]
      have hy := h2.mem r hr (k + 1) e1
      refine (rem_mm hr hm.1 hm.2.1 hx.1 hy.1 (hm.2.2.1.trans b0) (hm.2.2.2.trans b1) (by omega) (by omega) w h1).mono fun e w' ⟨he, hd, hk'⟩ => ⟨he, ⟨_, _, _, _, _, _, _, hd, h2.remove hr hk ?_ ?_ ?_ ?_ ?_ ?_, h3⟩, hk'⟩
      · intro j hj; simp [e0]
      · intro j hj; simp [show ¬ (k + 1 = n r) by omega]
      · intro j hj; by_cases e : j = r <;> simp [e]
      · intro j; rfl
      · intro j; rw [b0, b1]; by_cases e : j = A r (k + 1)
        · simp [e]
        · have : ¬ (j : Int) = (A r (k + 1) : Int) := by omega
          simp [e, this]
      · intro j; rw [b0, b1]; by_cases e : j = A r (k - 1)
        · simp [e]
        · have : ¬ (j : Int) = (A r (k - 1) : Int) := by omega
          simp [e, this]
    · have b1 : nx (A r) (n r) k = -1 := by unfold nx; rw [if_neg e1]
      refine (rem_mn hr hm.1 hm.2.1 hx.1 (hm.2.2.1.trans b0) (hm.2.2.2.trans b1) (by omega) (by omega) w h1).mono fun e w' ⟨he, hd, hk'⟩ => ⟨he, ⟨_, _, _, _, _, _, _, hd, h2.remove hr hk ?_ ?_ ?_ ?_ ?_ ?_, h3⟩, hk'⟩
      · intro j hj; simp [e0]
      · intro j hj; rw [b0]; simp [show k + 1 = n r by omega]
      · intro j hj; by_cases e : j = r <;> simp [e]
      · intro j; rfl
      · intro j; rw [b1, if_neg (by omega)]
      · intro j; rw [b0, b1]; by_cases e : j = A r (k - 1)
        · simp [e]
        · have : ¬ (j : Int) = (A r (k - 1) : Int) := by omega
          simp [e, this]
theorem rows_front {r : Nat} (w : World) (h : RowsAt w p a b R M n A ub) (hr : r < R) (hn : 0 < n r) :
    Calls Try.prog 47 #[.pointer (some ⟨p, 0, none⟩), .int .i64 (r : Int)] w fun e w' => e = .returned (.tuple #[.int .i64 (A r 0 : Int), .bool true]) ∧ w = w' := by
  obtain ⟨E0, E1, C, W, B0, B1, U, h1, h2, h3⟩ := h
  have hC := h2.cnt r hr
  have hF := h2.first r hr
  unfold fst at hF
  rw [if_pos hn] at hF
  rw [← hF]
  exact dfront_any hr (by omega) w h1
theorem rows_back {r : Nat} (w : World) (h : RowsAt w p a b R M n A ub) (hr : r < R) (hn : 0 < n r) :
    Calls Try.prog 48 #[.pointer (some ⟨p, 0, none⟩), .int .i64 (r : Int)] w fun e w' => e = .returned (.tuple #[.int .i64 (A r (n r - 1) : Int), .bool true]) ∧ w = w' := by
  obtain ⟨E0, E1, C, W, B0, B1, U, h1, h2, h3⟩ := h
  have hC := h2.cnt r hr
  have hF := h2.last r hr
  unfold pv at hF
  rw [if_neg (by omega)] at hF
  rw [← hF]
  exact dback_any hr (by omega) w h1
theorem rows_len {r : Nat} (w : World) (h : RowsAt w p a b R M n A ub) (hr : r < R) :
    Calls Try.prog 52 #[.pointer (some ⟨p, 0, none⟩), .int .i64 (r : Int)] w fun e w' => e = .returned (.int .i64 (n r : Int)) ∧ w = w' := by
  obtain ⟨E0, E1, C, W, B0, B1, U, h1, h2, h3⟩ := h
  rw [← h2.cnt r hr]
  exact dlen_yes hr w h1
end
end Go.Proofs.Ytjkklcigmikleaa
