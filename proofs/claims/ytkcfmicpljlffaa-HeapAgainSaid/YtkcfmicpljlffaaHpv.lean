/- Two rows of integers are one; a nil heap's due; the document's example. -/
import Derived.Test.YtkcfmicpljlffaaHpu
namespace Go.Proofs.Ytkcfmicpljlffaa
open Go.ChangeShapes Go.WideShapes Go.RowKit
set_option linter.unusedVariables false
set_option linter.unusedSimpArgs false
def intL (l : List Int) : List Value := l.map fun x => .int .i64 x
theorem intL_len (l : List Int) : (intL l).length = l.length := by unfold intL; simp
/-- A row of integers that is ours, where there is something in it. -/
theorem own_int {w : World} {B k : Nat} {v : Value} {l : List Int} (h : w.ownsRow B 3 1 v k (intL l)) (hk : 0 < k) : ∃ g c, v = .slice (some ⟨g, 0, none⟩) k c ∧ B ≤ g ∧ g < w.heap.size ∧ k ≤ maxLen ∧ ∀ j, j < l.length → w.cell? ⟨g, 0 + j, none⟩ = some (.int .i64 (l.getD j 0)) := by
  have hl := h.1
  rw [intL_len, Nat.mul_one] at hl
  rcases h.2 with ⟨_, h1⟩ | ⟨g, cap, cur, rfl, hb, hg, h1, h2, h3, h4⟩
  · omega
  · have hb' : Blk w g 3 cur := hg
    refine ⟨g, cap, rfl, hb, hb'.size, by omega, fun j hj => ?_⟩
    have h5 : (intL l)[j]? = some (.int .i64 (l.getD j 0)) := by unfold intL; rw [List.getElem?_map, List.getElem?_eq_getElem hj, List.getD_eq_getElem?_getD, List.getElem?_eq_getElem hj]; rfl
    rw [hb'.at_, ← h5, ← h4, Nat.zero_add, List.getElem?_take_of_lt (by omega), Array.getElem?_toList]
theorem own_len {w : World} {B k : Nat} {v : Value} {l : List Int} (h : w.ownsRow B 3 1 v k (intL l)) : k = l.length ∧ k ≤ maxLen := by
  have hl := h.1
  rw [intL_len, Nat.mul_one] at hl
  refine ⟨hl.symm, ?_⟩
  rcases h.2 with ⟨_, h1⟩ | ⟨g, cap, cur, rfl, hb, hg, h1, h2, h3, h4⟩
  · omega
  · omega
theorem eq_own {w : World} {B B' n m : Nat} {v v' : Value} {l l' : List Int} (h : w.ownsRow B 3 1 v n (intL l)) (h' : w.ownsRow B' 3 1 v' m (intL l')) :
    Calls Try.prog 13 #[v, v'] w fun e w' => e = .returned (.bool (decide (l = l'))) ∧ ∃ q, w' = w.drewN q := by
  obtain ⟨hn, hn2⟩ := own_len h
  obtain ⟨hm, hm2⟩ := own_len h'
  unfold maxLen at hn2 hm2
  by_cases h0 : n = 0
  · obtain ⟨A, c, rfl⟩ := own_form h
    obtain ⟨A', c', rfl⟩ := own_form h'
    subst h0
    have hl : l = [] := List.length_eq_zero_iff.1 hn.symm
    subst hl
    refine (Try.slices_Equal_int_empty A A' c m c' w (by omega)).mono ?_
    rintro e w' ⟨rfl, rfl⟩
    refine ⟨?_, 0, rfl⟩
    congr 2
    rw [hm]
    cases l' <;> simp
  · by_cases hnm : n = m
    · subst hnm
      obtain ⟨g, c, rfl, _, _, _, hc⟩ := own_int h (by omega)
      obtain ⟨g', c', rfl, _, _, _, hc'⟩ := own_int h' (by omega)
      refine (Try.slices_Equal_int g 0 n c g' 0 n c' l l' w (by omega) (by omega) (by omega) (by omega) hc hc').mono ?_
      rintro e w' ⟨rfl, hq⟩
      refine ⟨?_, hq⟩
      congr 2
      rw [hn, List.take_length, ← hn, hm, List.take_length]
      exact Bool.eq_iff_iff.2 (by simp)
    · obtain ⟨A, c, rfl⟩ := own_form h
      obtain ⟨A', c', rfl⟩ := own_form h'
      refine (Try.slices_Equal_int_lens A A' n c m c' w hnm).mono ?_
      rintro e w' ⟨rfl, rfl⟩
      refine ⟨?_, 0, rfl⟩
      congr 2
      exact (decide_eq_false (fun e => hnm (by rw [hn, hm, e]))).symm
theorem duefrom_nil (key : Int) (w : World) : Calls Try.prog 25 #[.pointer none, .int .i64 0, .int .i64 key, .slice none 0 0] w fun e w' => e = .returned (.slice none 0 0) ∧ w = w' := by
  go_enter Try.func25, Try.ntmps25
  go_wp2_with fail
  refine (hlen_nil _).mono ?_
  rintro e w1 ⟨rfl, rfl⟩
  go_wp2_with fail
  go_ret
  exact ⟨rfl, rfl⟩
set_option maxRecDepth 20000 in
set_option maxHeartbeats 1000000 in
theorem due_nil (key : Int) (w : World) : Calls Try.prog 14 #[.pointer none, .int .i64 key] w fun e w' => ∃ A, e = .returned (.slice A 0 0) ∧ Below w.heap.size w w' := by
  have hm : ∀ w, (Instr.makeSlice 40 (.int .i64 0) (.int .i64 0)).run Try.prog w = .ok (.slice (some ⟨w.heap.size, 0, none⟩) 0 0) (w.alloc (.cells (madeCells #[.int .i64 0] 0) 3)) := fun w => run_ints_ 0 (by omega) w
  go_enter Try.func14, Try.ntmps14
  go_wp2_with fail
  refine (duefrom_nil _ _).mono ?_
  rintro e w1 ⟨rfl, rfl⟩
  go_wp2_with fail
  refine (hsort_nil _ _).mono ?_
  rintro e w1 ⟨rfl, rfl⟩
  go_wp2_with fail
  go_loopw [19] (fun s19 wr => s19 = .int .i64 0 ∧ Below w.heap.size w wr) (fun _ _ => 0)
  case atStart => exact ⟨rfl, (Below.refl _ _).alloc (Nat.le_refl _) _⟩
  case round =>
    obtain ⟨rfl, hb⟩ := hrel
    go_wp2_with fail
    go_ret
    exact ⟨_, rfl, hb⟩
set_option maxRecDepth 20000 in
set_option maxHeartbeats 2000000 in
theorem awake07 (w : World) : Calls Try.prog 8 #[] w fun e w' => e = .returned (.bool true) ∧ Below w.heap.size w w' := by
  have i1 : insE ⟨5, 1, ((0 : Nat) : Int)⟩ [] = [⟨5, 1, 0⟩] := rfl
  have i2 : insE ⟨5, 0, ((1 : Nat) : Int)⟩ [⟨5, 1, 0⟩] = [⟨5, 0, 1⟩, ⟨5, 1, 0⟩] := by simp [insE, ltE]
  have i3 : insE ⟨9, 0, ((2 : Nat) : Int)⟩ [⟨5, 0, 1⟩, ⟨5, 1, 0⟩] = [⟨5, 0, 1⟩, ⟨5, 1, 0⟩, ⟨9, 0, 2⟩] := by simp [insE, ltE]
  have i4 : dueE 5 [⟨5, 0, 1⟩, ⟨5, 1, 0⟩, ⟨9, 0, 2⟩] = [⟨5, 0, 1⟩, ⟨5, 1, 0⟩] := by simp [dueE]
  have I1 := Lib.hid i1
  have I2 := Lib.hid i2
  have I3 := Lib.hid i3
  have I4 := Lib.hid i4
  clear i1 i2 i3 i4
  go_enter Try.func8, Try.ntmps8
  go_wp2_with fail
  refine (lnew_yes (base := w.heap.size) 3 (by omega) (by omega) _ (Nat.le_refl _)).mono ?_
  rintro e w1 ⟨p, rfl, hp, h1, b1⟩
  have H1 := Lib.hid h1
  have B1 := Lib.hid b1
  clear h1 b1
  go_wp2_with fail
  refine (lput_new (i := 0) 5 1 (by omega) rfl _ H1.out).mono ?_
  rw [I1.out]
  rintro e w2 ⟨rfl, h2, b2⟩
  have H2 := Lib.hid h2
  have B2 := Lib.hid (B1.out.trans b2)
  clear h2 b2
  go_wp2_with fail
  refine (lput_new (i := 1) 5 0 (by omega) rfl _ H2.out).mono ?_
  rw [I2.out]
  rintro e w3 ⟨rfl, h3, b3⟩
  have H3 := Lib.hid h3
  have B3 := Lib.hid (B2.out.trans b3)
  clear h3 b3
  go_wp2_with fail
  refine (lput_new (i := 2) 9 0 (by omega) rfl _ H3.out).mono ?_
  rw [I3.out]
  rintro e w4 ⟨rfl, h4, b4⟩
  have H4 := Lib.hid h4
  have B4 := Lib.hid (B3.out.trans b4)
  clear h4 b4
  go_wp2_with fail
  refine (lmin_some _ H4.out).mono ?_
  rintro e w5 ⟨rfl, rfl⟩
  go_wp2_with fail
  refine (ldue 5 _ H4.out).mono ?_
  rw [I4.out]
  rintro e w6 ⟨g, rfl, o6, b6⟩
  have O6 := Lib.hid o6
  have B6 := Lib.hid (B4.out.trans (b6.mono B4.out.size))
  clear o6 b6
  go_wp2_with fail
  refine (eq_own (l := [1, 0]) (l' := [1, 0]) (B' := 0) (O6.out.alloc _) ⟨rfl, .inr ⟨_, _, _, rfl, Nat.zero_le _, Blk.made _ _ _, Nat.le_refl _, by unfold maxLen; omega, rfl, rfl⟩⟩).mono ?_
  rintro e w7 ⟨rfl, q, rfl⟩
  go_wp2_with fail
  go_ret
  exact ⟨rfl, by have := B6.out.alloc B6.out.size (.cells #[.int .i64 1, .int .i64 0] 3); exact ⟨this.os, this.tape, this.output, this.size, this.block⟩⟩
end Go.Proofs.Ytkcfmicpljlffaa
