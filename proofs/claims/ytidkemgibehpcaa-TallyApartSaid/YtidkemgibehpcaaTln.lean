/- Rows of counts compared; the document's example. -/
import Derived.Test.YtidkemgibehpcaaTlm
namespace Go.Proofs.Ytidkemgibehpcaa
open Go.RowKit
set_option linter.unusedVariables false
set_option linter.unusedSimpArgs false
def intL (l : List Int) : List Value := l.map fun x => .int .i64 x
theorem intL_len (l : List Int) : (intL l).length = l.length := by unfold intL; simp
/-- A row of integers that is ours, where there is something in it. -/
theorem own_int {w : World} {B k : Nat} {v : Value} {l : List Int} (h : w.ownsRow B 3 1 v k (intL l)) (hk : 0 < k) : ∃ g c, v = .slice (some ⟨g, 0, none⟩) k c ∧ B ≤ g ∧ g < w.heap.size ∧ k ≤ maxLen ∧ ∀ j, j < l.length → w.cell? ⟨g, 0 + j, none⟩ = some (.int .i64 (l.getD j 0)) := by
  have hl := h.1
  rw [intL_len, Nat.mul_one] at hl
  rcases h.2 with ⟨_, h1⟩ | ⟨g, cap, cur, rfl, hb, hg, h1, h2, h3, h4⟩
  · omega
  · have hb' : Blk w g 3 cur := hg
    refine ⟨g, cap, rfl, hb, hb'.size, by omega, fun j hj => ?_⟩
    have h5 : (intL l)[j]? = some (.int .i64 (l.getD j 0)) := by unfold intL; rw [List.getElem?_map, List.getElem?_eq_getElem hj, List.getD_eq_getElem?_getD, List.getElem?_eq_getElem hj]; rfl
    rw [hb'.at_, ← h5, ← h4, Nat.zero_add, List.getElem?_take_of_lt (by omega), Array.getElem?_toList]
theorem own_len {w : World} {B k : Nat} {v : Value} {l : List Int} (h : w.ownsRow B 3 1 v k (intL l)) : k = l.length ∧ k ≤ maxLen := by
  have hl := h.1
  rw [intL_len, Nat.mul_one] at hl
  refine ⟨hl.symm, ?_⟩
  rcases h.2 with ⟨_, h1⟩ | ⟨g, cap, cur, rfl, hb, hg, h1, h2, h3, h4⟩
  · omega
  · omega
theorem eq_own {w : World} {B B' n m : Nat} {v v' : Value} {l l' : List Int} (h : w.ownsRow B 3 1 v n (intL l)) (h' : w.ownsRow B' 3 1 v' m (intL l')) :
    Calls Try.prog 13 #[v, v'] w fun e w' => e = .returned (.bool (decide (l = l'))) ∧ ∃ q, w' = w.drewN q := by
  obtain ⟨hn, hn2⟩ := own_len h
  obtain ⟨hm, hm2⟩ := own_len h'
  unfold maxLen at hn2 hm2
  by_cases h0 : n = 0
  · obtain ⟨A, c, rfl⟩ := own_form h
    obtain ⟨A', c', rfl⟩ := own_form h'
    subst h0
    have hl : l = [] := List.length_eq_zero_iff.1 hn.symm
    subst hl
    refine (Try.slices_Equal_int_empty A A' c m c' w (by omega)).mono ?_
    rintro e w' ⟨rfl, rfl⟩
    refine ⟨?_, 0, rfl⟩
    congr 2
    rw [hm]
    cases l' <;> simp
  · by_cases hnm : n = m
    · subst hnm
      obtain ⟨g, c, rfl, _, _, _, hc⟩ := own_int h (by omega)
      obtain ⟨g', c', rfl, _, _, _, hc'⟩ := own_int h' (by omega)
      refine (Try.slices_Equal_int g 0 n c g' 0 n c' l l' w (by omega) (by omega) (by omega) (by omega) hc hc').mono ?_
      rintro e w' ⟨rfl, hq⟩
      refine ⟨?_, hq⟩
      congr 2
      rw [hn, List.take_length, ← hn, hm, List.take_length]
      exact Bool.eq_iff_iff.2 (by simp)
    · obtain ⟨A, c, rfl⟩ := own_form h
      obtain ⟨A', c', rfl⟩ := own_form h'
      refine (Try.slices_Equal_int_lens A A' n c m c' w hnm).mono ?_
      rintro e w' ⟨rfl, rfl⟩
      refine ⟨?_, 0, rfl⟩
      congr 2
      exact (decide_eq_false (fun e => hnm (by rw [hn, hm, e]))).symm

theorem rowF_int (f : Nat → Nat) (n : Nat) : rowF f n = intL ((List.range n).map fun k => (f k : Int)) := by unfold rowF intL; rw [List.map_map]; rfl
theorem eq_rows {w : World} {B B' n : Nat} {v v' : Value} {f : Nat → Nat} (h : w.ownsRow B 3 1 v n (rowF f n)) (h' : w.ownsRow B' 3 1 v' n (rowF f n)) :
    Calls Try.prog 13 #[v, v'] w fun e w' => e = .returned (.bool true) ∧ Below w.heap.size w w' := by
  rw [rowF_int] at h h'
  refine (eq_own h h').mono ?_
  rintro e w' ⟨rfl, q, rfl⟩
  exact ⟨by simp, rfl, rfl, rfl, Nat.le_refl _, fun _ _ => rfl⟩
theorem drewN_below {B : Nat} {w w' : World} (h : Below B w w') (n : Nat) : Below B w (w'.drewN n) := ⟨h.os, h.tape, h.output, h.size, h.block⟩
def o5 : Oc := ⟨0, 0, 0, 1, 0, 5⟩
theorem o5_row : rowF (cntK ([o5].filter fun o => isOfB (-1) o && whyB 1 o)) (topK ([o5].filter fun o => isOfB (-1) o && whyB 1 o)) = intL [0, 0, 0, 1] := by rfl
theorem o5_top : topK ([o5].filter fun o => isOfB (-1) o && whyB 1 o) = 4 := by rfl
theorem o5_ok : OkL [o5] := by
  intro o ho
  rw [List.mem_singleton.1 ho]
  unfold Oc.ok o5
  simp
set_option maxRecDepth 20000 in
set_option maxHeartbeats 4000000 in
theorem lawake (w : World) : Calls Try.prog 7 #[] w fun e w' => e = .returned (.bool true) ∧ Below w.heap.size w w' := by
  go_enter Try.func7, Try.ntmps7
  go_wp2_with (first | (go_at_call 24; refine (tnew (base := w.heap.size) _ (Nat.le_refl _)).mono ?_; rintro e w1 ⟨rfl, hl1, hb1, hz1⟩; have HL1 := Lib.hid hl1; have HB1 := Lib.hid hb1; clear hl1 hb1) | (go_at_call 23; refine (tadd o5 _ HL1.out (by simp) (by omega)).mono ?_; rintro e w2 ⟨rfl, r2, hr2, hl2, hk2⟩; have HL2 := Lib.hid hl2; have HB2 := Lib.hid (kept_below_log hk2 HL1.out (Nat.le_refl _) (by omega)); have hz2 := hk2.size; clear hl2 hk2 hr2) | (go_at_call 14; refine (tspread (-1) _ HL2.out (by simp) o5_ok).mono ?_; rintro e w3 ⟨v3, rfl, ho3, hb3⟩; rw [show ([] ++ [o5]) = [o5] from rfl, o5_row, o5_top] at ho3; obtain ⟨A3, c3, rfl⟩ := own_form ho3; have HO3 := Lib.hid ho3; have HB3 := Lib.hid hb3; have hz3 := hb3.size; clear ho3 hb3) | (go_at_call 13; refine (eq_own (l := [0, 0, 0, 1]) (l' := [0, 0, 0, 1]) (B' := 0) (HO3.out.alloc _) ⟨rfl, .inr ⟨_, _, _, rfl, Nat.zero_le _, Blk.made _ _ _, Nat.le_refl _, by unfold maxLen; omega, rfl, rfl⟩⟩).mono ?_; rintro e w4 ⟨rfl, q4, rfl⟩) | (go_at_call 11; refine (tlen _ (HL2.out.below (show Below w2.heap.size w2 ((w3.alloc _).drewN _) from drewN_below (HB3.out.alloc hz3 _) _))).mono ?_; rintro e w5 ⟨rfl, rfl⟩))
  go_ret
  refine ⟨rfl, drewN_below ((((HB1.out.trans (HB2.out.mono (Nat.le_refl _))).trans (HB3.out.mono (by omega))).alloc (by omega) _)) _⟩
end Go.Proofs.Ytidkemgibehpcaa
