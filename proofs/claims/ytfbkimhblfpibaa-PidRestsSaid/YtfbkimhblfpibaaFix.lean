/- What the calls of package fix answer. -/
import Derived.Test.YtfbkimhblfpibaaWide
import Derived.Test.YtfbkimhblfpibaaSat
namespace Go.Proofs.Ytfbkimhblfpibaa
open Go.ChangeShapes Go.WideShapes Go.ChangeAt Go.RowKit Kn
set_option linter.unusedVariables false
set_option maxHeartbeats 400000 in
theorem fadd_any (a b : Int) (w : World) (a0 : -9223372036854775808 ≤ a) (a1 : a ≤ 9223372036854775807) (b0 : -9223372036854775808 ≤ b) (b1 : b ≤ 9223372036854775807) :
    Calls Try.prog 17 #[.int .i64 a, .int .i64 b] w fun e w' => e = .returned (.int .i64 (sat (a + b))) ∧ w = w' := by
  go_enter Try.func17, Try.ntmps17
  go_wp2
  all_goals (go_ret; exact ⟨ret_int (by unfold sat; omega), rfl⟩)
set_option maxHeartbeats 400000 in
theorem fsub_any (a b : Int) (w : World) (a0 : -9223372036854775808 ≤ a) (a1 : a ≤ 9223372036854775807) (b0 : -9223372036854775808 ≤ b) (b1 : b ≤ 9223372036854775807) :
    Calls Try.prog 26 #[.int .i64 a, .int .i64 b] w fun e w' => e = .returned (.int .i64 (sat (a - b))) ∧ w = w' := by
  go_enter Try.func26, Try.ntmps26
  go_wp2
  all_goals (go_ret; exact ⟨ret_int (by unfold sat; omega), rfl⟩)
theorem below_any (a b : Int) (w : World) :
    Calls Try.prog 48 #[.int .i64 a, .int .i64 b] w fun e w' => e = .returned (.bool (negB a b)) ∧ w = w' := by
  go_enter Try.func48, Try.ntmps48
  go_wp2
  go_ret
  exact ⟨ret_bool (by unfold negB; cases decide (a < 0) <;> cases decide (b < 0) <;> rfl), rfl⟩
theorem size_any (a : Int) (w : World) (a0 : -9223372036854775808 ≤ a) (a1 : a ≤ 9223372036854775807) :
    Calls Try.prog 45 #[.int .i64 a] w fun e w' => e = .returned (.int .u64 (mag a)) ∧ w = w' := by
  by_cases h : a < 0
  · have e : IntKind.u64.wrap (-IntKind.u64.wrap a) = mag a := by rw [wrapu, wrapu]; unfold mag; split <;> omega
    go_enter Try.func45, Try.ntmps45
    go_wp2
    go_ret
    exact ⟨rfl, rfl⟩
  · have e : mag a = a := by unfold mag; split <;> omega
    rw [e]; clear e
    go_enter Try.func45, Try.ntmps45
    go_wp2
    go_ret
    exact ⟨rfl, rfl⟩
set_option maxHeartbeats 400000 in
theorem sat_neg_over (h l : Int) (w : World) (h0 : 0 ≤ h) (h1 : h ≤ 18446744073709551615) (l0 : 0 ≤ l) (l1 : l ≤ 18446744073709551615) (hn : 9223372036854775808 < num h l) :
    Calls Try.prog 53 #[.bool true, .agg #[.int .u64 h, .int .u64 l]] w fun e w' => e = .returned (.int .i64 (-9223372036854775808)) ∧ Below w.heap.size w w' := by
  have hc : cmpN (num h l) (num 0 9223372036854775808) = 1 := by unfold cmpN num at *; split <;> (try split) <;> omega
  have mL : mag (-9223372036854775808) = 9223372036854775808 := by decide
  go_enter Try.func53, Try.ntmps53
  go_wp2
  go_region_held3 (fun w' => w'.cell? ⟨w.heap.size, 0, none⟩ = some (.int .u64 h) ∧ w'.cell? ⟨w.heap.size, 1, none⟩ = some (.int .u64 l)) (go_keep)
    (first
      | (go_at_call 45; refine (size_any _ _ (by omega) (by omega)).mono ?_; rintro e w' ⟨rfl, rfl⟩)
      | (go_at_call 52; refine (wof_any _ _).mono ?_; rintro e w' ⟨rfl, hb1⟩; obtain ⟨hc1, hf1⟩ := bcell hb1; have hz1 : w.heap.size < w'.heap.size := by (have := hb1.size; simp at this; omega))
      | (go_at_call 56; refine (wcmp_any _ _ _ _ _ (by omega) (by omega) (by omega) (by omega) (by omega) (by omega) (by omega) (by omega)).mono ?_; rintro e w' ⟨rfl, hb2⟩; obtain ⟨hc2, hf2⟩ := bcell hb2))
  go_wp2
  go_ret
  exact ⟨rfl, ((((Below.refl _ _).alloc (Nat.le_refl _) _).drew).trans (hb1.mono (by simp))).trans (hb2.mono (by omega))⟩
set_option maxHeartbeats 400000 in
theorem sat_neg_fits (h l : Int) (w : World) (h0 : 0 ≤ h) (h1 : h ≤ 18446744073709551615) (l0 : 0 ≤ l) (l1 : l ≤ 18446744073709551615) (hn : num h l ≤ 9223372036854775808) :
    Calls Try.prog 53 #[.bool true, .agg #[.int .u64 h, .int .u64 l]] w fun e w' => e = .returned (.int .i64 (sat (- num h l))) ∧ Below w.heap.size w w' := by
  obtain ⟨c, hc⟩ : ∃ c, cmpN (num h l) (num 0 9223372036854775808) = c := ⟨_, rfl⟩
  have c0 : c ≤ 0 := by rw [← hc]; unfold cmpN num at *; split <;> (try split) <;> omega
  have e4 : IntKind.i64.wrap (IntKind.u64.wrap (-l)) = sat (- num h l) := by rw [IntKind.wrap_i64, wrapu]; unfold sat num at *; split <;> (try split) <;> omega
  have mL : mag (-9223372036854775808) = 9223372036854775808 := by decide
  go_enter Try.func53, Try.ntmps53
  go_wp2
  go_region_held3 (fun w' => w'.cell? ⟨w.heap.size, 0, none⟩ = some (.int .u64 h) ∧ w'.cell? ⟨w.heap.size, 1, none⟩ = some (.int .u64 l)) (go_keep)
    (first
      | (go_at_call 45; refine (size_any _ _ (by omega) (by omega)).mono ?_; rintro e w' ⟨rfl, rfl⟩)
      | (go_at_call 52; refine (wof_any _ _).mono ?_; rintro e w' ⟨rfl, hb1⟩; obtain ⟨hc1, hf1⟩ := bcell hb1; have hz1 : w.heap.size < w'.heap.size := by (have := hb1.size; simp at this; omega))
      | (go_at_call 56; refine (wcmp_any _ _ _ _ _ (by omega) (by omega) (by omega) (by omega) (by omega) (by omega) (by omega) (by omega)).mono ?_; rintro e w' ⟨rfl, hb2⟩; obtain ⟨hc2, hf2⟩ := bcell hb2))
  go_wp2
  go_ret
  exact ⟨rfl, ((((Below.refl _ _).alloc (Nat.le_refl _) _).drew).trans (hb1.mono (by simp))).trans (hb2.mono (by omega))⟩
set_option maxHeartbeats 400000 in
theorem sat_pos_over (h l : Int) (w : World) (h0 : 0 ≤ h) (h1 : h ≤ 18446744073709551615) (l0 : 0 ≤ l) (l1 : l ≤ 18446744073709551615) (hn : 9223372036854775807 < num h l) :
    Calls Try.prog 53 #[.bool false, .agg #[.int .u64 h, .int .u64 l]] w fun e w' => e = .returned (.int .i64 9223372036854775807) ∧ Below w.heap.size w w' := by
  have hc : cmpN (num h l) (num 0 9223372036854775807) = 1 := by unfold cmpN num at *; split <;> (try split) <;> omega
  have mL : mag (9223372036854775807) = 9223372036854775807 := by decide
  go_enter Try.func53, Try.ntmps53
  go_wp2
  go_region_held3 (fun w' => w'.cell? ⟨w.heap.size, 0, none⟩ = some (.int .u64 h) ∧ w'.cell? ⟨w.heap.size, 1, none⟩ = some (.int .u64 l)) (go_keep)
    (first
      | (go_at_call 45; refine (size_any _ _ (by omega) (by omega)).mono ?_; rintro e w' ⟨rfl, rfl⟩)
      | (go_at_call 52; refine (wof_any _ _).mono ?_; rintro e w' ⟨rfl, hb1⟩; obtain ⟨hc1, hf1⟩ := bcell hb1; have hz1 : w.heap.size < w'.heap.size := by (have := hb1.size; simp at this; omega))
      | (go_at_call 56; refine (wcmp_any _ _ _ _ _ (by omega) (by omega) (by omega) (by omega) (by omega) (by omega) (by omega) (by omega)).mono ?_; rintro e w' ⟨rfl, hb2⟩; obtain ⟨hc2, hf2⟩ := bcell hb2))
  go_wp2
  go_ret
  exact ⟨rfl, ((((Below.refl _ _).alloc (Nat.le_refl _) _).drew).trans (hb1.mono (by simp))).trans (hb2.mono (by omega))⟩
set_option maxHeartbeats 400000 in
theorem sat_pos_fits (h l : Int) (w : World) (h0 : 0 ≤ h) (h1 : h ≤ 18446744073709551615) (l0 : 0 ≤ l) (l1 : l ≤ 18446744073709551615) (hn : num h l ≤ 9223372036854775807) :
    Calls Try.prog 53 #[.bool false, .agg #[.int .u64 h, .int .u64 l]] w fun e w' => e = .returned (.int .i64 (sat (num h l))) ∧ Below w.heap.size w w' := by
  obtain ⟨c, hc⟩ : ∃ c, cmpN (num h l) (num 0 9223372036854775807) = c := ⟨_, rfl⟩
  have c0 : c ≤ 0 := by rw [← hc]; unfold cmpN num at *; split <;> (try split) <;> omega
  have e4 : IntKind.i64.wrap l = sat (num h l) := by rw [IntKind.wrap_i64]; unfold sat num at *; split <;> (try split) <;> omega
  have mL : mag (9223372036854775807) = 9223372036854775807 := by decide
  go_enter Try.func53, Try.ntmps53
  go_wp2
  go_region_held3 (fun w' => w'.cell? ⟨w.heap.size, 0, none⟩ = some (.int .u64 h) ∧ w'.cell? ⟨w.heap.size, 1, none⟩ = some (.int .u64 l)) (go_keep)
    (first
      | (go_at_call 45; refine (size_any _ _ (by omega) (by omega)).mono ?_; rintro e w' ⟨rfl, rfl⟩)
      | (go_at_call 52; refine (wof_any _ _).mono ?_; rintro e w' ⟨rfl, hb1⟩; obtain ⟨hc1, hf1⟩ := bcell hb1; have hz1 : w.heap.size < w'.heap.size := by (have := hb1.size; simp at this; omega))
      | (go_at_call 56; refine (wcmp_any _ _ _ _ _ (by omega) (by omega) (by omega) (by omega) (by omega) (by omega) (by omega) (by omega)).mono ?_; rintro e w' ⟨rfl, hb2⟩; obtain ⟨hc2, hf2⟩ := bcell hb2))
  go_wp2
  go_ret
  exact ⟨rfl, ((((Below.refl _ _).alloc (Nat.le_refl _) _).drew).trans (hb1.mono (by simp))).trans (hb2.mono (by omega))⟩
theorem sat_neg (h l : Int) (w : World) (h0 : 0 ≤ h) (h1 : h ≤ 18446744073709551615) (l0 : 0 ≤ l) (l1 : l ≤ 18446744073709551615) :
    Calls Try.prog 53 #[.bool true, .agg #[.int .u64 h, .int .u64 l]] w fun e w' => e = .returned (.int .i64 (sat (- num h l))) ∧ Below w.heap.size w w' := by
  by_cases hn : 9223372036854775808 < num h l
  · have e : sat (- num h l) = -9223372036854775808 := by unfold sat; split <;> (try split) <;> omega
    rw [e]; exact sat_neg_over h l w h0 h1 l0 l1 hn
  · exact sat_neg_fits h l w h0 h1 l0 l1 (by omega)
theorem sat_pos (h l : Int) (w : World) (h0 : 0 ≤ h) (h1 : h ≤ 18446744073709551615) (l0 : 0 ≤ l) (l1 : l ≤ 18446744073709551615) :
    Calls Try.prog 53 #[.bool false, .agg #[.int .u64 h, .int .u64 l]] w fun e w' => e = .returned (.int .i64 (sat (num h l))) ∧ Below w.heap.size w w' := by
  by_cases hn : 9223372036854775807 < num h l
  · have e : sat (num h l) = 9223372036854775807 := by unfold sat; split <;> (try split) <;> omega
    rw [e]; exact sat_pos_over h l w h0 h1 l0 l1 hn
  · exact sat_pos_fits h l w h0 h1 l0 l1 (by omega)
set_option maxHeartbeats 400000 in
theorem round_pos (h l r : Int) (w : World) (h0 : 0 ≤ h) (h1 : h ≤ 18446744073709551615) (l0 : 0 ≤ l) (l1 : l ≤ 18446744073709551615) :
    Calls Try.prog 47 #[.bool false, .agg #[.int .u64 h, .int .u64 l], .int .u64 r] w fun e w' => e = .returned (.int .i64 (sat (num h l))) ∧ Below w.heap.size w w' := by
  go_enter Try.func47, Try.ntmps47
  go_wp2_with (go_at_call 53; refine (sat_pos _ _ _ h0 h1 l0 l1).mono ?_; rintro e w' ⟨rfl, hb1⟩)
  go_ret
  exact ⟨rfl, ((Below.refl _ _).alloc (Nat.le_refl _) _).trans (hb1.mono (by simp))⟩
set_option maxHeartbeats 400000 in
theorem round_exact (h l : Int) (w : World) (h0 : 0 ≤ h) (h1 : h ≤ 18446744073709551615) (l0 : 0 ≤ l) (l1 : l ≤ 18446744073709551615) :
    Calls Try.prog 47 #[.bool true, .agg #[.int .u64 h, .int .u64 l], .int .u64 0] w fun e w' => e = .returned (.int .i64 (sat (- num h l))) ∧ Below w.heap.size w w' := by
  go_enter Try.func47, Try.ntmps47
  go_wp2_with (go_at_call 53; refine (sat_neg _ _ _ h0 h1 l0 l1).mono ?_; rintro e w' ⟨rfl, hb1⟩)
  go_ret
  exact ⟨rfl, ((Below.refl _ _).alloc (Nat.le_refl _) _).trans (hb1.mono (by simp))⟩
set_option maxHeartbeats 400000 in
theorem round_rest (h l r : Int) (w : World) (h0 : 0 ≤ h) (h1 : h ≤ 4294967295) (l0 : 0 ≤ l) (l1 : l ≤ 18446744073709551615) (hr : ¬ r = 0) :
    Calls Try.prog 47 #[.bool true, .agg #[.int .u64 h, .int .u64 l], .int .u64 r] w fun e w' => e = .returned (.int .i64 (sat (-(num h l + 1)))) ∧ Below w.heap.size w w' := by
  have ea : addN (num h l) (num 0 1) = num h l + 1 := by unfold addN num; omega
  have n0 : 0 ≤ num h l + 1 := by unfold num; omega
  have n1 : num h l + 1 < 340282366920938463463374607431768211456 := by unfold num; omega
  have b0 := hi0 _ n0
  have b1 := hi1 _ n1
  have b2 := lo0 (num h l + 1)
  have b3 := lo1 (num h l + 1)
  have en := num_hi_lo (num h l + 1)
  go_enter Try.func47, Try.ntmps47
  go_wp2
  go_region_with (first
      | (go_at_call 52; refine (wof_any _ _).mono ?_; rintro e w' ⟨rfl, hb1⟩; obtain ⟨hc1, hf1⟩ := bcell hb1; have hz1 : w.heap.size < w'.heap.size := by (have := hb1.size; simp at this; omega))
      | (go_at_call 51; refine (wadd_any _ _ _ _ _ (by omega) (by omega) (by omega) (by omega) (by omega) (by omega) (by omega) (by omega)).mono ?_; rintro e w' ⟨rfl, hb2⟩; obtain ⟨hc2, hf2⟩ := bcell hb2))
  all_goals
    go_wp2_with (go_at_call 53; refine (sat_neg _ _ _ b0 b1 b2 b3).mono ?_; rintro e w' ⟨rfl, hb3⟩; rw [en])
    go_ret
    exact ⟨rfl, (((((((Below.refl _ _).alloc (Nat.le_refl _) _).drew).trans (hb1.mono (by simp))).trans (hb2.mono (by omega))).setCell (by simp) _).setCell (by simp) _).trans (hb3.mono (by have := hb1.size; have := hb2.size; simp at *; omega))⟩
end Go.Proofs.Ytfbkimhblfpibaa
