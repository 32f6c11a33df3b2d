/- What the calls of package fix answer: products, quotients, and the calls of Q. -/
import Derived.Test.YtbmbapklbnhnpaaFix
namespace Go.Proofs.Ytbmbapklbnhnpaa
open Go.ChangeShapes Go.WideShapes Go.ChangeAt Go.RowKit Kn
set_option linter.unusedVariables false
set_option maxHeartbeats 400000 in
theorem fmul_t (a b : Int) (w : World) (a0 : -9223372036854775808 ≤ a) (a1 : a ≤ 9223372036854775807) (b0 : -9223372036854775808 ≤ b) (b1 : b ≤ 9223372036854775807) (hneg : negB a b = true) :
    Calls Try.prog 47 #[.int .i64 a, .int .i64 b] w fun e w' => e = .returned (.int .i64 (sat (a * b))) ∧ Below w.heap.size w w' := by
  have m0 := mag0 a
  have m1 := mag1 a a0 a1
  have m2 := mag0 b
  have m3 := mag1 b b0 b1
  obtain ⟨n0, n1⟩ := magmul a b a0 a1 b0 b1
  rw [mul_neg a b hneg]
  have k0 := hi0 _ n0
  have k1 := hi1 (mag a * mag b) (by omega)
  have k2 := lo0 (mag a * mag b)
  have k3 := lo1 (mag a * mag b)
  have en := num_hi_lo (mag a * mag b)
  go_enter Try.func47, Try.ntmps47
  go_wp2_with (first
    | (go_at_call 74; refine (below_any _ _ _).mono ?_; rintro e w' ⟨rfl, rfl⟩)
    | (go_at_call 75; refine (size_any _ _ (by omega) (by omega)).mono ?_; rintro e w' ⟨rfl, rfl⟩)
    | (go_at_call 21; refine (wmul_any _ _ _ (by omega) (by omega) (by omega) (by omega)).mono ?_; rintro e w1 ⟨rfl, hb1⟩)
    | (go_at_call 73; refine (sat_neg _ _ _ k0 k1 k2 k3).mono ?_; rintro e w2 ⟨rfl, hb2⟩; rw [en]))
  go_ret
  exact ⟨rfl, hb1.trans (hb2.mono hb1.size)⟩
set_option maxHeartbeats 400000 in
theorem fmul_f (a b : Int) (w : World) (a0 : -9223372036854775808 ≤ a) (a1 : a ≤ 9223372036854775807) (b0 : -9223372036854775808 ≤ b) (b1 : b ≤ 9223372036854775807) (hneg : negB a b = false) :
    Calls Try.prog 47 #[.int .i64 a, .int .i64 b] w fun e w' => e = .returned (.int .i64 (sat (a * b))) ∧ Below w.heap.size w w' := by
  have m0 := mag0 a
  have m1 := mag1 a a0 a1
  have m2 := mag0 b
  have m3 := mag1 b b0 b1
  obtain ⟨n0, n1⟩ := magmul a b a0 a1 b0 b1
  rw [mul_pos a b hneg]
  have k0 := hi0 _ n0
  have k1 := hi1 (mag a * mag b) (by omega)
  have k2 := lo0 (mag a * mag b)
  have k3 := lo1 (mag a * mag b)
  have en := num_hi_lo (mag a * mag b)
  go_enter Try.func47, Try.ntmps47
  go_wp2_with (first
    | (go_at_call 74; refine (below_any _ _ _).mono ?_; rintro e w' ⟨rfl, rfl⟩)
    | (go_at_call 75; refine (size_any _ _ (by omega) (by omega)).mono ?_; rintro e w' ⟨rfl, rfl⟩)
    | (go_at_call 21; refine (wmul_any _ _ _ (by omega) (by omega) (by omega) (by omega)).mono ?_; rintro e w1 ⟨rfl, hb1⟩)
    | (go_at_call 73; refine (sat_pos _ _ _ k0 k1 k2 k3).mono ?_; rintro e w2 ⟨rfl, hb2⟩; rw [en]))
  go_ret
  exact ⟨rfl, hb1.trans (hb2.mono hb1.size)⟩
theorem fmul_any (a b : Int) (w : World) (a0 : -9223372036854775808 ≤ a) (a1 : a ≤ 9223372036854775807) (b0 : -9223372036854775808 ≤ b) (b1 : b ≤ 9223372036854775807) :
    Calls Try.prog 47 #[.int .i64 a, .int .i64 b] w fun e w' => e = .returned (.int .i64 (sat (a * b))) ∧ Below w.heap.size w w' := by
  cases h : negB a b
  · exact fmul_f a b w a0 a1 b0 b1 h
  · exact fmul_t a b w a0 a1 b0 b1 h
/-- What 'round' answers, whatever its sign and rest. -/
theorem round_any (neg : Bool) (n r : Int) (w : World) (n0 : 0 ≤ n) (n1 : n < 79228162514264337593543950336) :
    Calls Try.prog 77 #[.bool neg, .agg #[.int .u64 (hi n), .int .u64 (lo n)], .int .u64 r] w fun e w' => e = .returned (.int .i64 (sat (downN neg n r))) ∧ Below w.heap.size w w' := by
  have k0 := hi0 _ n0
  have k1 : hi n ≤ 4294967295 := by unfold hi; omega
  have k2 := lo0 n
  have k3 := lo1 n
  have en := num_hi_lo n
  cases neg
  · have h := round_pos (hi n) (lo n) r w k0 (by omega) k2 k3
    rw [en] at h
    simpa [downN] using h
  · by_cases hr : r = 0
    · subst hr
      have h := round_exact (hi n) (lo n) w k0 (by omega) k2 k3
      rw [en] at h
      simpa [downN] using h
    · have h := round_rest (hi n) (lo n) r w k0 k1 k2 k3 hr
      rw [en] at h
      simpa [downN, hr] using h
set_option maxHeartbeats 400000 in
theorem product_any (a b : Int) (w : World) (a0 : -9223372036854775808 ≤ a) (a1 : a ≤ 9223372036854775807) (b0 : -9223372036854775808 ≤ b) (b1 : b ≤ 9223372036854775807) :
    Calls Try.prog 79 #[.int .i64 a, .int .i64 b] w fun e w' => e = .returned (.int .i64 (sat (prodN a b))) ∧ Below w.heap.size w w' := by
  have m0 := mag0 a
  have m1 := mag1 a a0 a1
  have m2 := mag0 b
  have m3 := mag1 b b0 b1
  obtain ⟨n0, n1⟩ := magmul a b a0 a1 b0 b1
  have k0 := hi0 _ n0
  have k1 := hi1 (mag a * mag b) (by omega)
  have k2 := lo0 (mag a * mag b)
  have k3 := lo1 (mag a * mag b)
  have en := num_hi_lo (mag a * mag b)
  go_enter Try.func79, Try.ntmps79
  go_wp2_with (first
    | (go_at_call 75; refine (size_any _ _ (by omega) (by omega)).mono ?_; rintro e w' ⟨rfl, rfl⟩)
    | (go_at_call 21; refine (wmul_any _ _ _ (by omega) (by omega) (by omega) (by omega)).mono ?_; rintro e w1 ⟨rfl, hb1⟩)
    | (go_at_call 22; refine (wdiv_any _ _ _ _ k0 k1 k2 k3 (by omega) (by omega)).mono ?_; rintro e w2 ⟨rfl, hb2⟩; rw [en]))
  go_region_held3 (fun w' => w'.cell? ⟨w2.heap.size, 0, none⟩ = some (.int .u64 (hi (mag a * mag b / 4294967296))) ∧ w'.cell? ⟨w2.heap.size, 1, none⟩ = some (.int .u64 (lo (mag a * mag b / 4294967296)))) (go_keep)
    (first
      | (go_at_call 74; refine (below_any _ _ _).mono ?_; rintro e w' ⟨rfl, rfl⟩)
      | (go_at_call 77; refine (round_any _ _ _ _ (by omega) (by omega)).mono ?_; rintro e w3 ⟨rfl, hb3⟩; obtain ⟨hc3, hf3⟩ := bcell hb3))
  go_wp2
  go_ret
  exact ⟨rfl, (((hb1.trans (hb2.mono hb1.size)).alloc (by have := hb1.size; have := hb2.size; omega) _).drew).trans (hb3.mono (by have := hb1.size; have := hb2.size; simp; omega))⟩
set_option maxHeartbeats 400000 in
theorem qtimes_any (a b : Int) (w : World) (a0 : -9223372036854775808 ≤ a) (a1 : a ≤ 9223372036854775807) (b0 : -9223372036854775808 ≤ b) (b1 : b ≤ 9223372036854775807) :
    Calls Try.prog 58 #[.int .i64 a, .int .i64 b] w fun e w' => e = .returned (.int .i64 (sat (prodN a b))) ∧ Below w.heap.size w w' := by
  go_enter Try.func58, Try.ntmps58
  go_wp2_with (go_at_call 79; refine (product_any _ _ _ a0 a1 b0 b1).mono ?_; rintro e w1 ⟨rfl, hb1⟩)
  go_ret
  exact ⟨rfl, hb1⟩
set_option maxHeartbeats 400000 in
theorem qof_any (a b : Int) (w : World) (a0 : -9223372036854775808 ≤ a) (a1 : a ≤ 9223372036854775807) (b0 : -9223372036854775808 ≤ b) (b1 : b ≤ 9223372036854775807) :
    Calls Try.prog 57 #[.int .i64 a, .int .i64 b] w fun e w' => e = .returned (.int .i64 (sat (prodN a b))) ∧ Below w.heap.size w w' := by
  go_enter Try.func57, Try.ntmps57
  go_wp2_with (go_at_call 79; refine (product_any _ _ _ a0 a1 b0 b1).mono ?_; rintro e w1 ⟨rfl, hb1⟩)
  go_ret
  exact ⟨rfl, hb1⟩
set_option maxHeartbeats 400000 in
theorem whole_any (a : Int) (w : World) (a0 : -9223372036854775808 ≤ a) (a1 : a ≤ 9223372036854775807) :
    Calls Try.prog 49 #[.int .i64 a] w fun e w' => e = .returned (.int .i64 (sat (a * 4294967296))) ∧ Below w.heap.size w w' := by
  go_enter Try.func49, Try.ntmps49
  go_wp2_with (go_at_call 47; refine (fmul_any _ _ _ a0 a1 (by omega) (by omega)).mono ?_; rintro e w1 ⟨rfl, hb1⟩)
  go_ret
  exact ⟨rfl, hb1⟩
theorem qfloor_any (a : Int) (w : World) (a0 : -9223372036854775808 ≤ a) (a1 : a ≤ 9223372036854775807) :
    Calls Try.prog 51 #[.int .i64 a] w fun e w' => e = .returned (.int .i64 (a / 4294967296)) ∧ w = w' := by
  go_enter Try.func51, Try.ntmps51
  go_wp2
  go_ret
  exact ⟨rfl, rfl⟩
theorem unb_any (a : Int) (w : World) :
    Calls Try.prog 76 #[.int .i64 a] w fun e w' => e = .returned (.int .i64 (unbN a)) ∧ w = w' := by
  go_enter Try.func76, Try.ntmps76
  go_wp2
  all_goals (go_ret; exact ⟨ret_int (by unfold unbN; split <;> (try split) <;> omega), rfl⟩)
set_option maxHeartbeats 400000 in
theorem ratio_zero (a : Int) (w : World) :
    Calls Try.prog 52 #[.int .i64 a, .int .i64 0] w fun e w' => e = .returned (.int .i64 (unbN a)) ∧ w = w' := by
  go_enter Try.func52, Try.ntmps52
  go_wp2_with (go_at_call 76; refine (unb_any _ _).mono ?_; rintro e w' ⟨rfl, rfl⟩)
  go_ret
  exact ⟨rfl, rfl⟩
set_option maxHeartbeats 400000 in
theorem ratio_any (a b : Int) (w : World) (a0 : -9223372036854775808 ≤ a) (a1 : a ≤ 9223372036854775807) (b0 : -9223372036854775808 ≤ b) (b1 : b ≤ 9223372036854775807) (hb : ¬ b = 0) :
    Calls Try.prog 52 #[.int .i64 a, .int .i64 b] w fun e w' => e = .returned (.int .i64 (sat (ratioN a b))) ∧ Below w.heap.size w w' := by
  have m0 := mag0 a
  have m1 := mag1 a a0 a1
  have m2 := magp b hb
  have m3 := mag1 b b0 b1
  have eL : leftN (num 0 (mag a)) (32 : Int).toNat = mag a * 4294967296 := by
    show (0 * 18446744073709551616 + mag a) * 4294967296 % 340282366920938463463374607431768211456 = _
    omega
  have n0 : 0 ≤ mag a * 4294967296 := by omega
  have k0 := hi0 _ n0
  have k1 := hi1 (mag a * 4294967296) (by omega)
  have k2 := lo0 (mag a * 4294967296)
  have k3 := lo1 (mag a * 4294967296)
  have en := num_hi_lo (mag a * 4294967296)
  have q0 : 0 ≤ mag a * 4294967296 / mag b := Int.ediv_nonneg n0 (by omega)
  have q1 : mag a * 4294967296 / mag b ≤ mag a * 4294967296 := Int.ediv_le_self _ n0
  go_enter Try.func52, Try.ntmps52
  go_wp2_with (first
    | (go_at_call 75; refine (size_any _ _ (by omega) (by omega)).mono ?_; rintro e w' ⟨rfl, rfl⟩)
    | (go_at_call 24; refine (wof_any _ _).mono ?_; rintro e w1 ⟨rfl, hb1⟩)
    | (go_at_call 26; refine (wleft_any _ _ _ _ (by omega) (by omega) (by omega) (by omega) (by omega)).mono ?_; rintro e w2 ⟨rfl, hb2⟩; rw [eL])
    | (go_at_call 22; refine (wdiv_any _ _ _ _ k0 k1 k2 k3 (by omega) (by omega)).mono ?_; rintro e w3 ⟨rfl, hb3⟩; rw [en]))
  go_region_held3 (fun w' => w'.cell? ⟨w3.heap.size, 0, none⟩ = some (.int .u64 (hi (mag a * 4294967296 / mag b))) ∧ w'.cell? ⟨w3.heap.size, 1, none⟩ = some (.int .u64 (lo (mag a * 4294967296 / mag b)))) (go_keep)
    (first
      | (go_at_call 74; refine (below_any _ _ _).mono ?_; rintro e w' ⟨rfl, rfl⟩)
      | (go_at_call 77; refine (round_any _ _ _ _ (by omega) (by omega)).mono ?_; rintro e w4 ⟨rfl, hb4⟩; obtain ⟨hc4, hf4⟩ := bcell hb4))
  go_wp2
  go_ret
  have z1 := hb1.size
  have z2 := hb2.size
  have z3 := hb3.size
  exact ⟨rfl, ((((hb1.trans (hb2.mono z1)).trans (hb3.mono (by omega))).alloc (by omega) _).drew).trans (hb4.mono (by simp; omega))⟩
theorem ratio_all (a b : Int) (w : World) (a0 : -9223372036854775808 ≤ a) (a1 : a ≤ 9223372036854775807) (b0 : -9223372036854775808 ≤ b) (b1 : b ≤ 9223372036854775807) :
    Calls Try.prog 52 #[.int .i64 a, .int .i64 b] w fun e w' => e = .returned (.int .i64 (quotN a b)) ∧ Below w.heap.size w w' := by
  by_cases hb : b = 0
  · subst hb
    exact (ratio_zero a w).mono fun e w' ⟨h, h2⟩ => ⟨by rw [h]; rfl, h2 ▸ Below.refl _ _⟩
  · have e : quotN a b = sat (ratioN a b) := by unfold quotN; rw [if_neg hb]
    rw [e]
    exact ratio_any a b w a0 a1 b0 b1 hb
set_option maxHeartbeats 400000 in
theorem qover_any (a b : Int) (w : World) (a0 : -9223372036854775808 ≤ a) (a1 : a ≤ 9223372036854775807) (b0 : -9223372036854775808 ≤ b) (b1 : b ≤ 9223372036854775807) :
    Calls Try.prog 55 #[.int .i64 a, .int .i64 b] w fun e w' => e = .returned (.int .i64 (quotN a b)) ∧ Below w.heap.size w w' := by
  go_enter Try.func55, Try.ntmps55
  go_wp2_with (go_at_call 52; refine (ratio_all _ _ _ a0 a1 b0 b1).mono ?_; rintro e w1 ⟨rfl, hb1⟩)
  go_ret
  exact ⟨rfl, hb1⟩
end Go.Proofs.Ytbmbapklbnhnpaa
