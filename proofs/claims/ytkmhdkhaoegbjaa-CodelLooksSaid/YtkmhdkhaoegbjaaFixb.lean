/- What the calls of package fix answer: products, quotients, and the calls of Q. -/
import Derived.Test.YtkmhdkhaoegbjaaFix
namespace Go.Proofs.Ytkmhdkhaoegbjaa
open Go.ChangeShapes Go.WideShapes Go.ChangeAt Go.RowKit Kn
set_option linter.unusedVariables false
set_option maxHeartbeats 400000 in
theorem fmul_t (a b : Int) (w : World) (a0 : -9223372036854775808 ≤ a) (a1 : a ≤ 9223372036854775807) (b0 : -9223372036854775808 ≤ b) (b1 : b ≤ 9223372036854775807) (hneg : negB a b = true) :
    Calls Try.prog 37 #[.int .i64 a, .int .i64 b] w fun e w' => e = .returned (.int .i64 (sat (a * b))) ∧ Below w.heap.size w w' := by
  have m0 := mag0 a
  have m1 := mag1 a a0 a1
  have m2 := mag0 b
  have m3 := mag1 b b0 b1
  obtain ⟨n0, n1⟩ := magmul a b a0 a1 b0 b1
  rw [mul_neg a b hneg]
  have k0 := hi0 _ n0
  have k1 := hi1 (mag a * mag b) (by omega)
  have k2 := lo0 (mag a * mag b)
  have k3 := lo1 (mag a * mag b)
  have en := num_hi_lo (mag a * mag b)
  go_enter Try.func37, Try.ntmps37
  go_wp2_with (first
    | (go_at_call 45; refine (below_any _ _ _).mono ?_; rintro e w' ⟨rfl, rfl⟩)
    | (go_at_call 46; refine (size_any _ _ (by omega) (by omega)).mono ?_; rintro e w' ⟨rfl, rfl⟩)
    | (go_at_call 38; refine (wmul_any _ _ _ (by omega) (by omega) (by omega) (by omega)).mono ?_; rintro e w1 ⟨rfl, hb1⟩)
    | (go_at_call 44; refine (sat_neg _ _ _ k0 k1 k2 k3).mono ?_; rintro e w2 ⟨rfl, hb2⟩; rw [en]))
  go_ret
  exact ⟨rfl, hb1.trans (hb2.mono hb1.size)⟩
set_option maxHeartbeats 400000 in
theorem fmul_f (a b : Int) (w : World) (a0 : -9223372036854775808 ≤ a) (a1 : a ≤ 9223372036854775807) (b0 : -9223372036854775808 ≤ b) (b1 : b ≤ 9223372036854775807) (hneg : negB a b = false) :
    Calls Try.prog 37 #[.int .i64 a, .int .i64 b] w fun e w' => e = .returned (.int .i64 (sat (a * b))) ∧ Below w.heap.size w w' := by
  have m0 := mag0 a
  have m1 := mag1 a a0 a1
  have m2 := mag0 b
  have m3 := mag1 b b0 b1
  obtain ⟨n0, n1⟩ := magmul a b a0 a1 b0 b1
  rw [mul_pos a b hneg]
  have k0 := hi0 _ n0
  have k1 := hi1 (mag a * mag b) (by omega)
  have k2 := lo0 (mag a * mag b)
  have k3 := lo1 (mag a * mag b)
  have en := num_hi_lo (mag a * mag b)
  go_enter Try.func37, Try.ntmps37
  go_wp2_with (first
    | (go_at_call 45; refine (below_any _ _ _).mono ?_; rintro e w' ⟨rfl, rfl⟩)
    | (go_at_call 46; refine (size_any _ _ (by omega) (by omega)).mono ?_; rintro e w' ⟨rfl, rfl⟩)
    | (go_at_call 38; refine (wmul_any _ _ _ (by omega) (by omega) (by omega) (by omega)).mono ?_; rintro e w1 ⟨rfl, hb1⟩)
    | (go_at_call 44; refine (sat_pos _ _ _ k0 k1 k2 k3).mono ?_; rintro e w2 ⟨rfl, hb2⟩; rw [en]))
  go_ret
  exact ⟨rfl, hb1.trans (hb2.mono hb1.size)⟩
theorem fmul_any (a b : Int) (w : World) (a0 : -9223372036854775808 ≤ a) (a1 : a ≤ 9223372036854775807) (b0 : -9223372036854775808 ≤ b) (b1 : b ≤ 9223372036854775807) :
    Calls Try.prog 37 #[.int .i64 a, .int .i64 b] w fun e w' => e = .returned (.int .i64 (sat (a * b))) ∧ Below w.heap.size w w' := by
  cases h : negB a b
  · exact fmul_f a b w a0 a1 b0 b1 h
  · exact fmul_t a b w a0 a1 b0 b1 h
end Go.Proofs.Ytkmhdkhaoegbjaa
