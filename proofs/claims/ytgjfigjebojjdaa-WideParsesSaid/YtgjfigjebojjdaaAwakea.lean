/- The example of layer 1 stands: 'awake' answers true. -/
import Derived.Test.YtgjfigjebojjdaaWided
namespace Go.Proofs.Ytgjfigjebojjdaa
open Go.ChangeShapes Go.WideShapes Go.ChangeAt Go.RowKit Kn
set_option linter.unusedVariables false
theorem text64 (w : World) : Calls Try.prog 17 #[.agg #[.int .u64 1, .int .u64 0]] w fun e w' => e = .returned (.string ⟨#[49, 56, 52, 52, 54, 55, 52, 52, 48, 55, 51, 55, 48, 57, 53, 53, 49, 54, 49, 54]⟩) ∧ Below w.heap.size w w' := by
  have h := wtext_num 18446744073709551616 w (by decide) (by decide)
  refine h.mono ?_
  rintro e w' ⟨⟨p, hp, h1, h2, rfl⟩, hb⟩
  have e : p = 19 := by
    rcases Nat.lt_trichotomy p 19 with h | h | h
    · exfalso
      rcases h2 with h3 | h3
      · omega
      · apply h3
        have : (10 : Int) ^ 20 ≤ 10 ^ (38 - p) := by
          rw [show 38 - p = 20 + (18 - p) by omega, Int.pow_add]
          have q : (0 : Int) < 10 ^ (18 - p) := Int.pow_pos (by decide)
          have := Int.mul_le_mul_of_nonneg_left (show (1 : Int) ≤ 10 ^ (18 - p) by omega) (show (0 : Int) ≤ 10 ^ 20 by decide)
          omega
        exact Int.ediv_eq_zero_of_lt (by decide) (by have e : (10 : Int) ^ 20 = 100000000000000000000 := rfl; omega)
    · exact h
    · exfalso
      have q : (10 : Int) ^ (39 - p) ≤ 10 ^ 19 := by
        rw [show 19 = (39 - p) + (p - 20) by omega, Int.pow_add]
        have q1 : (0 : Int) < 10 ^ (p - 20) := Int.pow_pos (by decide)
        have q2 : (0 : Int) < 10 ^ (39 - p) := Int.pow_pos (by decide)
        have := Int.mul_le_mul_of_nonneg_left (show (1 : Int) ≤ 10 ^ (p - 20) by omega) (Int.le_of_lt q2)
        omega
      have q2 : (0 : Int) < 10 ^ (39 - p) := Int.pow_pos (by decide)
      have e19 : (10 : Int) ^ 19 = 10000000000000000000 := rfl
      have := Int.mul_ediv_add_emod 18446744073709551616 (10 ^ (39 - p))
      have r := Int.emod_lt_of_pos 18446744073709551616 q2
      rw [h1, Int.mul_zero] at this
      omega
  subst e
  exact ⟨rfl, hb⟩
set_option maxHeartbeats 400000 in
theorem awakea (w : World) : Calls Try.prog 13 #[] w fun e w' => e = .returned (.bool true) ∧ Below w.heap.size w w' := by
  have eh : hi 18446744073709551616 = 1 := rfl
  have el : lo 18446744073709551616 = 0 := rfl
  go_enter Try.func13, Try.ntmps13
  go_wp2_with (first
    | (go_at_call 50; refine (wmul_any _ _ _ (by omega) (by omega) (by omega) (by omega)).mono ?_; rintro e w1 ⟨rfl, hb1⟩)
    | (go_at_call 17; refine (text64 _).mono ?_; rintro e w2 ⟨rfl, hb2⟩))
  go_ret
  exact ⟨rfl, (hb1.alloc hb1.size _).trans (hb2.mono (by have := hb1.size; simp; omega))⟩
end Go.Proofs.Ytgjfigjebojjdaa
