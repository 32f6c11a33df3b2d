/- Saturation keeps order; a product rounded down is the floor; a quotient rounded down lies between. No program. -/
import Derived.Test.YtgocnliapkokbaaDoorSat
namespace Go.Proofs.YtgocnliapkokbaaDoor.Kn
theorem sat_mono (x y : Int) (h : x ≤ y) : sat x ≤ sat y := by unfold sat; split <;> split <;> (try split) <;> (try split) <;> omega
theorem sat_id (x : Int) (h0 : -9223372036854775808 ≤ x) (h1 : x ≤ 9223372036854775807) : sat x = x := by unfold sat; split <;> (try split) <;> omega
theorem sat_lo (x : Int) : -9223372036854775808 ≤ sat x := by unfold sat; split <;> (try split) <;> omega
theorem sat_up (x : Int) : sat x ≤ 9223372036854775807 := by unfold sat; split <;> (try split) <;> omega
theorem prod_floor (a b : Int) : prodN a b = a * b / 4294967296 := by
  unfold prodN downN
  cases h : negB a b
  · rw [mul_pos a b h]; rfl
  · rw [mul_neg a b h]
    generalize mag a * mag b = n
    simp only [if_true]
    split <;> omega
theorem prod_mono (c a b : Int) (hc : 0 ≤ c) (h : a ≤ b) : prodN c a ≤ prodN c b := by
  rw [prod_floor, prod_floor]
  have := Int.mul_le_mul_of_nonneg_left h hc
  omega
theorem ratio_spec (x y : Int) (hy : ¬ y = 0) : (0 < y → ratioN x y * y ≤ x * 4294967296 ∧ x * 4294967296 < (ratioN x y + 1) * y) ∧ (y < 0 → x * 4294967296 ≤ ratioN x y * y ∧ (ratioN x y + 1) * y < x * 4294967296) := by
  have hd := magp y hy
  have e := Int.mul_ediv_add_emod (mag x * 4294967296) (mag y)
  have m0 := Int.emod_nonneg (mag x * 4294967296) (b := mag y) (by omega)
  have m1 := Int.emod_lt_of_pos (mag x * 4294967296) hd
  unfold ratioN
  rw [Int.mul_comm] at e
  generalize mag x * 4294967296 / mag y = q at e ⊢
  generalize mag x * 4294967296 % mag y = m at e m0 m1 ⊢
  have f1 : (q + 1) * y = q * y + y := by rw [Int.add_mul]; omega
  have f2 : (-q) * y = -(q * y) := Int.neg_mul _ _
  have f3 : (-(q + 1)) * y = -(q * y) - y := by rw [Int.neg_mul, f1]; omega
  have f4 : (-(q + 1) + 1) * y = -(q * y) := by rw [Int.add_mul, f3]; omega
  have f5 : (-q + 1) * y = -(q * y) + y := by rw [Int.add_mul, f2]; omega
  have f6 : q * -y = -(q * y) := Int.mul_neg _ _
  unfold downN negB mag at *
  by_cases hx : x < 0 <;> by_cases hy2 : y < 0 <;> simp only [hx, hy2, if_true, if_false, decide_true, decide_false, bne_self_eq_false, Bool.true_bne, Bool.false_bne, Bool.not_false, Bool.false_eq_true] at * <;>
    refine ⟨fun h => ?_, fun h => ?_⟩ <;> (first | exact h.elim | omega | (split <;> omega))
end Go.Proofs.YtgocnliapkokbaaDoor.Kn
