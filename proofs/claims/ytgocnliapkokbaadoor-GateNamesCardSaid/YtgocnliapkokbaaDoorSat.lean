/- Saturation, sizes and signs, and rounding down, as integers. No program. -/
import Derived.Test.YtgocnliapkokbaaDoorPair
namespace Go.Proofs.YtgocnliapkokbaaDoor.Kn
/-- Saturated; the size without its sign; a sign. -/
def sat (x : Int) : Int := if x > 9223372036854775807 then 9223372036854775807 else if x < -9223372036854775808 then -9223372036854775808 else x
def mag (a : Int) : Int := if a < 0 then -a else a
def negB (a b : Int) : Bool := decide (a < 0) != decide (b < 0)
/-- A size and what is left of it, with its sign, rounded down. -/
def downN (neg : Bool) (n r : Int) : Int := if neg then (if r = 0 then -n else -(n + 1)) else n
def prodN (a b : Int) : Int := downN (negB a b) (mag a * mag b / 4294967296) (mag a * mag b % 4294967296)
def ratioN (a b : Int) : Int := downN (negB a b) (mag a * 4294967296 / mag b) (mag a * 4294967296 % mag b)
def unbN (a : Int) : Int := if 0 < a then 9223372036854775807 else if a < 0 then -9223372036854775808 else 0
def quotN (a b : Int) : Int := if b = 0 then unbN a else sat (ratioN a b)
theorem mag0 (a : Int) : 0 ≤ mag a := by unfold mag; split <;> omega
theorem mag1 (a : Int) (h0 : -9223372036854775808 ≤ a) (h1 : a ≤ 9223372036854775807) : mag a ≤ 9223372036854775808 := by unfold mag; split <;> omega
theorem magp (a : Int) (h : ¬ a = 0) : 0 < mag a := by unfold mag; split <;> omega
theorem mul_neg (a b : Int) (h : negB a b = true) : a * b = -(mag a * mag b) := by
  unfold negB at h; unfold mag
  by_cases ha : a < 0 <;> by_cases hb : b < 0 <;> simp [ha, hb, Int.neg_mul, Int.mul_neg] at h ⊢
theorem mul_pos (a b : Int) (h : negB a b = false) : a * b = mag a * mag b := by
  unfold negB at h; unfold mag
  by_cases ha : a < 0 <;> by_cases hb : b < 0 <;> simp [ha, hb, Int.neg_mul, Int.mul_neg] at h ⊢
theorem magmul (a b : Int) (h0 : -9223372036854775808 ≤ a) (h1 : a ≤ 9223372036854775807) (h2 : -9223372036854775808 ≤ b) (h3 : b ≤ 9223372036854775807) : 0 ≤ mag a * mag b ∧ mag a * mag b ≤ 85070591730234615865843651857942052864 :=
  ⟨Int.mul_nonneg (mag0 a) (mag0 b), by have := Int.mul_le_mul (mag1 a h0 h1) (mag1 b h2 h3) (mag0 b) (by omega); omega⟩
end Go.Proofs.YtgocnliapkokbaaDoor.Kn
