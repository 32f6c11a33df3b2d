/- What the calls of package wide answer. -/
import Derived.Test.YtgocnliapkokbaaDoorDiv
import Derived.Test.YtgocnliapkokbaaDoorPair
import Derived.Outline
import Derived.RegionTactic
import Derived.BigRegion
import Derived.Deep.RegionHeld3
import Derived.WalkSpells
import Derived.Laws.Pointers
namespace Go.Proofs.YtgocnliapkokbaaDoor
open Go.ChangeShapes Go.WideShapes Go.ChangeAt Go.RowKit Kn
set_option linter.unusedVariables false
theorem add_hi (ah al bh bl : Int) :
    (ah + bh + (al + bl) / 18446744073709551616) % 18446744073709551616 = hi (addN (num ah al) (num bh bl)) := by unfold hi addN num; omega
theorem add_lo (ah al bh bl : Int) : (al + bl) % 18446744073709551616 = lo (addN (num ah al) (num bh bl)) := by unfold lo addN num; omega
theorem add_over (ah al bh bl : Int) (ah0 : 0 ≤ ah) (ah1 : ah ≤ 18446744073709551615) (bh0 : 0 ≤ bh) (bh1 : bh ≤ 18446744073709551615) (al0 : 0 ≤ al) (al1 : al ≤ 18446744073709551615) (bl0 : 0 ≤ bl) (bl1 : bl ≤ 18446744073709551615) :
    (!((ah + bh + (al + bl) / 18446744073709551616) / 18446744073709551616 == 0)) = overB (num ah al) (num bh bl) := by
  unfold overB num
  by_cases h : 340282366920938463463374607431768211456 ≤ ah * 18446744073709551616 + al + (bh * 18446744073709551616 + bl)
  · rw [decide_eq_true h]; simp; omega
  · rw [decide_eq_false h]; simp; omega
theorem shift_cap (l : Int) (m : Nat) : IntKind.u64.wrap (l * 2 ^ min m 64) = IntKind.u64.wrap (l * 2 ^ m) := by
  by_cases h : m ≤ 64
  · rw [Nat.min_eq_left h]
  · have e : (2 : Int) ^ m = 2 ^ (m - 64) * 18446744073709551616 := by rw [show (18446744073709551616 : Int) = 2 ^ 64 from rfl, ← Int.pow_add]; congr 1; omega
    rw [Nat.min_eq_right (by omega), wrapu, wrapu, e, ← Int.mul_assoc, Int.mul_emod_left]
    exact Int.mul_emod_left _ _
theorem div_parts (h l d : Int) (d0 : 0 < d) : (h % d * 18446744073709551616 + l) / d = num h l / d - h / d * 18446744073709551616 ∧ (h % d * 18446744073709551616 + l) % d = num h l % d := by
  have e := Int.mul_ediv_add_emod h d
  have e2 : num h l = (h % d * 18446744073709551616 + l) + h / d * 18446744073709551616 * d := by
    unfold num
    rw [Int.mul_right_comm, Int.mul_comm (h / d) d]
    omega
  rw [e2]
  exact ⟨by rw [Int.add_mul_ediv_right _ _ (by omega)]; omega, by rw [Int.add_mul_emod_self_right]⟩
end Go.Proofs.YtgocnliapkokbaaDoor
