/- The document's answers of layer 1: doubling, and a number's bits. -/
import Derived.Test.YtkmhdkhaoegbjaaRefc
namespace Go.Proofs.Ytkmhdkhaoegbjaa
open Go.ChangeShapes Go.WideShapes Go.ChangeAt Go.RowKit Kn
set_option linter.unusedVariables false
def bitN (n : Int) (i : Nat) : Int := n / 2 ^ i % 2
theorem bit_of (n : Int) (i : Nat) : dgN n (i / 16) / 2 ^ (i % 16) % 2 = bitN n i := by
  unfold dgN bitN
  have e : (2 : Int) ^ i = 65536 ^ (i / 16) * 2 ^ (i % 16) := by
    rw [show (65536 : Int) = 2 ^ 16 from rfl, ← Int.pow_mul, ← Int.pow_add]; congr 1; omega
  rw [e, ← Int.ediv_ediv_of_nonneg (Int.le_of_lt (pp _))]
  generalize n / 65536 ^ (i / 16) = x
  have hr : i % 16 < 16 := Nat.mod_lt _ (by decide)
  generalize i % 16 = r at hr
  have e2 : (65536 : Int) = 2 * 2 ^ (15 - r) * 2 ^ r := by rw [Int.mul_assoc, ← Int.pow_add, show 15 - r + r = 15 by omega]; rfl
  have p : (0 : Int) < 2 ^ r := Int.pow_pos (by decide)
  have h := Int.mul_ediv_add_emod x 65536
  have h3 : x / 2 ^ r = x % 65536 / 2 ^ r + x / 65536 * (2 * 2 ^ (15 - r)) := by
    have h4 : x = x % 65536 + x / 65536 * (2 * 2 ^ (15 - r)) * 2 ^ r := by rw [Int.mul_assoc, ← e2]; omega
    conv => lhs; rw [h4]
    rw [Int.add_mul_ediv_right _ _ (Int.ne_of_gt p)]
  rw [h3, Int.mul_comm 2, ← Int.mul_assoc]
  omega
end Go.Proofs.Ytkmhdkhaoegbjaa
