/- Numbers of two words, and what is done with them, as integers. No program. -/
import Derived.Laws.Bits64
import Derived.Laws.BitsLemmas
import Derived.Laws.BitsAllLaws
import Derived.Test.YtbajmmgdnegoiaaDoorNums
import Derived.Below
import Derived.Deep.Draws
namespace Go.Proofs.YtbajmmgdnegoiaaDoor.Kn
/-- A number of its halves, and its halves again. -/
def num (h l : Int) : Int := h * 18446744073709551616 + l
def hi (n : Int) : Int := n / 18446744073709551616
def lo (n : Int) : Int := n % 18446744073709551616
theorem num_hi_lo (n : Int) : num (hi n) (lo n) = n := by unfold num hi lo; omega
theorem hi_num (h l : Int) (l0 : 0 ≤ l) (l1 : l ≤ 18446744073709551615) : hi (num h l) = h := by unfold num hi; omega
theorem lo_num (h l : Int) (l0 : 0 ≤ l) (l1 : l ≤ 18446744073709551615) : lo (num h l) = l := by unfold num lo; omega
theorem lo0 (n : Int) : 0 ≤ lo n := by unfold lo; omega
theorem lo1 (n : Int) : lo n ≤ 18446744073709551615 := by unfold lo; omega
theorem hi0 (n : Int) (h : 0 ≤ n) : 0 ≤ hi n := by unfold hi; omega
theorem hi1 (n : Int) (h : n < 340282366920938463463374607431768211456) : hi n ≤ 18446744073709551615 := by unfold hi; omega
theorem num0 (h l : Int) (h0 : 0 ≤ h) (l0 : 0 ≤ l) : 0 ≤ num h l := by unfold num; omega
theorem num1 (h l : Int) (h1 : h ≤ 18446744073709551615) (l1 : l ≤ 18446744073709551615) : num h l < 340282366920938463463374607431768211456 := by unfold num; omega
def addN (a b : Int) : Int := (a + b) % 340282366920938463463374607431768211456
def overB (a b : Int) : Bool := decide (340282366920938463463374607431768211456 ≤ a + b)
def subN (a b : Int) : Int := (a - b) % 340282366920938463463374607431768211456
def underB (a b : Int) : Bool := decide (a < b)
def cmpN (a b : Int) : Int := if a < b then -1 else if a = b then 0 else 1
def leftN (n : Int) (k : Nat) : Int := n * 2 ^ k % 340282366920938463463374607431768211456
def rightN (n : Int) (k : Nat) : Int := n / 2 ^ k
theorem spare (k : Nat) (hk : k ≤ 64) : (2 : Int) ^ k * 2 ^ (64 - k) = 18446744073709551616 := by
  rw [← Int.pow_add, show k + (64 - k) = 64 by omega]; rfl
theorem wrapu (x : Int) : IntKind.u64.wrap x = x % 18446744073709551616 := IntKind.wrap_u64 x
/-- 'or' of a multiple of 2^i and of what lies below it. -/
theorem or_join (i : Nat) (hi : i ≤ 64) (a b : Int) (b0 : 0 ≤ b) (b1 : b < 2 ^ i) :
    bits .or .u64 (a * 2 ^ i % 18446744073709551616) b = a * 2 ^ i % 18446744073709551616 + b ∧ a * 2 ^ i % 18446744073709551616 + b < 18446744073709551616 := by
  have e := spare i hi
  have p : (0 : Int) < 2 ^ i := Int.pow_pos (by decide)
  have p2 : (0 : Int) < 2 ^ (64 - i) := Int.pow_pos (by decide)
  have hm : a * 2 ^ i % 18446744073709551616 = a % 2 ^ (64 - i) * 2 ^ i := by
    rw [← e, Int.mul_comm a, Int.mul_emod_mul_of_pos _ _ p, Int.mul_comm]
  have hd : a * 2 ^ i % 18446744073709551616 % 2 ^ i = 0 := by rw [hm]; exact Int.mul_emod_left _ _
  have hlt : a % 2 ^ (64 - i) + 1 ≤ 2 ^ (64 - i) := by have := Int.emod_lt_of_pos a p2; omega
  have h2 := Int.mul_le_mul_of_nonneg_right hlt (Int.le_of_lt p)
  rw [Int.mul_comm _ (2 ^ i), Int.mul_add] at h2
  have hc : (2 : Int) ^ i * (a % 2 ^ (64 - i)) = a % 2 ^ (64 - i) * 2 ^ i := Int.mul_comm _ _
  have e' : (2 : Int) ^ (64 - i) * 2 ^ i = 18446744073709551616 := by rw [Int.mul_comm]; exact e
  have hb : a * 2 ^ i % 18446744073709551616 + b < 18446744073709551616 := by rw [hm]; omega
  exact ⟨bits_join .u64 64 (by decide) wraps64 i _ _ (by omega) hd (by omega) b0 b1 (by omega), hb⟩
theorem or_comm (a b : Int) (a0 : 0 ≤ a) (a1 : a < 18446744073709551616) (b0 : 0 ≤ b) (b1 : b < 18446744073709551616) : bits .or .u64 a b = bits .or .u64 b a := by
  rw [u64_or a b a0 a1 b0 b1, u64_or b a b0 b1 a0 a1, Nat.or_comm]
theorem left_lo (h l : Int) (k : Nat) : l * 2 ^ k % 18446744073709551616 = lo (leftN (num h l) k) := by
  unfold lo leftN num
  rw [Int.add_mul, Int.mul_right_comm]
  omega
theorem left_hi (h l : Int) (k : Nat) (hk : k ≤ 64) (l0 : 0 ≤ l) (l1 : l ≤ 18446744073709551615) : bits .or .u64 (h * 2 ^ k % 18446744073709551616) (l / 2 ^ (64 - k)) = hi (leftN (num h l) k) := by
  have e := spare k hk
  have p : (0 : Int) < 2 ^ k := Int.pow_pos (by decide)
  have p2 : (0 : Int) < 2 ^ (64 - k) := Int.pow_pos (by decide)
  have b0 : 0 ≤ l / 2 ^ (64 - k) := Int.ediv_nonneg l0 (Int.le_of_lt p2)
  have b1 : l / 2 ^ (64 - k) < 2 ^ k := by apply Int.ediv_lt_of_lt_mul p2; rw [e]; omega
  have hq : l * 2 ^ k / 18446744073709551616 = l / 2 ^ (64 - k) := by rw [← e, Int.mul_comm l]; exact Int.mul_ediv_mul_of_pos _ _ p
  obtain ⟨o1, o2⟩ := or_join k hk h _ b0 b1
  rw [o1]
  unfold hi leftN num
  rw [Int.add_mul, Int.mul_right_comm]
  omega
theorem left_far (h l : Int) (k : Nat) (hk : 64 ≤ k) : l * 2 ^ (k - 64) % 18446744073709551616 = hi (leftN (num h l) k) ∧ 0 = lo (leftN (num h l) k) := by
  have e : (2 : Int) ^ k = 2 ^ (k - 64) * 18446744073709551616 := by rw [show (18446744073709551616 : Int) = 2 ^ 64 from rfl, ← Int.pow_add]; congr 1; omega
  unfold hi lo leftN num
  rw [e, Int.add_mul, ← Int.mul_assoc, ← Int.mul_assoc, Int.mul_right_comm h]
  omega
theorem right_hi (h l : Int) (k : Nat) (l0 : 0 ≤ l) (l1 : l ≤ 18446744073709551615) : h / 2 ^ k = hi (rightN (num h l) k) := by
  unfold hi rightN num
  rw [Int.ediv_ediv_of_nonneg (Int.le_of_lt (Int.pow_pos (by decide))), Int.mul_comm (2 ^ k) 18446744073709551616, ← Int.ediv_ediv_of_nonneg (by decide)]
  congr 1; omega
theorem right_lo (h l : Int) (k : Nat) (hk : k ≤ 64) (l0 : 0 ≤ l) (l1 : l ≤ 18446744073709551615) : bits .or .u64 (l / 2 ^ k) (h * 2 ^ (64 - k) % 18446744073709551616) = lo (rightN (num h l) k) := by
  have e := spare k hk
  have p : (0 : Int) < 2 ^ k := Int.pow_pos (by decide)
  have b0 : 0 ≤ l / 2 ^ k := Int.ediv_nonneg l0 (Int.le_of_lt p)
  have b1 : l / 2 ^ k < 2 ^ (64 - k) := by apply Int.ediv_lt_of_lt_mul p; rw [Int.mul_comm, e]; omega
  obtain ⟨o1, o2⟩ := or_join (64 - k) (by omega) h _ b0 b1
  have hq : (h * 18446744073709551616 + l) / 2 ^ k = h * 2 ^ (64 - k) + l / 2 ^ k := by
    rw [← e, Int.mul_comm (2 ^ k), ← Int.mul_assoc, Int.add_comm, Int.add_mul_ediv_right _ _ (by omega)]; omega
  have b2 : l / 2 ^ k < 18446744073709551616 := by omega
  rw [or_comm _ _ b0 b2 (by omega) (by omega), o1]
  unfold lo rightN num
  rw [hq]
  omega
theorem right_far (h l : Int) (k : Nat) (hk : 64 ≤ k) (h0 : 0 ≤ h) (h1 : h ≤ 18446744073709551615) (l0 : 0 ≤ l) (l1 : l ≤ 18446744073709551615) : h / 2 ^ (k - 64) = lo (rightN (num h l) k) ∧ 0 = hi (rightN (num h l) k) := by
  have e : (2 : Int) ^ k = 18446744073709551616 * 2 ^ (k - 64) := by rw [show (18446744073709551616 : Int) = 2 ^ 64 from rfl, ← Int.pow_add]; congr 1; omega
  have p : (0 : Int) < 2 ^ (k - 64) := Int.pow_pos (by decide)
  have hq : (h * 18446744073709551616 + l) / 2 ^ k = h / 2 ^ (k - 64) := by
    rw [e, ← Int.ediv_ediv_of_nonneg (by decide)]; congr 1; omega
  have r0 : 0 ≤ h / 2 ^ (k - 64) := Int.ediv_nonneg h0 (Int.le_of_lt p)
  have r1 : h / 2 ^ (k - 64) ≤ h := Int.ediv_le_self _ h0
  unfold hi lo rightN num
  rw [hq]
  omega
theorem bcell {W w1 : World} (hb : RowKit.Below W.heap.size W w1) : (∀ b o, b < W.heap.size → w1.cell? ⟨b, o, none⟩ = W.cell? ⟨b, o, none⟩) ∧ (∀ b o, b < W.heap.size → w1.frozen? ⟨b, o, none⟩ = W.frozen? ⟨b, o, none⟩) :=
  ⟨fun b o h => hb.cell (p := ⟨b, o, none⟩) h, fun b o h => hb.frozen (p := ⟨b, o, none⟩) h⟩
theorem below_drewN {B : Nat} {a w : World} (h : RowKit.Below B a w) (n : Nat) : RowKit.Below B a (w.drewN n) := ⟨h.os, h.tape, h.output, h.size, h.block⟩
theorem ret_int {k : IntKind} {a b : Int} (h : a = b) : Ending.returned (.int k a) = .returned (.int k b) := by rw [h]
theorem ret_bool {a b : Bool} (h : a = b) : Ending.returned (.bool a) = .returned (.bool b) := by rw [h]
end Go.Proofs.YtbajmmgdnegoiaaDoor.Kn
