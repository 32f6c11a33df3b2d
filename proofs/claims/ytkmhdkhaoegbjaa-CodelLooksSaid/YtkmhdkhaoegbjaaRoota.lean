/- Integer square roots, as integers. No program. -/
import Derived.Test.YtkmhdkhaoegbjaaPair
namespace Go.Proofs.Ytkmhdkhaoegbjaa.Kn
/-- The greatest number whose square is at most n. -/
def rootF : Nat → Nat
  | 0 => 0
  | n + 1 => if (rootF n + 1) * (rootF n + 1) ≤ n + 1 then rootF n + 1 else rootF n
theorem rootF_le (n : Nat) : rootF n * rootF n ≤ n := by
  induction n with
  | zero => exact Nat.le_refl _
  | succ n ih =>
    unfold rootF
    by_cases h : (rootF n + 1) * (rootF n + 1) ≤ n + 1
    · rw [if_pos h]; exact h
    · rw [if_neg h]; omega
theorem rootF_lt (n : Nat) : n < (rootF n + 1) * (rootF n + 1) := by
  induction n with
  | zero => exact Nat.mul_pos (Nat.succ_pos _) (Nat.succ_pos _)
  | succ n ih =>
    unfold rootF
    by_cases h : (rootF n + 1) * (rootF n + 1) ≤ n + 1
    · rw [if_pos h]
      have : (rootF n + 1 + 1) * (rootF n + 1 + 1) = (rootF n + 1) * (rootF n + 1) + (rootF n + 1) + (rootF n + 1) + 1 := by
        rw [Nat.add_mul, Nat.mul_add]; omega
      omega
    · rw [if_neg h]; omega
def rootN (n : Int) : Int := (rootF n.toNat : Int)
theorem root0 (n : Int) : 0 ≤ rootN n := by unfold rootN; omega
theorem root_le (n : Int) (h : 0 ≤ n) : rootN n * rootN n ≤ n := by
  have := rootF_le n.toNat
  have e : (rootF n.toNat : Int) * (rootF n.toNat : Int) ≤ (n.toNat : Int) := by exact_mod_cast this
  unfold rootN
  omega
theorem root_lt (n : Int) (h : 0 ≤ n) : n < (rootN n + 1) * (rootN n + 1) := by
  have := rootF_lt n.toNat
  have e : (n.toNat : Int) < ((rootF n.toNat : Int) + 1) * ((rootF n.toNat : Int) + 1) := by exact_mod_cast this
  unfold rootN
  omega
theorem sq_mono (a b : Int) (h0 : 0 ≤ a) (h : a ≤ b) : a * a ≤ b * b := Int.mul_le_mul h h h0 (by omega)
/-- Squares in order, numbers in order. -/
theorem sq_lt (a b : Int) (h0 : 0 ≤ b) (h : a * a < b * b) : a < b := by
  by_cases c : a < b
  · exact c
  · have := sq_mono b a h0 (by omega); omega
theorem root_unique (n r : Int) (h0 : 0 ≤ r) (h1 : r * r ≤ n) (h2 : n < (r + 1) * (r + 1)) : rootN n = r := by
  have n0 : 0 ≤ n := by have := Int.mul_nonneg h0 h0; omega
  have a := root_le n n0
  have b := root_lt n n0
  have c := root0 n
  have x := sq_lt (rootN n) (r + 1) (by omega) (by omega)
  have y := sq_lt r (rootN n + 1) (by omega) (by omega)
  omega
theorem root_mono (a b : Int) (h0 : 0 ≤ a) (h : a ≤ b) : rootN a ≤ rootN b := by
  have x := root_le a h0
  have y := root_lt b (by omega)
  have := sq_lt (rootN a) (rootN b + 1) (by have := root0 b; omega) (by omega)
  omega
theorem root_sq (r : Int) (h : 0 ≤ r) : rootN (r * r) = r := by
  refine root_unique _ _ h (Int.le_refl _) ?_
  have : (r + 1) * (r + 1) = r * r + r + r + 1 := by rw [Int.add_mul, Int.mul_add]; omega
  omega
/-- Does a square, so often, fit? Just if the number isn't more than the root of the quotient. -/
theorem root_fits (v m n : Int) (v0 : 0 ≤ v) (m0 : 0 < m) (n0 : 0 ≤ n) : v * v * m ≤ n ↔ v ≤ rootN (n / m) := by
  have q0 : 0 ≤ n / m := Int.ediv_nonneg n0 (by omega)
  have a := root_le _ q0
  have b := root_lt _ q0
  have c := root0 (n / m)
  rw [← Int.le_ediv_iff_mul_le m0]
  constructor
  · intro h
    have := sq_lt v (rootN (n / m) + 1) (by omega) (by omega)
    omega
  · intro h
    have := sq_mono v _ v0 h
    omega
theorem root_up (n k : Int) (n0 : 0 ≤ n) (k0 : 0 ≤ k) (h : n < (k + 1) * (k + 1)) : rootN n ≤ k := by
  have a := root_le n n0
  have := sq_lt (rootN n) (k + 1) (by omega) (by omega)
  omega
theorem root_64 (n : Int) (n0 : 0 ≤ n) (h : n < 340282366920938463463374607431768211456) : rootN n ≤ 18446744073709551615 := by
  refine root_up n _ n0 (by decide) ?_
  have : ((18446744073709551615 : Int) + 1) * (18446744073709551615 + 1) = 340282366920938463463374607431768211456 := by decide
  omega
theorem root_32 (n : Int) (n0 : 0 ≤ n) (h : n ≤ 18446744073709551615) : rootN n ≤ 4294967295 := by
  refine root_up n _ n0 (by decide) ?_
  have : ((4294967295 : Int) + 1) * (4294967295 + 1) = 18446744073709551616 := by decide
  omega
/-- One bit more of a root: what is known of it at one bit fewer. -/
theorem root_step (n r p : Int) (h1 : r * r ≤ n) (h2 : n < (r + 2 * p) * (r + 2 * p)) :
    ((r + p) * (r + p) ≤ n → (r + p) * (r + p) ≤ n ∧ n < (r + p + p) * (r + p + p)) ∧ (¬ (r + p) * (r + p) ≤ n → r * r ≤ n ∧ n < (r + p) * (r + p)) := by
  have e : r + p + p = r + 2 * p := by omega
  rw [e]
  exact ⟨fun h => ⟨h, h2⟩, fun h => ⟨h1, by omega⟩⟩
/-- The law: of an interval and a count. -/
def lawN (i n : Int) : Int := rootN (i * i / max n 1)
theorem law0 (i n : Int) : 0 ≤ lawN i n := root0 _
theorem law_q0 (i n : Int) : 0 ≤ i * i / max n 1 := Int.ediv_nonneg (by by_cases h : 0 ≤ i; exact Int.mul_nonneg h h; exact Int.le_of_lt (Int.mul_pos_of_neg_of_neg (by omega) (by omega))) (by omega)
theorem law_le (i n : Int) (h : 0 ≤ i) : lawN i n ≤ i := by
  unfold lawN
  refine root_up _ _ (law_q0 i n) h ?_
  have a : i * i / max n 1 ≤ i * i := Int.ediv_le_self _ (Int.mul_nonneg h h)
  have b : (i + 1) * (i + 1) = i * i + i + i + 1 := by rw [Int.add_mul, Int.mul_add]; omega
  omega
theorem law_falls (i n m : Int) (h : n ≤ m) : lawN i m ≤ lawN i n := by
  unfold lawN
  refine root_mono _ _ (law_q0 i m) ?_
  have i0 : 0 ≤ i * i := by by_cases h : 0 ≤ i; exact Int.mul_nonneg h h; exact Int.le_of_lt (Int.mul_pos_of_neg_of_neg (by omega) (by omega))
  have e := Int.mul_ediv_add_emod (i * i) (max m 1)
  have f := Int.emod_nonneg (i * i) (show max m 1 ≠ 0 by omega)
  have q := law_q0 i m
  rw [Int.le_ediv_iff_mul_le (by omega)]
  have : i * i / max m 1 * max n 1 ≤ i * i / max m 1 * max m 1 := Int.mul_le_mul_of_nonneg_left (by omega) q
  rw [Int.mul_comm (max m 1)] at e
  omega
theorem law_rises (i j n : Int) (i0 : 0 ≤ i) (h : i ≤ j) : lawN i n ≤ lawN j n := by
  unfold lawN
  refine root_mono _ _ (law_q0 i n) ?_
  exact Int.ediv_le_ediv (by omega) (sq_mono i j i0 h)
theorem law_square (i k : Int) (i0 : 0 ≤ i) (k0 : 0 < k) : lawN i (k * k) = i / k := by
  have kk : 0 < k * k := Int.mul_pos k0 k0
  have e : max (k * k) 1 = k * k := by omega
  have e1 := Int.mul_ediv_add_emod i k
  have m0 := Int.emod_nonneg i (show k ≠ 0 by omega)
  have m1 := Int.emod_lt_of_pos i k0
  have q0 : 0 ≤ i / k := Int.ediv_nonneg i0 (by omega)
  unfold lawN
  rw [e]
  refine root_unique _ _ q0 ?_ ?_
  · rw [Int.le_ediv_iff_mul_le kk]
    have a : i / k * k ≤ i := by rw [Int.mul_comm]; omega
    have b := sq_mono _ _ (Int.mul_nonneg q0 (by omega)) a
    have c : i / k * (i / k) * (k * k) = i / k * k * (i / k * k) := by
      rw [Int.mul_assoc, Int.mul_assoc, Int.mul_left_comm (i / k) k k]
    omega
  · rw [Int.ediv_lt_iff_lt_mul kk]
    have a : i < (i / k + 1) * k := by rw [Int.add_mul, Int.mul_comm (i / k) k]; omega
    have b : i * i < (i / k + 1) * k * ((i / k + 1) * k) := by
      have x := Int.mul_le_mul_of_nonneg_right (Int.le_of_lt a) i0
      have y := Int.mul_lt_mul_of_pos_left a (show 0 < (i / k + 1) * k by omega)
      omega
    have c : (i / k + 1) * (i / k + 1) * (k * k) = (i / k + 1) * k * ((i / k + 1) * k) := by
      rw [Int.mul_assoc, Int.mul_assoc, Int.mul_left_comm (i / k + 1) k k]
    omega
end Go.Proofs.Ytkmhdkhaoegbjaa.Kn
