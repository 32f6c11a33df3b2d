/- A product by digits of sixteen bits: a row's carries. No program. -/
import Derived.Test.YtgocnliapkokbaaDoorDigs
namespace Go.Proofs.YtgocnliapkokbaaDoor.Kn
def mc (m x b : Int) (i k : Nat) : Int := (m % 65536 ^ (i + k) + x * 65536 ^ i * (b % 65536 ^ k)) / 65536 ^ (i + k)
theorem mc_zero (m x b : Int) (i : Nat) : mc m x b i 0 = 0 := by
  unfold mc
  have p := pp i
  rw [Nat.add_zero, show (65536 : Int) ^ 0 = 1 from rfl, Int.emod_one, Int.mul_zero, Int.add_zero]
  exact Int.ediv_eq_zero_of_lt (Int.emod_nonneg _ (Int.ne_of_gt p)) (Int.emod_lt_of_pos _ p)
theorem mc_num (m x b : Int) (i k : Nat) (x0 : 0 ≤ x) (x1 : x ≤ 65535) : 0 ≤ m % 65536 ^ (i + k) + x * 65536 ^ i * (b % 65536 ^ k) ∧ m % 65536 ^ (i + k) + x * 65536 ^ i * (b % 65536 ^ k) < 65536 ^ (i + k) * 65536 := by
  have p := pp (i + k)
  have m0 := Int.emod_nonneg m (Int.ne_of_gt p)
  have m1 := Int.emod_lt_of_pos m p
  have b0 := Int.emod_nonneg b (Int.ne_of_gt (pp k))
  have b1 := Int.emod_lt_of_pos b (pp k)
  have q : (0 : Int) ≤ 65536 ^ i * (b % 65536 ^ k) := Int.mul_nonneg (Int.le_of_lt (pp i)) b0
  have r : 65536 ^ i * (b % 65536 ^ k) ≤ 65536 ^ (i + k) := by rw [Int.pow_add]; exact Int.mul_le_mul_of_nonneg_left (by omega) (Int.le_of_lt (pp i))
  rw [Int.mul_assoc]
  generalize 65536 ^ i * (b % 65536 ^ k) = z at q r ⊢
  generalize (65536 : Int) ^ (i + k) = P at *
  have s := Int.mul_nonneg x0 q
  have t := Int.mul_le_mul x1 r q (by omega)
  omega
theorem mc0 (m x b : Int) (i k : Nat) (x0 : 0 ≤ x) (x1 : x ≤ 65535) : 0 ≤ mc m x b i k := Int.ediv_nonneg (mc_num m x b i k x0 x1).1 (Int.le_of_lt (pp _))
theorem mc1 (m x b : Int) (i k : Nat) (x0 : 0 ≤ x) (x1 : x ≤ 65535) : mc m x b i k ≤ 65535 := by
  have h := mc_num m x b i k x0 x1
  have : mc m x b i k < 65536 := by unfold mc; apply Int.ediv_lt_of_lt_mul (pp _); have h2 := h.2; rw [Int.mul_comm (65536 ^ (i + k)) 65536] at h2; exact h2
  omega
theorem mc_div (m x b : Int) (i k : Nat) : (m + x * 65536 ^ i * b) / 65536 ^ (i + k) = m / 65536 ^ (i + k) + x * (b / 65536 ^ k) + mc m x b i k := by
  have e1 := Int.mul_ediv_add_emod m (65536 ^ (i + k))
  have e2 := Int.mul_ediv_add_emod b (65536 ^ k)
  have h : m + x * 65536 ^ i * b = (m % 65536 ^ (i + k) + x * 65536 ^ i * (b % 65536 ^ k)) + (m / 65536 ^ (i + k) + x * (b / 65536 ^ k)) * 65536 ^ (i + k) := by
    have e3 : x * 65536 ^ i * b = x * 65536 ^ i * (65536 ^ k * (b / 65536 ^ k)) + x * 65536 ^ i * (b % 65536 ^ k) := by rw [← Int.mul_add, e2]
    have e4 : x * 65536 ^ i * (65536 ^ k * (b / 65536 ^ k)) = x * (b / 65536 ^ k) * 65536 ^ (i + k) := by
      rw [Int.pow_add]
      simp only [Int.mul_comm, Int.mul_left_comm, Int.mul_assoc]
    rw [Int.add_mul, Int.mul_comm (m / 65536 ^ (i + k))]
    omega
  rw [h, Int.add_mul_ediv_right _ _ (Int.ne_of_gt (pp _))]
  unfold mc
  generalize (m % 65536 ^ (i + k) + x * 65536 ^ i * (b % 65536 ^ k)) / 65536 ^ (i + k) = z
  omega
theorem mc_step (m x b : Int) (i k : Nat) : (dgN m (i + k) + x * dgN b k + mc m x b i k) % 65536 = dgN (m + x * 65536 ^ i * b) (i + k) := by
  unfold dgN
  rw [mc_div m x b i k]
  have h : x * (b / 65536 ^ k % 65536) % 65536 = x * (b / 65536 ^ k) % 65536 := by rw [Int.mul_emod, Int.emod_emod, ← Int.mul_emod]
  generalize x * (b / 65536 ^ k % 65536) = y at h ⊢
  generalize x * (b / 65536 ^ k) = z at h ⊢
  omega
theorem mc_next (m x b : Int) (i k : Nat) : (dgN m (i + k) + x * dgN b k + mc m x b i k) / 65536 = mc m x b i (k + 1) := by
  have h : m % 65536 ^ (i + (k + 1)) + x * 65536 ^ i * (b % 65536 ^ (k + 1)) = (m % 65536 ^ (i + k) + x * 65536 ^ i * (b % 65536 ^ k)) + (dgN m (i + k) + x * dgN b k) * 65536 ^ (i + k) := by
    rw [← Nat.add_assoc, mod_succ m (i + k), mod_succ b k, Int.mul_add, Int.add_mul]
    have e4 : x * 65536 ^ i * (dgN b k * 65536 ^ k) = x * dgN b k * 65536 ^ (i + k) := by
      rw [Int.pow_add]
      simp only [Int.mul_comm, Int.mul_left_comm, Int.mul_assoc]
    omega
  unfold mc
  rw [h, ← Nat.add_assoc, Int.pow_succ, ← Int.ediv_ediv_of_nonneg (Int.le_of_lt (pp _)), Int.add_mul_ediv_right _ _ (Int.ne_of_gt (pp _))]
  congr 1; omega
theorem low_same (m x b : Int) (i j : Nat) (h : j < i) : dgN (m + x * 65536 ^ i * b) j = dgN m j := by
  unfold dgN
  have e : x * 65536 ^ i * b = (x * b * 65536 ^ (i - j - 1) * 65536) * 65536 ^ j := by
    rw [show i = (i - j - 1) + 1 + j by omega, Int.pow_add, Int.pow_succ, show i - j - 1 + 1 + j - j - 1 = i - j - 1 by omega]
    simp only [Int.mul_comm, Int.mul_left_comm, Int.mul_assoc]
  rw [e, Int.add_mul_ediv_right _ _ (Int.ne_of_gt (pp _))]
  omega
theorem pow_mono (i j : Nat) (h : i ≤ j) : (65536 : Int) ^ i ≤ 65536 ^ j := by
  rw [show j = i + (j - i) by omega, Int.pow_add]
  have p := pp i
  have q := pp (j - i)
  have := Int.mul_le_mul_of_nonneg_left (show (1 : Int) ≤ 65536 ^ (j - i) by omega) (Int.le_of_lt p)
  omega
theorem dgN_far (m : Int) (j : Nat) (m0 : 0 ≤ m) (m1 : m < 65536 ^ j) : dgN m j = 0 := by
  unfold dgN; rw [Int.ediv_eq_zero_of_lt m0 m1]; rfl
theorem dgN_top (m : Int) (j : Nat) (m0 : 0 ≤ m) (m1 : m < 65536 ^ (j + 1)) : dgN m j = m / 65536 ^ j := by
  unfold dgN
  have h : m / 65536 ^ j < 65536 := by apply Int.ediv_lt_of_lt_mul (pp _); rw [Int.mul_comm, ← Int.pow_succ]; exact m1
  exact Int.emod_eq_of_lt (Int.ediv_nonneg m0 (Int.le_of_lt (pp _))) h
/-- The row's product so far. -/
def rowp (a b : Int) (i : Nat) : Int := a % 65536 ^ i * b
theorem rowp_succ (a b : Int) (i : Nat) : rowp a b (i + 1) = rowp a b i + dgN a i * 65536 ^ i * b := by
  unfold rowp
  rw [mod_succ, Int.add_mul]; omega
theorem rowp_bd (a b : Int) (i : Nat) (b0 : 0 ≤ b) (b1 : b < 18446744073709551616) : 0 ≤ rowp a b i ∧ rowp a b i < 65536 ^ (i + 4) := by
  have a0 := Int.emod_nonneg a (Int.ne_of_gt (pp i))
  have a1 := Int.emod_lt_of_pos a (pp i)
  unfold rowp
  refine ⟨Int.mul_nonneg a0 b0, ?_⟩
  rw [Int.pow_add, show (65536 : Int) ^ 4 = 18446744073709551616 from rfl]
  by_cases hb : b = 0
  · subst hb; have := pp i; omega
  · have h1 := Int.mul_lt_mul_of_pos_right a1 (show 0 < b by omega)
    have h2 := Int.mul_le_mul_of_nonneg_left (show b ≤ 18446744073709551616 by omega) (Int.le_of_lt (pp i))
    omega
theorem mc_four (a b : Int) (i : Nat) (b0 : 0 ≤ b) (b1 : b < 18446744073709551616) : mc (rowp a b i) (dgN a i) b i 4 = dgN (rowp a b (i + 1)) (i + 4) := by
  obtain ⟨p0, p1⟩ := rowp_bd a b i b0 b1
  obtain ⟨q0, q1⟩ := rowp_bd a b (i + 1) b0 b1
  rw [dgN_top _ _ q0 (by rw [show i + 4 + 1 = i + 1 + 4 by omega]; exact q1), rowp_succ, mc_div, Int.ediv_eq_zero_of_lt p0 p1, show (65536 : Int) ^ 4 = 18446744073709551616 from rfl, Int.ediv_eq_zero_of_lt b0 b1]
  omega
/-- The row's digits while its product with one digit is added, and behind it. -/
def mixm (a b : Int) (i p j : Nat) : Int := if j < p then dgN (rowp a b (i + 1)) j else dgN (rowp a b i) j
theorem mixm_start (a b : Int) (i j : Nat) : dgN (rowp a b i) j = mixm a b i (i + 0) j := by
  unfold mixm
  split
  · rw [rowp_succ, low_same _ _ _ _ _ (by omega)]
  · rfl
theorem mixm_at (a b : Int) (i p : Nat) : mixm a b i p p = dgN (rowp a b i) p := by unfold mixm; rw [if_neg (by omega)]
theorem mixm_step (a b : Int) (i p j : Nat) : (if j = p then dgN (rowp a b (i + 1)) p else mixm a b i p j) = mixm a b i (p + 1) j := by
  unfold mixm
  by_cases h : j = p
  · subst h; rw [if_pos rfl, if_pos (by omega)]
  · rw [if_neg h]
    by_cases h2 : j < p
    · rw [if_pos h2, if_pos (by omega)]
    · rw [if_neg h2, if_neg (by omega)]
theorem mixm_end (a b : Int) (i j : Nat) (b0 : 0 ≤ b) (b1 : b < 18446744073709551616) : mixm a b i (i + 5) j = dgN (rowp a b (i + 1)) j := by
  unfold mixm
  split
  · rfl
  · obtain ⟨p0, p1⟩ := rowp_bd a b i b0 b1
    obtain ⟨q0, q1⟩ := rowp_bd a b (i + 1) b0 b1
    have h1 := pow_mono (i + 4) j (by omega)
    have h2 := pow_mono (i + 1 + 4) j (by omega)
    rw [dgN_far _ j p0 (by omega), dgN_far _ j q0 (by omega)]
theorem mixm_four (a b : Int) (i : Nat) (b0 : 0 ≤ b) (b1 : b < 18446744073709551616) : mixm a b i (i + 4) (i + 4) = 0 := by
  obtain ⟨p0, p1⟩ := rowp_bd a b i b0 b1
  rw [mixm_at, dgN_far _ _ p0 p1]
theorem rowp_zero (a b : Int) : rowp a b 0 = 0 := by unfold rowp; simp [Int.emod_one]
theorem rowp_four (a b : Int) (a0 : 0 ≤ a) (a1 : a < 18446744073709551616) : rowp a b 4 = a * b := by
  unfold rowp; rw [show (65536 : Int) ^ 4 = 18446744073709551616 from rfl, Int.emod_eq_of_lt a0 a1]
theorem dgN_zero (j : Nat) : dgN 0 j = 0 := by unfold dgN; simp
end Go.Proofs.YtgocnliapkokbaaDoor.Kn
