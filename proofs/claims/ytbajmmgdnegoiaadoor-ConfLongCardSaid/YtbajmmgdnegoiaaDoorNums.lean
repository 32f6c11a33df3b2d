/- Plain arithmetic of words of 64 bits: quotient digits, bits, saturation. No program. -/
import Derived.Lib.BitFns
import Derived.Lib.ItoaNum
import Derived.Laws.BitsLemmas
import Derived.Laws.Bits64
namespace Go.Proofs.YtbajmmgdnegoiaaDoor.Kn

theorem spread (q y1 y0 : Int) : q * (y1 * 4294967296 + y0) = q * y1 * 4294967296 + q * y0 := by
  rw [Int.mul_add, Int.mul_assoc]
theorem top (u u1 y : Int) (hu0 : 0 ≤ u) (hu : u < y) (h1 : u1 < 4294967296) :
    (u * 4294967296 + u1) / y < 4294967296 :=
  Int.ediv_lt_of_lt_mul (by omega) (by omega)
theorem start (u u1 y1 y0 y : Int) (hy : y = y1 * 4294967296 + y0) (hy1 : 2147483648 ≤ y1) (k0 : 0 ≤ y0) (hy0 : y0 < 4294967296) (hu0 : 0 ≤ u) (hu : u < y) (h0 : 0 ≤ u1) (h1 : u1 < 4294967296) :
    u / y1 ≤ 4294967297 ∧ 0 ≤ u / y1 ∧ 0 ≤ u - u / y1 * y1 ∧ u - u / y1 * y1 < y1 ∧ (u * 4294967296 + u1) / y ≤ u / y1 := by
  have e := Int.emod_add_mul_ediv u y1
  have n0 := Int.emod_nonneg u (b := y1) (by omega)
  have n1 := Int.emod_lt_of_pos u (b := y1) (by omega)
  rw [Int.mul_comm] at e
  refine ⟨?_, Int.ediv_nonneg hu0 (by omega), by omega, by omega, ?_⟩
  · have : u / y1 < 4294967298 := Int.ediv_lt_of_lt_mul (by omega) (by omega)
    omega
  · apply (Int.le_ediv_iff_mul_le (by omega)).2
    have h := Int.ediv_mul_le (u * 4294967296 + u1) (b := y) (by omega)
    have hq : 0 ≤ (u * 4294967296 + u1) / y := Int.ediv_nonneg (by omega) (by omega)
    have e2 := spread ((u * 4294967296 + u1) / y) y1 y0
    have e3 : 0 ≤ (u * 4294967296 + u1) / y * y0 := Int.mul_nonneg hq k0
    rw [← hy] at e2
    generalize (u * 4294967296 + u1) / y = Q at h e2 e3 ⊢
    omega
theorem more (u u1 y1 y0 y q r : Int) (hy : y = y1 * 4294967296 + y0) (hu0 : 0 ≤ u) (hu : u < y) (h1 : u1 < 4294967296) (e : q * y1 + r = u)
    (hq : 4294967296 ≤ q ∨ 4294967296 * r + u1 < q * y0) (hQ : (u * 4294967296 + u1) / y ≤ q) (h0 : 0 ≤ u1) :
    1 ≤ q ∧ (u * 4294967296 + u1) / y ≤ q - 1 := by
  have ht := top u u1 y hu0 hu h1
  have hp : 0 ≤ (u * 4294967296 + u1) / y := Int.ediv_nonneg (by omega) (by omega)
  rcases hq with hq | hq
  · omega
  · have e2 := spread q y1 y0
    rw [← hy] at e2
    have h2 : (u * 4294967296 + u1) / y < q := Int.ediv_lt_of_lt_mul (by omega) (by omega)
    omega
theorem brk (u u1 y1 y0 y q r : Int) (hy : y = y1 * 4294967296 + y0) (hp : 0 < y) (k0 : 0 ≤ y0) (hy0 : y0 < 4294967296) (h0 : 0 ≤ u1) (e : q * y1 + r = u) (hr : 4294967296 ≤ r) (hq : q ≤ 4294967296) :
    q ≤ (u * 4294967296 + u1) / y := by
  apply (Int.le_ediv_iff_mul_le hp).2
  have hb : q * y0 ≤ 4294967296 * 4294967295 := Int.mul_le_mul hq (by omega) k0 (by omega)
  have e2 := spread q y1 y0
  rw [← hy] at e2
  omega
theorem stop (u u1 y1 y0 y q r : Int) (hy : y = y1 * 4294967296 + y0) (hp : 0 < y) (e : q * y1 + r = u) (h : q * y0 ≤ 4294967296 * r + u1) :
    q ≤ (u * 4294967296 + u1) / y := by
  apply (Int.le_ediv_iff_mul_le hp).2
  have e2 := spread q y1 y0
  rw [← hy] at e2
  omega
/-- One round of the digit's loop: it leaves with the digit, or goes on, or the test says that it is the digit. -/
theorem round (u u1 y1 y0 y q r Q : Int) (hQ : Q = (u * 4294967296 + u1) / y) (hy : y = y1 * 4294967296 + y0) (hy1 : 2147483648 ≤ y1) (k0 : 0 ≤ y0) (k1 : y0 ≤ 4294967295)
    (hu0 : 0 ≤ u) (hu : u < y) (h0 : 0 ≤ u1) (h1 : u1 ≤ 4294967295) (q0 : 0 ≤ q) (q1 : q ≤ 4294967297) (e : q * y1 + r = u) (le : Q ≤ q) :
    ((4294967296 ≤ q ∨ q < 4294967296 ∧ 4294967296 * r + u1 < q * y0 ∧ 0 ≤ q * y0 ∧ q * y0 ≤ 18446744073709551615) ∧ q - 1 = Q ∧ 4294967296 ≤ r + y1) ∨
    ((4294967296 ≤ q ∨ q < 4294967296 ∧ 4294967296 * r + u1 < q * y0 ∧ 0 ≤ q * y0 ∧ q * y0 ≤ 18446744073709551615) ∧ 1 ≤ q ∧ r + y1 < 4294967296 ∧ (q - 1) * y1 + (r + y1) = u ∧ Q ≤ q - 1) ∨
    (q < 4294967296 ∧ q = Q ∧ 0 ≤ q * y0 ∧ q * y0 ≤ 4294967296 * r + u1) := by
  have p0 : 0 ≤ q * y0 := Int.mul_nonneg q0 k0
  by_cases hq : 4294967296 ≤ q
  · obtain ⟨a, b⟩ := more u u1 y1 y0 y q r hy hu0 hu (by omega) e (.inl hq) (by omega) h0
    rw [← hQ] at b
    have e3 : (q - 1) * y1 + (r + y1) = u := by rw [Int.sub_mul]; omega
    by_cases hr : 4294967296 ≤ r + y1
    · have := brk u u1 y1 y0 y (q - 1) (r + y1) hy (by omega) k0 (by omega) h0 e3 hr (by omega)
      exact .inl ⟨.inl hq, by omega, hr⟩
    · exact .inr (.inl ⟨.inl hq, a, by omega, e3, b⟩)
  · have p1 : q * y0 ≤ 4294967295 * 4294967295 := Int.mul_le_mul (by omega) k1 k0 (by omega)
    by_cases ht : 4294967296 * r + u1 < q * y0
    · obtain ⟨a, b⟩ := more u u1 y1 y0 y q r hy hu0 hu (by omega) e (.inr ht) (by omega) h0
      rw [← hQ] at b
      have e3 : (q - 1) * y1 + (r + y1) = u := by rw [Int.sub_mul]; omega
      by_cases hr : 4294967296 ≤ r + y1
      · have := brk u u1 y1 y0 y (q - 1) (r + y1) hy (by omega) k0 (by omega) h0 e3 hr (by omega)
        exact .inl ⟨.inr ⟨by omega, ht, p0, by omega⟩, by omega, hr⟩
      · exact .inr (.inl ⟨.inr ⟨by omega, ht, p0, by omega⟩, a, by omega, e3, b⟩)
    · have := stop u u1 y1 y0 y q r hy (by omega) e (by omega)
      exact .inr (.inr ⟨by omega, by omega, p0, by omega⟩)

theorem wraps64 (n : Int) (h₀ : 0 ≤ n) (h₁ : n < 2 ^ 64) : IntKind.u64.wrap n = n := by rw [IntKind.wrap_u64]; omega
theorem and32 (x : Int) (h0 : 0 ≤ x) (h1 : x ≤ 18446744073709551615) : bits .and .u64 x 4294967295 = x % 4294967296 := by
  have h := bits_mask .u64 64 (by decide) wraps64 32 (by decide) x h0 (by omega)
  have e : ((2 : Int) ^ 32 - 1) = 4294967295 := by decide
  have e2 : ((2 : Int) ^ 32) = 4294967296 := by decide
  rw [e, e2] at h
  exact h
theorem pow_add_int (a b : Nat) : (2 : Int) ^ (a + b) = 2 ^ a * 2 ^ b := Int.pow_add 2 a b
/-- The length in bits: what a shift by '64 - length' makes of a number. -/
theorem bitlen (d : Int) (h0 : 0 < d) (h1 : d ≤ 18446744073709551615) : ∃ n : Nat, Lib.bitLen d.toNat = n ∧ 1 ≤ n ∧ n ≤ 64 ∧
    9223372036854775808 ≤ d * 2 ^ (64 - n) ∧ d * 2 ^ (64 - n) ≤ 18446744073709551615 ∧ (2 : Int) ^ n * 2 ^ (64 - n) = 18446744073709551616 := by
  obtain ⟨m, rfl⟩ := Int.eq_ofNat_of_zero_le (Int.le_of_lt h0)
  have hm : m < 2 ^ 64 := by omega
  obtain ⟨a, b, c⟩ := Lib.bitLenAux_bounds 64 m hm (by omega)
  have hL := Lib.bitLen_le m 64 (Nat.le_refl _) hm
  refine ⟨Lib.bitLen m, rfl, a, hL, ?_⟩
  unfold Lib.bitLen at hL ⊢
  generalize Lib.bitLenAux 64 m = n at a b c hL
  have e1 : (2 : Int) ^ (n - 1) * 2 ^ (64 - n) = 2 ^ 63 := by rw [← pow_add_int]; congr 1; omega
  have e2 : (2 : Int) ^ n * 2 ^ (64 - n) = 2 ^ 64 := by rw [← pow_add_int]; congr 1; omega
  have b' : (2 : Int) ^ (n - 1) ≤ m := by have := Int.ofNat_le.2 b; simpa using this
  have c' : (m : Int) + 1 ≤ 2 ^ n := by have := Int.ofNat_lt.2 c; simp at this; omega
  have p : (0 : Int) < 2 ^ (64 - n) := Int.pow_pos (by decide)
  have l1 := Int.mul_le_mul_of_nonneg_right b' (Int.le_of_lt p)
  have l2 := Int.mul_le_mul_of_nonneg_right c' (Int.le_of_lt p)
  rw [e1] at l1
  rw [e2, Int.add_mul] at l2
  generalize (2 : Int) ^ (64 - n) = P at *
  exact ⟨by omega, by omega, by omega⟩
theorem div_unique (n d q r : Int) (h : n = q * d + r) (h0 : 0 ≤ r) (h1 : r < d) : n / d = q ∧ n % d = r := by
  have hd : d ≠ 0 := by omega
  refine ⟨?_, ?_⟩
  · rw [h, Int.add_comm, Int.add_mul_ediv_right _ _ hd, Int.ediv_eq_zero_of_lt h0 h1]; omega
  · rw [h, Int.add_comm, Int.add_mul_emod_self_right, Int.emod_eq_of_lt h0 h1]
/-- The two digits together are the quotient. -/
theorem both (N d P y u u1 u0 Q t Q2 R : Int) (hP : 0 < P) (hy : d * P = y) (hN : N * P = u * 18446744073709551616 + (u1 * 4294967296 + u0)) (h1 : u * 4294967296 + u1 = Q * y + t)
    (h2 : t * 4294967296 + u0 = Q2 * y + R) (r0 : 0 ≤ R) (r1 : R < y) : N / d = Q * 4294967296 + Q2 ∧ N % d = R / P := by
  have e : N * P = (Q * 4294967296 + Q2) * y + R := by rw [Int.add_mul, Int.mul_assoc, Int.mul_comm 4294967296 y, ← Int.mul_assoc]; omega
  have e2 : R = (N - (Q * 4294967296 + Q2) * d) * P := by
    rw [Int.sub_mul, Int.mul_assoc _ d P, hy]; omega
  have e3 : R / P = N - (Q * 4294967296 + Q2) * d := by rw [e2]; exact Int.mul_ediv_cancel _ (by omega)
  rw [e3]
  have k0 : 0 ≤ N - (Q * 4294967296 + Q2) * d := by rw [← e3]; exact Int.ediv_nonneg r0 (by omega)
  have k1 : N - (Q * 4294967296 + Q2) * d < d := by rw [← e3]; apply Int.ediv_lt_of_lt_mul hP; omega
  exact div_unique N d _ _ (by omega) k0 k1
end Go.Proofs.YtbajmmgdnegoiaaDoor.Kn
