/- The document's answers of layer 1: how many bits a number has. -/
import Derived.Test.YtkmhdkhaoegbjaaRefh
import Derived.Test.YtkmhdkhaoegbjaaWideb
namespace Go.Proofs.Ytkmhdkhaoegbjaa
open Go.ChangeShapes Go.WideShapes Go.ChangeAt Go.RowKit Kn
set_option linter.unusedVariables false
/-- The place behind the highest bit below k. -/
def nb (n : Int) : Nat → Nat
  | 0 => 0
  | k + 1 => if bitN n k = 1 then k + 1 else nb n k
theorem nb_le (n : Int) (k : Nat) : nb n k ≤ k := by
  induction k with
  | zero => exact Nat.le_refl _
  | succ k ih => unfold nb; split <;> omega
theorem mod2_succ (n : Int) (k : Nat) : n % 2 ^ (k + 1) = bitN n k * 2 ^ k + n % 2 ^ k := by
  have p : (0 : Int) < 2 ^ k := Int.pow_pos (by decide)
  have e := Int.mul_ediv_add_emod n (2 ^ k)
  have e2 := Int.mul_ediv_add_emod n (2 ^ (k + 1))
  have e3 := Int.mul_ediv_add_emod (n / 2 ^ k) 2
  have e4 : n / 2 ^ (k + 1) = n / 2 ^ k / 2 := by rw [Int.pow_succ, Int.ediv_ediv_of_nonneg (Int.le_of_lt p)]
  rw [e4, Int.pow_succ] at e2
  unfold bitN
  rw [Int.pow_succ]
  have e5 : 2 ^ k * (2 * (n / 2 ^ k / 2) + n / 2 ^ k % 2) = 2 ^ k * (n / 2 ^ k) := by rw [e3]
  rw [Int.mul_add, ← Int.mul_assoc] at e5
  rw [Int.mul_comm (n / 2 ^ k % 2)]
  omega
theorem pow2_mono (i j : Nat) (h : i ≤ j) : (2 : Int) ^ i ≤ 2 ^ j := by
  rw [show j = i + (j - i) by omega, Int.pow_add]
  have p : (0 : Int) < 2 ^ i := Int.pow_pos (by decide)
  have q : (0 : Int) < 2 ^ (j - i) := Int.pow_pos (by decide)
  have := Int.mul_le_mul_of_nonneg_left (show (1 : Int) ≤ 2 ^ (j - i) by omega) (Int.le_of_lt p)
  omega
theorem nb_spec (n : Int) (k : Nat) : n % 2 ^ k < 2 ^ nb n k ∧ (0 < nb n k → 2 ^ (nb n k - 1) ≤ n % 2 ^ k) := by
  induction k with
  | zero => exact ⟨by rw [show (2 : Int) ^ 0 = 1 from rfl, Int.emod_one]; show (0 : Int) < 1; decide, fun h => absurd h (Nat.lt_irrefl 0)⟩
  | succ k ih =>
    have p : (0 : Int) < 2 ^ k := Int.pow_pos (by decide)
    have m0 := Int.emod_nonneg n (Int.ne_of_gt p)
    have m1 := Int.emod_lt_of_pos n p
    rw [mod2_succ]
    unfold nb
    by_cases hb : bitN n k = 1
    · rw [if_pos hb, hb]
      exact ⟨by rw [Int.pow_succ]; omega, fun _ => by rw [Nat.add_sub_cancel]; omega⟩
    · have h0 : bitN n k = 0 := by unfold bitN at *; omega
      rw [if_neg hb, h0]
      exact ⟨by omega, fun h => by have := ih.2 h; omega⟩
theorem bits_unique (x : Int) (a b : Nat) (a1 : x < 2 ^ a) (a0 : 0 < a → 2 ^ (a - 1) ≤ x) (b1 : x < 2 ^ b) (b0 : 0 < b → 2 ^ (b - 1) ≤ x) (hx : 0 ≤ x) : a = b := by
  rcases Nat.lt_trichotomy a b with h | h | h
  · have := pow2_mono a (b - 1) (by omega)
    have := b0 (by omega)
    omega
  · exact h
  · have := pow2_mono b (a - 1) (by omega)
    have := a0 (by omega)
    omega
theorem bitLen_spec (x : Int) (x0 : 0 ≤ x) (x1 : x ≤ 18446744073709551615) : x < 2 ^ Lib.bitLen x.toNat ∧ (0 < Lib.bitLen x.toNat → 2 ^ (Lib.bitLen x.toNat - 1) ≤ x) := by
  obtain ⟨m, rfl⟩ := Int.eq_ofNat_of_zero_le x0
  rw [Int.toNat_natCast]
  by_cases hm : m = 0
  · subst hm
    exact ⟨by show (0 : Int) < 1; decide, fun h => absurd h (by decide)⟩
  · obtain ⟨a, b, c⟩ := Lib.bitLenAux_bounds 64 m (by omega) hm
    exact ⟨by have := Int.ofNat_lt.2 c; simpa [Lib.bitLen] using this, fun _ => by have := Int.ofNat_le.2 b; simpa [Lib.bitLen] using this⟩
/-- Both count the same bits. -/
theorem nb_bits (h l : Int) (h0 : 0 ≤ h) (h1 : h ≤ 18446744073709551615) (l0 : 0 ≤ l) (l1 : l ≤ 18446744073709551615) : (nb (num h l) 128 : Int) = bitsN h l := by
  have N0 := num0 h l h0 l0
  have N1 := num1 h l h1 l1
  obtain ⟨a1, a0⟩ := nb_spec (num h l) 128
  rw [show (2 : Int) ^ 128 = 340282366920938463463374607431768211456 from rfl, Int.emod_eq_of_lt N0 N1] at a1 a0
  unfold bitsN
  by_cases hz : h = 0
  · subst hz
    have e : num 0 l = l := by unfold num; omega
    rw [if_pos rfl]
    rw [e] at a1 a0 ⊢
    obtain ⟨b1, b0⟩ := bitLen_spec l l0 l1
    rw [bits_unique l _ _ a1 a0 b1 b0 l0]
  · obtain ⟨b1, b0⟩ := bitLen_spec h h0 h1
    have hp : 0 < Lib.bitLen h.toNat := by
      rcases Nat.eq_zero_or_pos (Lib.bitLen h.toNat) with e | e
      · rw [e] at b1; have : h < 1 := b1; omega
      · exact e
    have b2 := b0 hp
    rw [if_neg hz, bits_unique (num h l) (nb (num h l) 128) (64 + Lib.bitLen h.toNat) a1 a0 ?_ ?_ N0]
    · omega
    · rw [Int.pow_add, show (2 : Int) ^ 64 = 18446744073709551616 from rfl]; unfold num; omega
    · intro _
      rw [show 64 + Lib.bitLen h.toNat - 1 = 64 + (Lib.bitLen h.toNat - 1) by omega, Int.pow_add, show (2 : Int) ^ 64 = 18446744073709551616 from rfl]; unfold num; omega
end Go.Proofs.Ytkmhdkhaoegbjaa
