/- Decimal digits as lists of bytes. No program. -/
import Derived.Test.YtgjfigjebojjdaaPair
namespace Go.Proofs.Ytgjfigjebojjdaa.Kn
/-- The byte of a digit. -/
def dby (n : Int) : UInt8 := UInt8.ofNat (48 + n % 10).toNat
/-- The last m digits of a number. -/
def tl : Nat → Int → List UInt8
  | 0, _ => []
  | m + 1, n => tl m (n / 10) ++ [dby n]
/-- The digits of a number, without leading zeros (f: more than there are). -/
def decL : Nat → Int → List UInt8
  | 0, _ => []
  | f + 1, n => if n / 10 = 0 then [dby n] else decL f (n / 10) ++ [dby n]
theorem tl_len (m : Nat) : ∀ n, (tl m n).length = m := by
  induction m with
  | zero => intro n; rfl
  | succ m ih => intro n; show (tl m (n / 10) ++ [dby n]).length = _; rw [List.length_append, ih]; rfl
theorem dby_toNat (n : Int) : ((dby n).toNat : Int) = 48 + n % 10 := by
  have h0 := Int.emod_nonneg n (show (10 : Int) ≠ 0 by decide)
  have h1 := Int.emod_lt_of_pos n (show (0 : Int) < 10 by decide)
  unfold dby
  have e : (UInt8.ofNat (48 + n % 10).toNat).toNat = (48 + n % 10).toNat := by simp; omega
  rw [e]; omega
/-- The digits, one by one. -/
theorem tl_map (m : Nat) : ∀ n, tl m n = (List.range m).map fun i => dby (n / 10 ^ (m - 1 - i)) := by
  induction m with
  | zero => intro n; rfl
  | succ m ih =>
    intro n
    show tl m (n / 10) ++ [dby n] = _
    rw [ih, List.range_succ, List.map_append]
    congr 1
    · apply List.map_congr_left
      intro i hi
      have hi := List.mem_range.1 hi
      rw [Int.ediv_ediv_of_nonneg (by decide), show (10 : Int) * 10 ^ (m - 1 - i) = 10 ^ (m + 1 - 1 - i) by rw [show m + 1 - 1 - i = (m - 1 - i) + 1 by omega, Int.pow_succ, Int.mul_comm]]
    · simp
/-- The digits of a number of m digits are its last m. -/
theorem decL_tl (m : Nat) : ∀ (f : Nat) (n : Int), 0 ≤ n → m < f → n / 10 ^ (m + 1) = 0 → (m = 0 ∨ ¬ n / 10 ^ m = 0) → decL f n = tl (m + 1) n := by
  induction m with
  | zero =>
    intro f n n0 hf h1 _
    obtain ⟨g, rfl⟩ : ∃ g, f = g + 1 := ⟨f - 1, by omega⟩
    rw [Int.pow_succ, Int.pow_zero, Int.one_mul] at h1
    show (if n / 10 = 0 then [dby n] else _) = _
    rw [if_pos h1]; rfl
  | succ m ih =>
    intro f n n0 hf h1 h2
    obtain ⟨g, rfl⟩ : ∃ g, f = g + 1 := ⟨f - 1, by omega⟩
    have e1 : ∀ j : Nat, n / 10 / 10 ^ j = n / 10 ^ (j + 1) := fun j => by
      rw [Int.ediv_ediv_of_nonneg (by decide), Int.pow_succ, Int.mul_comm]
    have hz : ¬ n / 10 = 0 := by
      rcases h2 with h2 | h2
      · omega
      · intro c
        apply h2
        rw [← e1, c, Int.zero_ediv]
    show (if n / 10 = 0 then [dby n] else decL g (n / 10) ++ [dby n]) = tl (m + 1) (n / 10) ++ [dby n]
    rw [if_neg hz, ih g (n / 10) (Int.ediv_nonneg n0 (by decide)) (by omega) (by rw [e1]; exact h1) (by
      rcases h2 with h2 | h2
      · omega
      · by_cases c : m = 0
        · exact .inl c
        · exact .inr (by rw [e1]; exact h2))]
end Go.Proofs.Ytgjfigjebojjdaa.Kn
