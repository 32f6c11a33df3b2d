/- A text that is decimal: its number, its length, its digits. -/
import Derived.Test.YtgjfigjebojjdaaPars
import Derived.Test.YtgjfigjebojjdaaWideg
import Derived.Test.YtgjfigjebojjdaaTxtb
namespace Go.Proofs.Ytgjfigjebojjdaa
open Go.ChangeShapes Go.WideShapes Go.ChangeAt Go.RowKit Kn
set_option linter.unusedVariables false
theorem at_data (s : ByteArray) (k : Nat) (h : k < s.size) : s[k] = s.data.toList[k]'(by simpa using h) := rfl
theorem digsL_of {s : ByteArray} (h : digsTo s s.size) : digsL s.data.toList := by
  intro c hc
  obtain ⟨k, hk, rfl⟩ := List.getElem_of_mem hc
  have hk' : k < s.size := by simpa using hk
  exact h k hk' hk'
theorem valT_num (s : ByteArray) : ∀ k, k ≤ s.size → valT s k = numL (s.data.toList.take k) := by
  intro k
  induction k with
  | zero => intro _; rfl
  | succ k ih =>
    intro hk
    have hk' : k < s.data.toList.length := by have : s.data.toList.length = s.size := by simp
                                              omega
    rw [List.take_succ_eq_append_getElem hk', numL_snoc, ← ih (by omega)]
    show valT s k * 10 + digAt s k = _
    unfold digAt
    rw [dif_pos (show k < s.size by omega)]
    rfl
theorem valT_all (s : ByteArray) : valT s s.size = numL s.data.toList := by
  rw [valT_num s s.size (Nat.le_refl _), List.take_of_length_le (by simp)]
/-- The greatest number of 128 bits, as a text. -/
def MOST : List UInt8 := [51, 52, 48, 50, 56, 50, 51, 54, 54, 57, 50, 48, 57, 51, 56, 52, 54, 51, 52, 54, 51, 51, 55, 52, 54, 48, 55, 52, 51, 49, 55, 54, 56, 50, 49, 49, 52, 53, 53]
theorem most_num : numL MOST = 340282366920938463463374607431768211455 := by decide +kernel
theorem most_len : MOST.length = 39 := rfl
theorem most_digs : digsL MOST := by unfold digsL MOST; decide
theorem pow_le {a b : Nat} (h : a ≤ b) : (10 : Int) ^ a ≤ 10 ^ b := by
  rw [show b = a + (b - a) by omega, Int.pow_add]
  have := Int.mul_le_mul_of_nonneg_left (show (1 : Int) ≤ 10 ^ (b - a) by have := pow10 (b - a); omega) (Int.le_of_lt (pow10 a))
  omega
theorem val_hi {s : ByteArray} (h : digsTo s s.size) : valT s s.size < 10 ^ s.size := by
  have := (numL_bd (digsL_of h)).2
  rw [valT_all]
  simpa using this
theorem val_lo {s : ByteArray} (h : decT s) (h1 : 1 < s.size) : 10 ^ (s.size - 1) ≤ valT s s.size := by
  have hd := digsL_of h.1
  have hl : s.data.toList.length = s.size := by simp
  rw [valT_all]
  obtain ⟨c, r, e⟩ : ∃ c r, s.data.toList = c :: r := by
    cases hs : s.data.toList with
    | nil => rw [hs] at hl; simp at hl; omega
    | cons c r => exact ⟨c, r, rfl⟩
  have hc : ¬ (c.toNat : Int) = 48 := by
    rcases h.2 with h2 | ⟨h2, h3⟩
    · omega
    · have : s[0] = c := by rw [at_data s 0 (by omega)]; simp [e]
      rw [← this]; exact h3
  rw [e] at hd hl ⊢
  have hh := hd.head
  have hr := numL_bd hd.tail
  have hp := pow10 r.length
  have hsz : s.size - 1 = r.length := by simp at hl; omega
  rw [hsz]
  show _ ≤ ((c.toNat : Int) - 48) * 10 ^ r.length + numL r
  have := Int.mul_le_mul_of_nonneg_right (show 1 ≤ (c.toNat : Int) - 48 by omega) (Int.le_of_lt hp)
  omega
/-- Is the text longer than the greatest one, or as long and behind it? -/
theorem over_iff {s : ByteArray} (h : decT s) : 340282366920938463463374607431768211456 ≤ valT s s.size ↔ 39 < s.size ∨ (s.size = 39 ∧ numL MOST < numL s.data.toList) := by
  have e38 : (10 : Int) ^ 38 = 100000000000000000000000000000000000000 := rfl
  have e39 : (10 : Int) ^ 39 = 1000000000000000000000000000000000000000 := rfl
  rw [most_num, ← valT_all]
  rcases Nat.lt_trichotomy s.size 39 with h1 | h1 | h1
  · have a := val_hi h.1
    have b := pow_le (show s.size ≤ 38 by omega)
    constructor
    · intro c; omega
    · intro c; omega
  · constructor
    · intro c; exact .inr ⟨h1, by omega⟩
    · intro c; omega
  · have a := val_lo h (by omega)
    have b := pow_le (show 39 ≤ s.size - 1 by omega)
    constructor
    · intro c; exact .inl h1
    · intro c; omega
theorem val_back {s : ByteArray} (h : digsTo s s.size) : ∀ j, j ≤ s.size → valT s s.size / 10 ^ j = valT s (s.size - j) := by
  intro j
  induction j with
  | zero => intro _; rw [Int.pow_zero, Int.ediv_one, Nat.sub_zero]
  | succ j ih =>
    intro hj
    rw [Int.pow_succ, ← Int.ediv_ediv_of_nonneg (Int.le_of_lt (pow10 j)), ih (by omega)]
    have e : s.size - j = (s.size - (j + 1)) + 1 := by omega
    have d := digAt_bd h (s.size - (j + 1))
    rw [e]
    show (valT s (s.size - (j + 1)) * 10 + digAt s (s.size - (j + 1))) / 10 = _
    omega
/-- The digits of a decimal text's number are the text. -/
theorem txt_back {s : ByteArray} (h : decT s) {N : Int} (hN : valT s s.size = N) {p : Nat} (hp : p < 39) (h1 : N / 10 ^ (39 - p) = 0) (h2 : p = 38 ∨ ¬ N / 10 ^ (38 - p) = 0) : (⟨(txt N p).toArray⟩ : ByteArray) = s := by
  have hs0 : 1 ≤ s.size := by rcases h.2 with h3 | ⟨h3, _⟩ <;> omega
  have N0 : 0 ≤ N := by rw [← hN]; exact valT0 h.1 _
  have hhi := val_hi h.1
  rw [hN] at hhi
  have hL : 39 - p = s.size := by
    have hup : N < 10 ^ (39 - p) := by
      have := Int.lt_ediv_add_one_mul_self N (pow10 (39 - p))
      rw [h1] at this
      omega
    have hlo : p = 38 ∨ 10 ^ (38 - p) ≤ N := by
      rcases h2 with h2 | h2
      · exact .inl h2
      · right
        have hq : 0 < N / 10 ^ (38 - p) := by
          have := Int.ediv_nonneg N0 (Int.le_of_lt (pow10 (38 - p)))
          omega
        have h3 := Int.ediv_mul_le N (show (10 : Int) ^ (38 - p) ≠ 0 by have := pow10 (38 - p); omega)
        have h4 := Int.mul_le_mul_of_nonneg_right (show 1 ≤ N / 10 ^ (38 - p) by omega) (Int.le_of_lt (pow10 (38 - p)))
        omega
    have mono : ∀ a b : Nat, (10 : Int) ^ a < 10 ^ b → a < b := by
      intro a b hab
      rcases Nat.lt_or_ge a b with h5 | h5
      · exact h5
      · have := pow_le h5; omega
    by_cases hs1 : s.size = 1
    · rcases hlo with h3 | h3
      · omega
      · have := mono (38 - p) s.size (by omega)
        omega
    · have h4 := val_lo h (by omega)
      rw [hN] at h4
      have h5 := mono (s.size - 1) (39 - p) (by omega)
      rcases hlo with h3 | h3
      · omega
      · have := mono (38 - p) s.size (by omega)
        omega
  apply bytes_inj
  show txt N p = s.data.toList
  rw [txt_tl N p hp, hL, tl_map]
  apply List.ext_getElem
  · simp
  · intro i hi1 hi2
    have hi : i < s.size := by simpa using hi2
    simp only [List.getElem_map, List.getElem_range]
    apply UInt8.toNat_inj.1
    have hb := val_back h.1 (s.size - 1 - i) (by omega)
    rw [hN, show s.size - (s.size - 1 - i) = i + 1 by omega] at hb
    have hd := dby_toNat (N / 10 ^ (s.size - 1 - i))
    rw [hb] at hd
    have e : valT s (i + 1) = valT s i * 10 + digAt s i := rfl
    have d := digAt_bd h.1 i
    have e2 : digAt s i = (s[i].toNat : Int) - 48 := by unfold digAt; rw [dif_pos hi]
    rw [at_data s i hi] at e2
    rw [hb]
    omega
end Go.Proofs.Ytgjfigjebojjdaa
