/- A number's digits are a text that is read as the number again. -/
import Derived.Test.YtgjfigjebojjdaaWideg
import Derived.Test.YtgjfigjebojjdaaWided
import Derived.Test.YtgjfigjebojjdaaTxt
namespace Go.Proofs.Ytgjfigjebojjdaa
open Go.ChangeShapes Go.WideShapes Go.ChangeAt Go.RowKit Kn
set_option linter.unusedVariables false
theorem txt_tl (N : Int) (p : Nat) (hp : p < 39) : txt N p = tl (39 - p) N := by
  rw [tl_map]
  unfold txt
  apply List.map_congr_left
  intro i hi
  have hi := List.mem_range.1 hi
  rw [show 38 - (p + i) = 39 - p - 1 - i by omega]
  rfl
theorem txt_decL (N : Int) (p : Nat) (hp : p < 39) (N0 : 0 ≤ N) (h1 : N / 10 ^ (39 - p) = 0) (h2 : p = 38 ∨ ¬ N / 10 ^ (38 - p) = 0) : txt N p = decL 39 N := by
  rw [txt_tl N p hp, decL_tl (38 - p) 39 N N0 (by omega) (by rw [show 38 - p + 1 = 39 - p by omega]; exact h1) (by
    rcases h2 with h | h
    · exact .inl (by omega)
    · exact .inr h), show 38 - p + 1 = 39 - p by omega]
theorem byte_at (l : List UInt8) (j : Nat) (h : j < (ByteArray.mk l.toArray).size) : (ByteArray.mk l.toArray)[j] = l[j]'(by simpa [ByteArray.size] using h) := rfl
theorem tl_at (L : Nat) (N : Int) (j : Nat) (h : j < (tl L N).length) : (((tl L N)[j]).toNat : Int) = 48 + N / 10 ^ (L - 1 - j) % 10 := by
  have e : (tl L N)[j] = dby (N / 10 ^ (L - 1 - j)) := by
    have := tl_map L N
    rw [List.getElem_of_eq this]; simp
  rw [e, dby_toNat]
theorem read_back (L : Nat) (N : Int) (N0 : 0 ≤ N) (hL : 1 ≤ L) (h1 : N / 10 ^ L = 0) (h2 : L = 1 ∨ ¬ N / 10 ^ (L - 1) = 0) :
    decT ⟨(tl L N).toArray⟩ ∧ valT ⟨(tl L N).toArray⟩ (ByteArray.mk (tl L N).toArray).size = N := by
  have hsz : (ByteArray.mk (tl L N).toArray).size = L := by show (tl L N).toArray.size = L; simp [tl_len]
  have hd : ∀ (j : Nat) (h : j < (ByteArray.mk (tl L N).toArray).size), (((ByteArray.mk (tl L N).toArray)[j]).toNat : Int) = 48 + N / 10 ^ (L - 1 - j) % 10 := fun j h => by
    rw [byte_at]; exact tl_at L N j _
  refine ⟨⟨fun j h _ => ?_, ?_⟩, ?_⟩
  · rw [hd j h]
    have a := Int.emod_nonneg (N / 10 ^ (L - 1 - j)) (show (10 : Int) ≠ 0 by decide)
    have b := Int.emod_lt_of_pos (N / 10 ^ (L - 1 - j)) (show (0 : Int) < 10 by decide)
    omega
  · rcases h2 with h2 | h2
    · exact .inl (by rw [hsz, h2])
    · by_cases c : L = 1
      · exact .inl (by rw [hsz, c])
      · refine .inr ⟨by rw [hsz]; omega, ?_⟩
        rw [hd 0]
        have e : L = (L - 1) + 1 := by omega
        have hq : N / 10 ^ (L - 1) / 10 = 0 := by
          rw [Int.ediv_ediv_of_nonneg (Int.le_of_lt (Int.pow_pos (by decide))), ← Int.pow_succ, show (L - 1).succ = L by omega]; exact h1
        have hp : 0 ≤ N / 10 ^ (L - 1) := Int.ediv_nonneg N0 (Int.le_of_lt (Int.pow_pos (by decide)))
        rw [show L - 1 - 0 = L - 1 by omega]
        omega
  · rw [hsz]
    have hv : ∀ k, k ≤ L → valT ⟨(tl L N).toArray⟩ k = N / 10 ^ (L - k) := by
      intro k
      induction k with
      | zero => intro _; rw [Nat.sub_zero, h1]; rfl
      | succ k ih =>
        intro hk
        show valT _ k * 10 + digAt _ k = _
        rw [ih (by omega)]
        have hda : digAt ⟨(tl L N).toArray⟩ k = N / 10 ^ (L - 1 - k) % 10 := by
          unfold digAt
          rw [dif_pos (by rw [hsz]; omega), hd k (by rw [hsz]; omega)]; omega
        rw [hda]
        have e : N / 10 ^ (L - k) = N / 10 ^ (L - (k + 1)) / 10 := by
          rw [Int.ediv_ediv_of_nonneg (Int.le_of_lt (Int.pow_pos (by decide))), ← Int.pow_succ, show (L - (k + 1)).succ = L - k by omega]
        rw [e, show L - 1 - k = L - (k + 1) by omega]
        omega
    rw [hv L (Nat.le_refl _), Nat.sub_self, Int.pow_zero, Int.ediv_one]
/-- A number's digits, as the document has them, are read as the number. -/
theorem decL_reads (N : Int) (N0 : 0 ≤ N) (N1 : N < 340282366920938463463374607431768211456) (p : Nat) (hp : p < 39) (h1 : N / 10 ^ (39 - p) = 0) (h2 : p = 38 ∨ ¬ N / 10 ^ (38 - p) = 0) (e : Ending) (h : ParseTo ⟨(decL 39 N).toArray⟩ e) :
    e = .returned (.tuple #[.agg #[.int .u64 (hi N), .int .u64 (lo N)], .int .i64 0]) := by
  have ed : decL 39 N = tl (39 - p) N := by rw [← txt_decL N p hp N0 h1 h2, txt_tl N p hp]
  obtain ⟨a, b⟩ := read_back (39 - p) N N0 (by omega) h1 (by
    rcases h2 with h | h
    · exact .inl (by omega)
    · exact .inr (by rw [show 39 - p - 1 = 38 - p by omega]; exact h))
  rw [← ed] at a b
  rcases h with ⟨_, _, h⟩ | ⟨_, h, _⟩ | ⟨h, _⟩
  · rw [b] at h; exact h
  · rw [b] at h; omega
  · exact absurd a h
end Go.Proofs.Ytgjfigjebojjdaa
