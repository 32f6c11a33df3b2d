/- What the calls of package wide answer: differences, shifts down, bits. -/
import Derived.Test.YtkmhdkhaoegbjaaWide
namespace Go.Proofs.Ytkmhdkhaoegbjaa
open Go.ChangeShapes Go.WideShapes Go.ChangeAt Go.RowKit Kn
set_option linter.unusedVariables false
def bor (x y b : Int) : Int := if x < y + b then 1 else 0
theorem bor0 (x y b : Int) : 0 ≤ bor x y b := by unfold bor; split <;> omega
theorem bor1 (x y b : Int) : bor x y b ≤ 1 := by unfold bor; split <;> omega
theorem right_cap (h : Int) (m : Nat) (h0 : 0 ≤ h) (h1 : h ≤ 18446744073709551615) : h / 2 ^ min m 64 = h / 2 ^ m := by
  by_cases hm : m ≤ 64
  · rw [Nat.min_eq_left hm]
  · have e : (2 : Int) ^ m = 2 ^ 64 * 2 ^ (m - 64) := by rw [← Int.pow_add]; congr 1; omega
    have z : h / 2 ^ 64 = 0 := Int.ediv_eq_zero_of_lt h0 (by omega)
    rw [Nat.min_eq_right (by omega), e, ← Int.ediv_ediv_of_nonneg (by decide), z, Int.zero_ediv]
def bitsN (h l : Int) : Int := if h = 0 then (Lib.bitLen l.toNat : Int) else 64 + (Lib.bitLen h.toNat : Int)
set_option maxHeartbeats 400000 in
theorem wbits_any (h l : Int) (w : World) (h0 : 0 ≤ h) (h1 : h ≤ 18446744073709551615) (l0 : 0 ≤ l) (l1 : l ≤ 18446744073709551615) :
    Calls Try.prog 49 #[.agg #[.int .u64 h, .int .u64 l]] w fun e w' => e = .returned (.int .i64 (bitsN h l)) ∧ Below w.heap.size w w' := by
  have b1 := Lib.bitLen_le h.toNat 64 (Nat.le_refl _) (by omega)
  by_cases hz : h = 0
  · subst hz
    have e : bitsN 0 l = (Lib.bitLen l.toNat : Int) := rfl
    rw [e]; clear e
    go_enter Try.func49, Try.ntmps49
    go_wp2_with (go_at_call 53; refine (Try.bits_Len64 _ _ (by omega) (by omega)).mono ?_; rintro e w' ⟨rfl, rfl⟩)
    go_ret
    exact ⟨rfl, (Below.refl _ _).alloc (Nat.le_refl _) _⟩
  · have e : bitsN h l = 64 + (Lib.bitLen h.toNat : Int) := by unfold bitsN; rw [if_neg hz]
    rw [e]; clear e
    go_enter Try.func49, Try.ntmps49
    go_wp2_with (go_at_call 53; refine (Try.bits_Len64 _ _ (by omega) (by omega)).mono ?_; rintro e w' ⟨rfl, rfl⟩)
    go_ret
    exact ⟨rfl, (Below.refl _ _).alloc (Nat.le_refl _) _⟩
end Go.Proofs.Ytkmhdkhaoegbjaa
