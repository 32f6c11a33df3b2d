/- The document's answers of layer 2: products. -/
import Derived.Test.YtkmhdkhaoegbjaaRefd
import Derived.Test.YtkmhdkhaoegbjaaRefe
namespace Go.Proofs.Ytkmhdkhaoegbjaa
open Go.ChangeShapes Go.WideShapes Go.ChangeAt Go.RowKit Kn
set_option linter.unusedVariables false
theorem sgn_mul (a b : Int) : sgn (isNeg a != isNeg b) (mag a * mag b) = a * b := by
  cases h : negB a b
  · have h2 : (isNeg a != isNeg b) = false := h
    rw [h2, mul_pos a b h]; rfl
  · have h2 : (isNeg a != isNeg b) = true := h
    rw [h2, mul_neg a b h]; rfl
set_option maxHeartbeats 2000000 in
theorem rmul02_any (a b : Int) (w : World) (a0 : -9223372036854775808 ≤ a) (a1 : a ≤ 9223372036854775807) (b0 : -9223372036854775808 ≤ b) (b1 : b ≤ 9223372036854775807) :
    Calls Try.prog 21 #[.int .i64 a, .int .i64 b] w fun e w' => e = .returned (.int .i64 (sat (a * b))) ∧ Below w.heap.size w w' := by
  have m0 := mag0 a
  have m1 := mag1 a a0 a1
  have m2 := mag0 b
  have m3 := mag1 b b0 b1
  obtain ⟨n0, n1⟩ := magmul a b a0 a1 b0 b1
  have ef := sgn_mul a b
  obtain ⟨sa, es⟩ : ∃ t, isNeg a = t := ⟨_, rfl⟩
  obtain ⟨sb, et⟩ : ∃ t, isNeg b = t := ⟨_, rfl⟩
  rw [es, et] at ef
  have EF := Lib.hid ef; clear ef
  have tok : True := trivial
  have hb := Below.refl w.heap.size w
  cases sa <;> cases sb
  all_goals
    go_enter Try.func21, Try.ntmps21
    go_wp2_with (first
      | (go_at_call 29; refine (rsize_any _ _ (by omega) (by omega)).mono ?_; (first
        | (clear tok; rintro e w1 ⟨rfl, hb1⟩; rw [es]; replace hb := hb.trans (hb1.mono hb.size))
        | (rintro e w2 ⟨rfl, hb2⟩; rw [et]; replace hb := (hb.alloc hb.size _).trans (hb2.mono (by have := hb.size; simp; omega)); obtain ⟨hc2, hf2⟩ := bcell hb2; have hz2 : w1.heap.size < w2.heap.size := (by have := hb2.size; simp at this; omega))))
      | (go_at_call 35; refine (rmul_any _ _ _ (by omega) (by omega) (by omega) (by omega)).mono ?_; rintro e w3 ⟨rfl, hb3⟩; replace hb := (hb.alloc hb.size _).trans (hb3.mono (by have := hb.size; simp; omega)))
      | (go_at_call 31; refine (rback_any _ _ _ (by omega) (by omega)).mono ?_; rintro e w5 ⟨rfl, hb5⟩; replace hb := hb.trans (hb5.mono hb.size)))
    go_ret
    exact ⟨ret_int (by rw [← EF.out]; rfl), hb⟩
end Go.Proofs.Ytkmhdkhaoegbjaa
