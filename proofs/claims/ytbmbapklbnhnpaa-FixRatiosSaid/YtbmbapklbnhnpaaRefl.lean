/- The document's answers of layer 2: quotients, rounded downwards. -/
import Derived.Test.YtbmbapklbnhnpaaRefj
import Derived.Test.YtbmbapklbnhnpaaRefk
namespace Go.Proofs.Ytbmbapklbnhnpaa
open Go.ChangeShapes Go.WideShapes Go.ChangeAt Go.RowKit Kn
set_option linter.unusedVariables false
theorem unb_sgn (a : Int) (h : ¬ a = 0) : sat (sgn (isNeg a) 18446744073709551616) = unbN a := by
  by_cases ha : a < 0
  · have e : isNeg a = true := by unfold isNeg; simp [ha]
    rw [e]; unfold unbN; rw [if_neg (by omega), if_pos ha]; rfl
  · have e : isNeg a = false := by unfold isNeg; simp [ha]
    rw [e]; unfold unbN; rw [if_pos (by omega)]; rfl
set_option maxHeartbeats 1000000 in
theorem rratio_zero (a : Int) (w : World) (a0 : -9223372036854775808 ≤ a) (a1 : a ≤ 9223372036854775807) :
    Calls Try.prog 53 #[.int .i64 a, .int .i64 0] w fun e w' => e = .returned (.int .i64 (unbN a)) ∧ Below w.heap.size w w' := by
  have m1 := mag1 a a0 a1
  have m0 := mag0 a
  have hb := Below.refl w.heap.size w
  have tok : True := trivial
  have et : isNeg 0 = false := rfl
  have m2 : mag 0 = 0 := rfl
  by_cases ha : a = 0
  · subst ha
    have es : isNeg 0 = false := rfl
    have ef : unbN 0 = 0 := rfl
    rw [ef]
    clear ef
    go_enter Try.func53, Try.ntmps53
    go_wp2_with (go_at_call 71; refine (rsize_any _ _ (by omega) (by omega)).mono ?_; (first
        | (clear tok; rintro e w1 ⟨rfl, hb1⟩; rw [es]; replace hb := hb.trans (hb1.mono hb.size))
        | (rintro e w2 ⟨rfl, hb2⟩; rw [et]; replace hb := (hb.alloc hb.size _).trans (hb2.mono (by have := hb.size; (try simp); (try omega))); obtain ⟨hc2, hf2⟩ := bcell hb2; have hz2 : w1.heap.size < w2.heap.size := (by have := hb2.size; simp at this; omega))))
    go_ret
    exact ⟨rfl, hb.alloc hb.size _⟩
  · have ef := unb_sgn a ha
    have eh : hi 18446744073709551616 = 1 := rfl
    have el : lo 18446744073709551616 = 0 := rfl
    have hr := fun t W => rback_any t 18446744073709551616 W (by omega) (by omega)
    rw [eh, el] at hr
    have HR := Lib.hid hr
    clear eh el hr
    obtain ⟨sa, es⟩ : ∃ t, isNeg a = t := ⟨_, rfl⟩
    rw [es] at ef
    have EF := Lib.hid ef; clear ef
    go_enter Try.func53, Try.ntmps53
    go_wp2_with (first
      | (go_at_call 71; refine (rsize_any _ _ (by omega) (by omega)).mono ?_; (first
        | (clear tok; rintro e w1 ⟨rfl, hb1⟩; rw [es]; replace hb := hb.trans (hb1.mono hb.size))
        | (rintro e w2 ⟨rfl, hb2⟩; rw [et]; replace hb := (hb.alloc hb.size _).trans (hb2.mono (by have := hb.size; (try simp); (try omega))); obtain ⟨hc2, hf2⟩ := bcell hb2; have hz2 : w1.heap.size < w2.heap.size := (by have := hb2.size; simp at this; omega))))
      | (go_at_call 72; refine (HR.out _ _).mono ?_; rintro e w5 ⟨rfl, hb5⟩; replace hb := (hb.alloc hb.size _).trans (hb5.mono (by have := hb.size; (try simp); (try omega)))))
    go_ret
    exact ⟨ret_int EF.out, hb⟩
theorem downN_zero (t : Bool) : downN t 0 0 = 0 := by cases t <;> rfl
theorem down_ratio (a b : Int) (hb : ¬ b = 0) : downS ((isNeg a != isNeg b) && !(a == 0)) (decide (0 < mag a * 4294967296 % mag b)) (mag a * 4294967296 / mag b) = ratioN a b := by
  have hp := magp b hb
  rw [downS_eq _ _ _ (Int.emod_nonneg _ (by omega))]
  by_cases ha : a = 0
  · subst ha
    unfold ratioN
    rw [show mag 0 * 4294967296 = 0 from rfl, Int.zero_ediv, Int.zero_emod]
    rw [downN_zero, downN_zero]
  · have e : (!(a == 0)) = true := by simp [ha]
    rw [e, Bool.and_true]
    rfl
set_option maxHeartbeats 40000000 in
theorem rratio_any (a b : Int) (w : World) (a0 : -9223372036854775808 ≤ a) (a1 : a ≤ 9223372036854775807) (b0 : -9223372036854775808 ≤ b) (b1 : b ≤ 9223372036854775807) (hbz : (b == 0) = false) :
    Calls Try.prog 53 #[.int .i64 a, .int .i64 b] w fun e w' => e = .returned (.int .i64 (sat (ratioN a b))) ∧ Below w.heap.size w w' := by
  have hb0 : ¬ b = 0 := by simpa using hbz
  have m0 := mag0 a
  have m1 := mag1 a a0 a1
  have m2 := magp b hb0
  have m3 := mag1 b b0 b1
  have eL : leftN (num 0 (mag a)) (32 : Int).toNat = mag a * 4294967296 := by
    show (0 * 18446744073709551616 + mag a) * 4294967296 % 340282366920938463463374607431768211456 = _
    omega
  have n0 : 0 ≤ mag a * 4294967296 := by omega
  have k0 := hi0 _ n0
  have k1 := hi1 (mag a * 4294967296) (by omega)
  have k2 := lo0 (mag a * 4294967296)
  have k3 := lo1 (mag a * 4294967296)
  have en := num_hi_lo (mag a * 4294967296)
  have q0 : 0 ≤ mag a * 4294967296 / mag b := Int.ediv_nonneg n0 (by omega)
  have q1 : mag a * 4294967296 / mag b ≤ mag a * 4294967296 := Int.ediv_le_self _ n0
  have ef := down_ratio a b hb0
  obtain ⟨sa, es⟩ : ∃ t, isNeg a = t := ⟨_, rfl⟩
  obtain ⟨sb, et⟩ : ∃ t, isNeg b = t := ⟨_, rfl⟩
  obtain ⟨sz, ez⟩ : ∃ t, (a == 0) = t := ⟨_, rfl⟩
  rw [es, et, ez] at ef
  have EF := Lib.hid ef; clear ef hb0
  have tok : True := trivial
  have hb := Below.refl w.heap.size w
  go_enter Try.func53, Try.ntmps53
  go_wp2_with (go_at_call 71; refine (rsize_any _ _ (by omega) (by omega)).mono ?_; (first
        | (clear tok; rintro e w1 ⟨rfl, hb1⟩; rw [es]; replace hb := hb.trans (hb1.mono hb.size))
        | (rintro e w2 ⟨rfl, hb2⟩; rw [et]; replace hb := (hb.alloc hb.size _).trans (hb2.mono (by have := hb.size; (try simp); (try omega))); obtain ⟨hc2, hf2⟩ := bcell hb2; have hz2 : w1.heap.size < w2.heap.size := (by have := hb2.size; simp at this; omega))))
  have hzw := hb.size
  go_region_with (first
      | (go_at_call 27; refine (rleft_any _ _ _ _ (by omega) (by omega) (by omega) (by omega)).mono ?_; rintro e w3 ⟨rfl, hb3⟩; rw [eL]; obtain ⟨hc3, hf3⟩ := bcell hb3; have hz3 : w2.heap.size < w3.heap.size := (by have := hb3.size; simp at this; omega); (try have hz31 : w2.heap.size + 1 < w3.heap.size := (by have := hb3.size; simp at this; omega)); replace hb := (show Below w.heap.size w _ from by (repeat (first | exact hb | apply Below.drew | refine Below.alloc ?_ (by have := hb.size; (try simp); (try omega)) _))).trans (hb3.mono (by have := hb.size; (try simp); (try omega))))
      | (go_at_call 25; refine (rdiv_any _ _ _ _ k0 k1 k2 k3 (by omega) (by omega)).mono ?_; rintro e w4 ⟨rfl, hb4⟩; rw [en]; obtain ⟨hc4, hf4⟩ := bcell hb4; have hz4 : w3.heap.size ≤ w4.heap.size := (by have := hb4.size; (try simp at this); omega); have hz41 : w2.heap.size < w4.heap.size := (by omega); (try have hz42 : w2.heap.size + 1 < w4.heap.size := (by omega)); (try have hz43 : w3.heap.size < w4.heap.size := (by have := hb4.size; simp at this; omega)); replace hb := (show Below w.heap.size w _ from by (repeat (first | exact hb | apply Below.drew | refine Below.alloc ?_ (by have := hb.size; (try simp); (try omega)) _))).trans (hb4.mono (by have := hb.size; (try simp); (try omega)))))
  all_goals
    cases sa <;> cases sb <;> cases sz
  all_goals
    go_wp2_with (go_at_call 78; refine (rdown_any _ _ _ _ q0 (by omega)).mono ?_; rintro e w5 ⟨rfl, hb5⟩; replace hb := (show Below w.heap.size w _ from by (repeat (first | exact hb | apply Below.drew | refine Below.setCell (p := ⟨_, _, none⟩) ?_ (by (dsimp only; omega)) _ | refine Below.alloc ?_ (by have := hb.size; (try simp); (try omega)) _))).trans (hb5.mono (by have := hb.size; (try simp); (try omega))))
    go_ret
    exact ⟨ret_int (by rw [← EF.out]; first | rfl | (show sat (downS (!(a == 0)) _ _) = _; rw [ez]; rfl)), hb⟩
end Go.Proofs.Ytbmbapklbnhnpaa
