/- Texts of this claim, one behind the other: Refd Digm. -/
import Derived.Test.YtcffeokbipjaoaaGreatMtas
import Derived.Test.YtcffeokbipjaoaaGreatMtat
import Derived.Test.YtcffeokbipjaoaaGreatMtau
namespace Go.Proofs.YtcffeokbipjaoaaGreat
open Go.ChangeShapes Go.WideShapes Go.ChangeAt Go.RowKit Kn
set_option linter.unusedVariables false
def isNeg (a : Int) : Bool := decide (a < 0)
set_option maxHeartbeats 400000 in
theorem rsize_any (a : Int) (w : World) (a0 : -9223372036854775808 ≤ a) (a1 : a ≤ 9223372036854775807) :
   Calls Tryz.prog 39 #[.int .i64 a] w fun e w' => e = .returned (.tuple #[.agg #[.int .u64 0, .int .u64 (mag a)], .bool (isNeg a)]) ∧ Below w.heap.size w w' := by
 by_cases h : 0 ≤ a
 · have e : mag a = a := by unfold mag; split <;> omega
   have e2 : isNeg a = false := by unfold isNeg; simp; omega
   rw [e, e2]; clear e e2
   go_enter Tryz.func39, Tryz.ntmps39
   go_wp2
   refine bodyPost_ret (v := .tuple #[.agg #[.int .u64 0, .int .u64 a], .bool false]) (by simp [results, Tryz.results39, go_sem]) rfl ⟨rfl, (Below.refl _ _).alloc (Nat.le_refl _) _⟩
 · have e : -(a + 1) + 1 = mag a := by unfold mag; split <;> omega
   have e2 : isNeg a = true := by unfold isNeg; simp; omega
   rw [e2]; clear e2
   go_enter Tryz.func39, Tryz.ntmps39
   go_wp2
   refine bodyPost_ret (v := .tuple #[.agg #[.int .u64 0, .int .u64 (mag a)], .bool true]) (by simp [results, Tryz.results39, go_sem]) rfl ⟨rfl, (Below.refl _ _).alloc (Nat.le_refl _) _⟩
def sgn (t : Bool) (n : Int) : Int := if t then -n else n
set_option maxHeartbeats 400000 in
theorem rback_any (t : Bool) (n : Int) (w : World) (n0 : 0 ≤ n) (n1 : n < 340282366920938463463374607431768211456) :
   Calls Tryz.prog 41 #[.agg #[.int .u64 (hi n), .int .u64 (lo n)], .bool t] w fun e w' => e = .returned (.int .i64 (sat (sgn t n))) ∧ Below w.heap.size w w' := by
 have h0 := hi0 n n0
 have h1 := hi1 n n1
 have l0 := lo0 n
 have l1 := lo1 n
 have en : n = hi n * 18446744073709551616 + lo n := (num_hi_lo n).symm
 obtain ⟨h, hh⟩ : ∃ h, hi n = h := ⟨_, rfl⟩
 obtain ⟨l, hl⟩ : ∃ l, lo n = l := ⟨_, rfl⟩
 rw [hh] at h0 h1 en ⊢
 rw [hl] at l0 l1 en ⊢
 clear hh hl
 by_cases hb : 9223372036854775808 ≤ n
 · have k1 : 0 < h ∨ 9223372036854775808 ≤ l := by omega
   cases t
   · have e : sat (sgn false n) = 9223372036854775807 := by unfold sgn; simp only [Bool.false_eq_true, if_false]; unfold sat; split <;> (try split) <;> omega
     rw [e]; clear e en
     by_cases k : 0 < h
     all_goals
       go_enter Tryz.func41, Tryz.ntmps41
       go_wp2
       go_ret
       exact ⟨rfl, (Below.refl _ _).alloc (Nat.le_refl _) _⟩
   · have e : sat (sgn true n) = -9223372036854775808 := by unfold sgn; simp only [if_true]; unfold sat; split <;> (try split) <;> omega
     rw [e]; clear e en
     by_cases k : 0 < h
     all_goals
       go_enter Tryz.func41, Tryz.ntmps41
       go_wp2
       go_ret
       exact ⟨rfl, (Below.refl _ _).alloc (Nat.le_refl _) _⟩
 · have k1 : h = 0 := by omega
   subst k1
   have k2 : n = l := by omega
   clear en
   subst k2
   cases t
   · have e : sat (sgn false n) = n := by unfold sgn; simp only [Bool.false_eq_true, if_false]; exact sat_id _ (by omega) (by omega)
     rw [e]; clear e
     go_enter Tryz.func41, Tryz.ntmps41
     go_wp2
     go_ret
     exact ⟨rfl, (Below.refl _ _).alloc (Nat.le_refl _) _⟩
   · have e : sat (sgn true n) = -n := by unfold sgn; simp only [if_true]; exact sat_id _ (by omega) (by omega)
     rw [e]; clear e
     go_enter Tryz.func41, Tryz.ntmps41
     go_wp2
     go_ret
     exact ⟨rfl, (Below.refl _ _).alloc (Nat.le_refl _) _⟩
theorem num_small (x : Int) : num 0 x = x := by unfold num; omega
set_option maxHeartbeats 1000000 in
theorem radd_1 (a b : Int) (w : World) (a0 : -9223372036854775808 ≤ a) (a1 : a ≤ 9223372036854775807) (b0 : -9223372036854775808 ≤ b) (b1 : b ≤ 9223372036854775807) (ha : a < 0) (hbs : b < 0) :
   Calls Tryz.prog 13 #[.int .i64 a, .int .i64 b] w fun e w' => e = .returned (.int .i64 (sat (a + b))) ∧ Below w.heap.size w w' := by
 have m0 := mag0 a
 have m1 := mag1 a a0 a1
 have m2 := mag0 b
 have m3 := mag1 b b0 b1
 have es : isNeg a = true := by unfold isNeg; simp; omega
 have et : isNeg b = true := by unfold isNeg; simp; omega
 have er : addN (mag a) (mag b) = mag a + mag b := by unfold addN; omega
 have ef : sat (sgn true (mag a + mag b)) = sat (a + b) := by
   have e : sgn true (mag a + mag b) = a + b := by unfold sgn mag; simp only [if_true]; (try split) <;> (try split) <;> omega
   rw [e]
 have nx := num_small (mag a)
 have ny := num_small (mag b)
 have tok : True := trivial
 have hb := Below.refl w.heap.size w
 go_enter Tryz.func13, Tryz.ntmps13
 go_wp2_with (first
   | (go_at_call 39; refine (rsize_any _ _ (by omega) (by omega)).mono ?_; (first
       | (clear tok; rintro e w1 ⟨rfl, hb1⟩; rw [es]; replace hb := hb.trans (hb1.mono hb.size))
       | (rintro e w2 ⟨rfl, hb2⟩; rw [et]; replace hb := (hb.alloc hb.size _).trans (hb2.mono (by have := hb.size; simp; omega)); obtain ⟨hc2, hf2⟩ := bcell hb2; have hz2 : w1.heap.size < w2.heap.size := (by have := hb2.size; simp at this; omega))))
   | (go_at_call 40; refine (radd_any _ _ _ _ _ (by omega) (by omega) (by omega) (by omega) (by omega) (by omega) (by omega) (by omega)).mono ?_; rintro e w4 ⟨rfl, hb4⟩; rw [nx, ny, er]; replace hb := (hb.alloc hb.size _).trans (hb4.mono (by have := hb.size; simp; omega)); have hz4 : w2.heap.size < w4.heap.size := (by have := hb4.size; simp at this; omega))
   | (go_at_call 42; refine (rless_any _ _ _ _ _ (by omega) (by omega) (by omega) (by omega) (by omega) (by omega) (by omega) (by omega)).mono ?_; rintro e w3 ⟨rfl, hb3⟩; rw [nx, ny, eu]; replace hb := (hb.alloc hb.size _).trans (hb3.mono (by have := hb.size; simp; omega)); obtain ⟨hc3, hf3⟩ := bcell hb3; have hz3 : w2.heap.size < w3.heap.size := (by have := hb3.size; simp at this; omega); have hz31 : w1.heap.size < w3.heap.size := (by omega))
   | (go_at_call 43; refine (rsub_any _ _ _ _ _ (by omega) (by omega) (by omega) (by omega) (by omega) (by omega) (by omega) (by omega)).mono ?_; rintro e w4 ⟨rfl, hb4⟩; rw [nx, ny, er]; replace hb := hb.trans (hb4.mono hb.size); have hz4 : w3.heap.size ≤ w4.heap.size := hb4.size)
   | (go_at_call 41; refine (rback_any _ _ _ (by omega) (by omega)).mono ?_; rintro e w5 ⟨rfl, hb5⟩; rw [ef]; replace hb := (hb.alloc hb.size _).trans (hb5.mono (by have := hb.size; simp; omega))))
 go_ret
 exact ⟨rfl, hb⟩
set_option maxHeartbeats 1000000 in
theorem radd_2 (a b : Int) (w : World) (a0 : -9223372036854775808 ≤ a) (a1 : a ≤ 9223372036854775807) (b0 : -9223372036854775808 ≤ b) (b1 : b ≤ 9223372036854775807) (ha : a < 0) (hbs : 0 ≤ b) (hk : mag a < mag b) :
   Calls Tryz.prog 13 #[.int .i64 a, .int .i64 b] w fun e w' => e = .returned (.int .i64 (sat (a + b))) ∧ Below w.heap.size w w' := by
 have m0 := mag0 a
 have m1 := mag1 a a0 a1
 have m2 := mag0 b
 have m3 := mag1 b b0 b1
 have es : isNeg a = true := by unfold isNeg; simp; omega
 have et : isNeg b = false := by unfold isNeg; simp; omega
 have er : subN (mag b) (mag a) = mag b - mag a := by unfold subN; omega
 have eu : underB (mag a) (mag b) = true := by unfold underB; simp; omega
 have ef : sat (sgn false (mag b - mag a)) = sat (a + b) := by
   have e : sgn false (mag b - mag a) = a + b := by unfold sgn mag; simp only [Bool.false_eq_true, if_false]; (try split) <;> (try split) <;> omega
   rw [e]
 have nx := num_small (mag a)
 have ny := num_small (mag b)
 have tok : True := trivial
 have hb := Below.refl w.heap.size w
 go_enter Tryz.func13, Tryz.ntmps13
 go_wp2_with (first
   | (go_at_call 39; refine (rsize_any _ _ (by omega) (by omega)).mono ?_; (first
       | (clear tok; rintro e w1 ⟨rfl, hb1⟩; rw [es]; replace hb := hb.trans (hb1.mono hb.size))
       | (rintro e w2 ⟨rfl, hb2⟩; rw [et]; replace hb := (hb.alloc hb.size _).trans (hb2.mono (by have := hb.size; simp; omega)); obtain ⟨hc2, hf2⟩ := bcell hb2; have hz2 : w1.heap.size < w2.heap.size := (by have := hb2.size; simp at this; omega))))
   | (go_at_call 40; refine (radd_any _ _ _ _ _ (by omega) (by omega) (by omega) (by omega) (by omega) (by omega) (by omega) (by omega)).mono ?_; rintro e w4 ⟨rfl, hb4⟩; rw [nx, ny, er]; replace hb := (hb.alloc hb.size _).trans (hb4.mono (by have := hb.size; simp; omega)); have hz4 : w2.heap.size < w4.heap.size := (by have := hb4.size; simp at this; omega))
   | (go_at_call 42; refine (rless_any _ _ _ _ _ (by omega) (by omega) (by omega) (by omega) (by omega) (by omega) (by omega) (by omega)).mono ?_; rintro e w3 ⟨rfl, hb3⟩; rw [nx, ny, eu]; replace hb := (hb.alloc hb.size _).trans (hb3.mono (by have := hb.size; simp; omega)); obtain ⟨hc3, hf3⟩ := bcell hb3; have hz3 : w2.heap.size < w3.heap.size := (by have := hb3.size; simp at this; omega); have hz31 : w1.heap.size < w3.heap.size := (by omega))
   | (go_at_call 43; refine (rsub_any _ _ _ _ _ (by omega) (by omega) (by omega) (by omega) (by omega) (by omega) (by omega) (by omega)).mono ?_; rintro e w4 ⟨rfl, hb4⟩; rw [nx, ny, er]; replace hb := hb.trans (hb4.mono hb.size); have hz4 : w3.heap.size ≤ w4.heap.size := hb4.size)
   | (go_at_call 41; refine (rback_any _ _ _ (by omega) (by omega)).mono ?_; rintro e w5 ⟨rfl, hb5⟩; rw [ef]; replace hb := (hb.alloc hb.size _).trans (hb5.mono (by have := hb.size; simp; omega))))
 go_ret
 exact ⟨rfl, hb⟩
set_option maxHeartbeats 1000000 in
theorem radd_3 (a b : Int) (w : World) (a0 : -9223372036854775808 ≤ a) (a1 : a ≤ 9223372036854775807) (b0 : -9223372036854775808 ≤ b) (b1 : b ≤ 9223372036854775807) (ha : a < 0) (hbs : 0 ≤ b) (hk : mag b ≤ mag a) :
   Calls Tryz.prog 13 #[.int .i64 a, .int .i64 b] w fun e w' => e = .returned (.int .i64 (sat (a + b))) ∧ Below w.heap.size w w' := by
 have m0 := mag0 a
 have m1 := mag1 a a0 a1
 have m2 := mag0 b
 have m3 := mag1 b b0 b1
 have es : isNeg a = true := by unfold isNeg; simp; omega
 have et : isNeg b = false := by unfold isNeg; simp; omega
 have er : subN (mag a) (mag b) = mag a - mag b := by unfold subN; omega
 have eu : underB (mag a) (mag b) = false := by unfold underB; simp; omega
 have ef : sat (sgn true (mag a - mag b)) = sat (a + b) := by
   have e : sgn true (mag a - mag b) = a + b := by unfold sgn mag; simp only [if_true]; (try split) <;> (try split) <;> omega
   rw [e]
 have nx := num_small (mag a)
 have ny := num_small (mag b)
 have tok : True := trivial
 have hb := Below.refl w.heap.size w
 go_enter Tryz.func13, Tryz.ntmps13
 go_wp2_with (first
   | (go_at_call 39; refine (rsize_any _ _ (by omega) (by omega)).mono ?_; (first
       | (clear tok; rintro e w1 ⟨rfl, hb1⟩; rw [es]; replace hb := hb.trans (hb1.mono hb.size))
       | (rintro e w2 ⟨rfl, hb2⟩; rw [et]; replace hb := (hb.alloc hb.size _).trans (hb2.mono (by have := hb.size; simp; omega)); obtain ⟨hc2, hf2⟩ := bcell hb2; have hz2 : w1.heap.size < w2.heap.size := (by have := hb2.size; simp at this; omega))))
   | (go_at_call 40; refine (radd_any _ _ _ _ _ (by omega) (by omega) (by omega) (by omega) (by omega) (by omega) (by omega) (by omega)).mono ?_; rintro e w4 ⟨rfl, hb4⟩; rw [nx, ny, er]; replace hb := (hb.alloc hb.size _).trans (hb4.mono (by have := hb.size; simp; omega)); have hz4 : w2.heap.size < w4.heap.size := (by have := hb4.size; simp at this; omega))
   | (go_at_call 42; refine (rless_any _ _ _ _ _ (by omega) (by omega) (by omega) (by omega) (by omega) (by omega) (by omega) (by omega)).mono ?_; rintro e w3 ⟨rfl, hb3⟩; rw [nx, ny, eu]; replace hb := (hb.alloc hb.size _).trans (hb3.mono (by have := hb.size; simp; omega)); obtain ⟨hc3, hf3⟩ := bcell hb3; have hz3 : w2.heap.size < w3.heap.size := (by have := hb3.size; simp at this; omega); have hz31 : w1.heap.size < w3.heap.size := (by omega))
   | (go_at_call 43; refine (rsub_any _ _ _ _ _ (by omega) (by omega) (by omega) (by omega) (by omega) (by omega) (by omega) (by omega)).mono ?_; rintro e w4 ⟨rfl, hb4⟩; rw [nx, ny, er]; replace hb := hb.trans (hb4.mono hb.size); have hz4 : w3.heap.size ≤ w4.heap.size := hb4.size)
   | (go_at_call 41; refine (rback_any _ _ _ (by omega) (by omega)).mono ?_; rintro e w5 ⟨rfl, hb5⟩; rw [ef]; replace hb := (hb.alloc hb.size _).trans (hb5.mono (by have := hb.size; simp; omega))))
 go_ret
 exact ⟨rfl, hb⟩
set_option maxHeartbeats 1000000 in
theorem radd_4 (a b : Int) (w : World) (a0 : -9223372036854775808 ≤ a) (a1 : a ≤ 9223372036854775807) (b0 : -9223372036854775808 ≤ b) (b1 : b ≤ 9223372036854775807) (ha : 0 ≤ a) (hbs : b < 0) (hk : mag a < mag b) :
   Calls Tryz.prog 13 #[.int .i64 a, .int .i64 b] w fun e w' => e = .returned (.int .i64 (sat (a + b))) ∧ Below w.heap.size w w' := by
 have m0 := mag0 a
 have m1 := mag1 a a0 a1
 have m2 := mag0 b
 have m3 := mag1 b b0 b1
 have es : isNeg a = false := by unfold isNeg; simp; omega
 have et : isNeg b = true := by unfold isNeg; simp; omega
 have er : subN (mag b) (mag a) = mag b - mag a := by unfold subN; omega
 have eu : underB (mag a) (mag b) = true := by unfold underB; simp; omega
 have ef : sat (sgn true (mag b - mag a)) = sat (a + b) := by
   have e : sgn true (mag b - mag a) = a + b := by unfold sgn mag; simp only [if_true]; (try split) <;> (try split) <;> omega
   rw [e]
 have nx := num_small (mag a)
 have ny := num_small (mag b)
 have tok : True := trivial
 have hb := Below.refl w.heap.size w
 go_enter Tryz.func13, Tryz.ntmps13
 go_wp2_with (first
   | (go_at_call 39; refine (rsize_any _ _ (by omega) (by omega)).mono ?_; (first
       | (clear tok; rintro e w1 ⟨rfl, hb1⟩; rw [es]; replace hb := hb.trans (hb1.mono hb.size))
       | (rintro e w2 ⟨rfl, hb2⟩; rw [et]; replace hb := (hb.alloc hb.size _).trans (hb2.mono (by have := hb.size; simp; omega)); obtain ⟨hc2, hf2⟩ := bcell hb2; have hz2 : w1.heap.size < w2.heap.size := (by have := hb2.size; simp at this; omega))))
   | (go_at_call 40; refine (radd_any _ _ _ _ _ (by omega) (by omega) (by omega) (by omega) (by omega) (by omega) (by omega) (by omega)).mono ?_; rintro e w4 ⟨rfl, hb4⟩; rw [nx, ny, er]; replace hb := (hb.alloc hb.size _).trans (hb4.mono (by have := hb.size; simp; omega)); have hz4 : w2.heap.size < w4.heap.size := (by have := hb4.size; simp at this; omega))
   | (go_at_call 42; refine (rless_any _ _ _ _ _ (by omega) (by omega) (by omega) (by omega) (by omega) (by omega) (by omega) (by omega)).mono ?_; rintro e w3 ⟨rfl, hb3⟩; rw [nx, ny, eu]; replace hb := (hb.alloc hb.size _).trans (hb3.mono (by have := hb.size; simp; omega)); obtain ⟨hc3, hf3⟩ := bcell hb3; have hz3 : w2.heap.size < w3.heap.size := (by have := hb3.size; simp at this; omega); have hz31 : w1.heap.size < w3.heap.size := (by omega))
   | (go_at_call 43; refine (rsub_any _ _ _ _ _ (by omega) (by omega) (by omega) (by omega) (by omega) (by omega) (by omega) (by omega)).mono ?_; rintro e w4 ⟨rfl, hb4⟩; rw [nx, ny, er]; replace hb := hb.trans (hb4.mono hb.size); have hz4 : w3.heap.size ≤ w4.heap.size := hb4.size)
   | (go_at_call 41; refine (rback_any _ _ _ (by omega) (by omega)).mono ?_; rintro e w5 ⟨rfl, hb5⟩; rw [ef]; replace hb := (hb.alloc hb.size _).trans (hb5.mono (by have := hb.size; simp; omega))))
 go_ret
 exact ⟨rfl, hb⟩
set_option maxHeartbeats 1000000 in
theorem radd_5 (a b : Int) (w : World) (a0 : -9223372036854775808 ≤ a) (a1 : a ≤ 9223372036854775807) (b0 : -9223372036854775808 ≤ b) (b1 : b ≤ 9223372036854775807) (ha : 0 ≤ a) (hbs : b < 0) (hk : mag b ≤ mag a) :
   Calls Tryz.prog 13 #[.int .i64 a, .int .i64 b] w fun e w' => e = .returned (.int .i64 (sat (a + b))) ∧ Below w.heap.size w w' := by
 have m0 := mag0 a
 have m1 := mag1 a a0 a1
 have m2 := mag0 b
 have m3 := mag1 b b0 b1
 have es : isNeg a = false := by unfold isNeg; simp; omega
 have et : isNeg b = true := by unfold isNeg; simp; omega
 have er : subN (mag a) (mag b) = mag a - mag b := by unfold subN; omega
 have eu : underB (mag a) (mag b) = false := by unfold underB; simp; omega
 have ef : sat (sgn false (mag a - mag b)) = sat (a + b) := by
   have e : sgn false (mag a - mag b) = a + b := by unfold sgn mag; simp only [Bool.false_eq_true, if_false]; (try split) <;> (try split) <;> omega
   rw [e]
 have nx := num_small (mag a)
 have ny := num_small (mag b)
 have tok : True := trivial
 have hb := Below.refl w.heap.size w
 go_enter Tryz.func13, Tryz.ntmps13
 go_wp2_with (first
   | (go_at_call 39; refine (rsize_any _ _ (by omega) (by omega)).mono ?_; (first
       | (clear tok; rintro e w1 ⟨rfl, hb1⟩; rw [es]; replace hb := hb.trans (hb1.mono hb.size))
       | (rintro e w2 ⟨rfl, hb2⟩; rw [et]; replace hb := (hb.alloc hb.size _).trans (hb2.mono (by have := hb.size; simp; omega)); obtain ⟨hc2, hf2⟩ := bcell hb2; have hz2 : w1.heap.size < w2.heap.size := (by have := hb2.size; simp at this; omega))))
   | (go_at_call 40; refine (radd_any _ _ _ _ _ (by omega) (by omega) (by omega) (by omega) (by omega) (by omega) (by omega) (by omega)).mono ?_; rintro e w4 ⟨rfl, hb4⟩; rw [nx, ny, er]; replace hb := (hb.alloc hb.size _).trans (hb4.mono (by have := hb.size; simp; omega)); have hz4 : w2.heap.size < w4.heap.size := (by have := hb4.size; simp at this; omega))
   | (go_at_call 42; refine (rless_any _ _ _ _ _ (by omega) (by omega) (by omega) (by omega) (by omega) (by omega) (by omega) (by omega)).mono ?_; rintro e w3 ⟨rfl, hb3⟩; rw [nx, ny, eu]; replace hb := (hb.alloc hb.size _).trans (hb3.mono (by have := hb.size; simp; omega)); obtain ⟨hc3, hf3⟩ := bcell hb3; have hz3 : w2.heap.size < w3.heap.size := (by have := hb3.size; simp at this; omega); have hz31 : w1.heap.size < w3.heap.size := (by omega))
   | (go_at_call 43; refine (rsub_any _ _ _ _ _ (by omega) (by omega) (by omega) (by omega) (by omega) (by omega) (by omega) (by omega)).mono ?_; rintro e w4 ⟨rfl, hb4⟩; rw [nx, ny, er]; replace hb := hb.trans (hb4.mono hb.size); have hz4 : w3.heap.size ≤ w4.heap.size := hb4.size)
   | (go_at_call 41; refine (rback_any _ _ _ (by omega) (by omega)).mono ?_; rintro e w5 ⟨rfl, hb5⟩; rw [ef]; replace hb := (hb.alloc hb.size _).trans (hb5.mono (by have := hb.size; simp; omega))))
 go_ret
 exact ⟨rfl, hb⟩
set_option maxHeartbeats 1000000 in
theorem radd_6 (a b : Int) (w : World) (a0 : -9223372036854775808 ≤ a) (a1 : a ≤ 9223372036854775807) (b0 : -9223372036854775808 ≤ b) (b1 : b ≤ 9223372036854775807) (ha : 0 ≤ a) (hbs : 0 ≤ b) :
   Calls Tryz.prog 13 #[.int .i64 a, .int .i64 b] w fun e w' => e = .returned (.int .i64 (sat (a + b))) ∧ Below w.heap.size w w' := by
 have m0 := mag0 a
 have m1 := mag1 a a0 a1
 have m2 := mag0 b
 have m3 := mag1 b b0 b1
 have es : isNeg a = false := by unfold isNeg; simp; omega
 have et : isNeg b = false := by unfold isNeg; simp; omega
 have er : addN (mag a) (mag b) = mag a + mag b := by unfold addN; omega
 have ef : sat (sgn false (mag a + mag b)) = sat (a + b) := by
   have e : sgn false (mag a + mag b) = a + b := by unfold sgn mag; simp only [Bool.false_eq_true, if_false]; (try split) <;> (try split) <;> omega
   rw [e]
 have nx := num_small (mag a)
 have ny := num_small (mag b)
 have tok : True := trivial
 have hb := Below.refl w.heap.size w
 go_enter Tryz.func13, Tryz.ntmps13
 go_wp2_with (first
   | (go_at_call 39; refine (rsize_any _ _ (by omega) (by omega)).mono ?_; (first
       | (clear tok; rintro e w1 ⟨rfl, hb1⟩; rw [es]; replace hb := hb.trans (hb1.mono hb.size))
       | (rintro e w2 ⟨rfl, hb2⟩; rw [et]; replace hb := (hb.alloc hb.size _).trans (hb2.mono (by have := hb.size; simp; omega)); obtain ⟨hc2, hf2⟩ := bcell hb2; have hz2 : w1.heap.size < w2.heap.size := (by have := hb2.size; simp at this; omega))))
   | (go_at_call 40; refine (radd_any _ _ _ _ _ (by omega) (by omega) (by omega) (by omega) (by omega) (by omega) (by omega) (by omega)).mono ?_; rintro e w4 ⟨rfl, hb4⟩; rw [nx, ny, er]; replace hb := (hb.alloc hb.size _).trans (hb4.mono (by have := hb.size; simp; omega)); have hz4 : w2.heap.size < w4.heap.size := (by have := hb4.size; simp at this; omega))
   | (go_at_call 42; refine (rless_any _ _ _ _ _ (by omega) (by omega) (by omega) (by omega) (by omega) (by omega) (by omega) (by omega)).mono ?_; rintro e w3 ⟨rfl, hb3⟩; rw [nx, ny, eu]; replace hb := (hb.alloc hb.size _).trans (hb3.mono (by have := hb.size; simp; omega)); obtain ⟨hc3, hf3⟩ := bcell hb3; have hz3 : w2.heap.size < w3.heap.size := (by have := hb3.size; simp at this; omega); have hz31 : w1.heap.size < w3.heap.size := (by omega))
   | (go_at_call 43; refine (rsub_any _ _ _ _ _ (by omega) (by omega) (by omega) (by omega) (by omega) (by omega) (by omega) (by omega)).mono ?_; rintro e w4 ⟨rfl, hb4⟩; rw [nx, ny, er]; replace hb := hb.trans (hb4.mono hb.size); have hz4 : w3.heap.size ≤ w4.heap.size := hb4.size)
   | (go_at_call 41; refine (rback_any _ _ _ (by omega) (by omega)).mono ?_; rintro e w5 ⟨rfl, hb5⟩; rw [ef]; replace hb := (hb.alloc hb.size _).trans (hb5.mono (by have := hb.size; simp; omega))))
 go_ret
 exact ⟨rfl, hb⟩
theorem radd02_any (a b : Int) (w : World) (a0 : -9223372036854775808 ≤ a) (a1 : a ≤ 9223372036854775807) (b0 : -9223372036854775808 ≤ b) (b1 : b ≤ 9223372036854775807) :
   Calls Tryz.prog 13 #[.int .i64 a, .int .i64 b] w fun e w' => e = .returned (.int .i64 (sat (a + b))) ∧ Below w.heap.size w w' := by
 by_cases ha : a < 0
 · by_cases hb : b < 0
   · exact radd_1 a b w a0 a1 b0 b1 ha hb
   · by_cases hk : mag a < mag b
     · exact radd_2 a b w a0 a1 b0 b1 ha (by omega) hk
     · exact radd_3 a b w a0 a1 b0 b1 ha (by omega) (by omega)
 · by_cases hb : b < 0
   · by_cases hk : mag a < mag b
     · exact radd_4 a b w a0 a1 b0 b1 (by omega) hb hk
     · exact radd_5 a b w a0 a1 b0 b1 (by omega) hb (by omega)
   · exact radd_6 a b w a0 a1 b0 b1 (by omega) (by omega)
set_option maxHeartbeats 400000 in
theorem rsub02_any (a b : Int) (w : World) (a0 : -9223372036854775808 ≤ a) (a1 : a ≤ 9223372036854775807) (b0 : -9223372036854775808 ≤ b) (b1 : b ≤ 9223372036854775807) :
   Calls Tryz.prog 14 #[.int .i64 a, .int .i64 b] w fun e w' => e = .returned (.int .i64 (sat (a - b))) ∧ Below w.heap.size w w' := by
 by_cases hl : b = -9223372036854775808
 · subst hl
   by_cases ha : 0 ≤ a
   · have e : sat (a - -9223372036854775808) = 9223372036854775807 := by unfold sat; split <;> (try split) <;> omega
     rw [e]; clear e
     go_enter Tryz.func14, Tryz.ntmps14
     go_wp2
     go_ret
     exact ⟨rfl, Below.refl _ _⟩
   · have e : sat (a - -9223372036854775808) = a - -9223372036854775808 := sat_id _ (by omega) (by omega)
     rw [e]; clear e
     go_enter Tryz.func14, Tryz.ntmps14
     go_wp2
     go_ret
     exact ⟨ret_int (by omega), Below.refl _ _⟩
 · have hs : (b == -9223372036854775808) = false := by simpa using hl
   clear hl
   have ef : sat (a + -b) = sat (a - b) := by rw [Int.sub_eq_add_neg]
   have hbn : -9223372036854775807 ≤ b := by
     have := beq_eq_false_iff_ne.1 hs
     omega
   go_enter Tryz.func14, Tryz.ntmps14
   go_wp2_with (go_at_call 13; refine (radd02_any _ _ _ (by omega) (by omega) (by omega) (by omega)).mono ?_; rintro e w1 ⟨rfl, hb1⟩)
   go_ret
   exact ⟨ret_int ef, hb1⟩
end Go.Proofs.YtcffeokbipjaoaaGreat
namespace Go.Proofs.YtcffeokbipjaoaaGreat.Kn
def mc (m x b : Int) (i k : Nat) : Int := (m % 65536 ^ (i + k) + x * 65536 ^ i * (b % 65536 ^ k)) / 65536 ^ (i + k)
end Go.Proofs.YtcffeokbipjaoaaGreat.Kn
