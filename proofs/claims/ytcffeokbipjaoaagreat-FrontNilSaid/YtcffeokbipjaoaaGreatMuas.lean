/- Texts of this claim, one behind the other: Cnf. -/
import Derived.Test.YtcffeokbipjaoaaGreatChecked
import Derived.Lib.Hide
import Derived.Outline
import Derived.RegionTactic
import Derived.BigRegion
import Derived.WalkSpells
import Derived.Laws.Pointers
import Derived.WalkKit
import Derived.ProofKit
import Derived.OpenShut
import Derived.Below
import Derived.Deep.DeepCutAuto
import Derived.Deep.RegionHeld3
import Derived.BigQuiet
import Derived.Deep.QuietTactic
import Derived.Test.YtcffeokbipjaoaaGreatMuaa
import Derived.Test.YtcffeokbipjaoaaGreatMual
import Derived.Test.YtcffeokbipjaoaaGreatMuaq
import Derived.Test.YtcffeokbipjaoaaGreatMuar
namespace Go.Proofs.YtcffeokbipjaoaaGreat
open Go.ChangeShapes Go.WideShapes Go.ChangeAt Go.RowKit Kn
set_option linter.unusedVariables false
set_option linter.unusedSimpArgs false
structure Cf.ok (c : Cf) : Prop where
 ti0 : -9223372036854775808 ≤ c.ti
 ti1 : c.ti ≤ 9223372036854775807
 ro0 : -9223372036854775808 ≤ c.ro
 ro1 : c.ro ≤ 9223372036854775807
 ta0 : -9223372036854775808 ≤ c.ta
 ta1 : c.ta ≤ 9223372036854775807
 iv0 : -9223372036854775808 ≤ c.iv
 iv1 : c.iv ≤ 9223372036854775807
 hg0 : -9223372036854775808 ≤ c.hg
 hg1 : c.hg ≤ 9223372036854775807
 lo0 : -9223372036854775808 ≤ c.lo
 lo1 : c.lo ≤ 9223372036854775807
 dw0 : -9223372036854775808 ≤ c.dw
 dw1 : c.dw ≤ 9223372036854775807
 ho0 : -9223372036854775808 ≤ c.ho
 ho1 : c.ho ≤ 9223372036854775807
 sp0 : -9223372036854775808 ≤ c.sp
 sp1 : c.sp ≤ 9223372036854775807
 kp0 : -9223372036854775808 ≤ c.kp
 kp1 : c.kp ≤ 9223372036854775807
 ki0 : -9223372036854775808 ≤ c.ki
 ki1 : c.ki ≤ 9223372036854775807
 kd0 : -9223372036854775808 ≤ c.kd
 kd1 : c.kd ≤ 9223372036854775807
 lm0 : -9223372036854775808 ≤ c.lm
 lm1 : c.lm ≤ 9223372036854775807
 st0 : -9223372036854775808 ≤ c.st
 st1 : c.st ≤ 9223372036854775807
 th0 : -9223372036854775808 ≤ c.th
 th1 : c.th ≤ 9223372036854775807
 rg0 : -9223372036854775808 ≤ c.rg
 rg1 : c.rg ≤ 9223372036854775807
def withinB (x lo hi : Int) : Bool := decide (lo ≤ x) && decide (x ≤ hi)
def powB (x : Int) : Bool := bits .and .i64 x (wrap64 (x - 1)) == 0
def sizedB (c : Cf) : Bool := withinB c.ti 1 8 && withinB c.ro 1 1024 && withinB c.th 1 16 && withinB c.rg 2 64 && powB c.rg
def timedB (c : Cf) : Bool := withinB c.ta 1 1099511627776 && withinB c.iv 1 1099511627776 && withinB c.ho c.ta 1125899906842624
def modeB (h l d : Int) : Bool := decide (0 ≤ l) && decide (l ≤ h) && decide (0 ≤ d)
def pidB (kp ki kd li st mo : Int) : Bool := decide (0 ≤ kp) && decide (0 ≤ ki) && decide (0 ≤ kd) && decide (0 ≤ li) && decide (1 ≤ st) && decide (0 ≤ mo)
def mostW (c : Cf) : Int := wrap64 (c.ti * 128)
def validB (c : Cf) : Bool := sizedB c && timedB c && modeB c.hg c.lo c.dw && pidB c.kp c.ki c.kd c.lm c.st (mostW c)
set_option maxHeartbeats 2000000 in
theorem within_any (x lo hi : Int) (w : World) :
   Calls Tryz.prog 112 #[.int .i64 x, .int .i64 lo, .int .i64 hi] w fun e w' => e = .returned (.bool (withinB x lo hi)) ∧ w = w' := by
 go_enter Tryz.func112, Tryz.ntmps112
 go_wp2_with fail
 all_goals (go_ret; exact ⟨ret_bool (by unfold withinB; (try simp [*]); (try omega)), rfl⟩)
set_option maxHeartbeats 2000000 in
theorem cmost_any_Cnf (c : Cf) (w : World) :
   Calls Tryz.prog 113 #[c.v] w fun e w' => e = .returned (.int .i64 (mostW c)) ∧ Below w.heap.size w w' := by
 go_enter Tryz.func113, Tryz.ntmps113
 go_upto_region 1 with fail
 refine wp_worldx (fun wx => Bxs w wx [(w.heap.size, 24, [.int .i64 c.ti, .int .i64 c.ro, .int .i64 c.ta, .int .i64 c.iv, .int .i64 c.hg, .int .i64 c.lo, .int .i64 c.dw, .int .i64 c.ho, .int .i64 c.sp, .int .i64 c.kp, .int .i64 c.ki, .int .i64 c.kd, .int .i64 c.lm, .int .i64 c.st, .int .i64 c.th, .int .i64 c.rg])]) ((Bxs.nil_ w).alloc_ _ _ (by simp)) ?_
 rintro x1 bx
 have BX := Lib.hid bx
 clear bx
 obtain ⟨p0_0, p0_1, p0_2, p0_3, p0_4, p0_5, p0_6, p0_7, p0_8, p0_9, p0_10, p0_11, p0_12, p0_13, p0_14, p0_15, z0, y0⟩ := bl16 (BX.out.bl 0 _ _ _ rfl)
 go_wp2_with fail
 refine bodyPost_ret (v := .int .i64 (wrap64 (c.ti * 128))) (by simp [results, Tryz.results113, go_sem, *]) rfl ⟨rfl, ?_⟩
 exact (BX.out).be
set_option maxHeartbeats 2000000 in
theorem sized_any (c : Cf) (w : World) :
   Calls Tryz.prog 64 #[c.v] w fun e w' => e = .returned (.bool (sizedB c)) ∧ Below w.heap.size w w' := by
 obtain ⟨b0, hb0⟩ : ∃ b, withinB c.ti 1 8 = b := ⟨_, rfl⟩
 have HB0 := Lib.hid hb0
 clear hb0
 obtain ⟨b1, hb1⟩ : ∃ b, withinB c.ro 1 1024 = b := ⟨_, rfl⟩
 have HB1 := Lib.hid hb1
 clear hb1
 obtain ⟨b2, hb2⟩ : ∃ b, withinB c.th 1 16 = b := ⟨_, rfl⟩
 have HB2 := Lib.hid hb2
 clear hb2
 obtain ⟨b3, hb3⟩ : ∃ b, withinB c.rg 2 64 = b := ⟨_, rfl⟩
 have HB3 := Lib.hid hb3
 clear hb3
 obtain ⟨pw, hpw⟩ : ∃ b, (bits .and .i64 c.rg (wrap64 (c.rg - 1)) == 0) = b := ⟨_, rfl⟩
 go_enter Tryz.func64, Tryz.ntmps64
 go_upto_region 1 with fail
 refine wp_worldx (fun wx => Bxs w wx [(w.heap.size, 24, [.int .i64 c.ti, .int .i64 c.ro, .int .i64 c.ta, .int .i64 c.iv, .int .i64 c.hg, .int .i64 c.lo, .int .i64 c.dw, .int .i64 c.ho, .int .i64 c.sp, .int .i64 c.kp, .int .i64 c.ki, .int .i64 c.kd, .int .i64 c.lm, .int .i64 c.st, .int .i64 c.th, .int .i64 c.rg])]) ((Bxs.nil_ w).alloc_ _ _ (by simp)) ?_
 rintro x1 bx
 have BX := Lib.hid bx
 clear bx
 obtain ⟨p0_0, p0_1, p0_2, p0_3, p0_4, p0_5, p0_6, p0_7, p0_8, p0_9, p0_10, p0_11, p0_12, p0_13, p0_14, p0_15, z0, y0⟩ := bl16 (BX.out.bl 0 _ _ _ rfl)
 go_wp2_with fail
 refine (within_any _ _ _ _).mono ?_
 rw [HB0.out]
 rintro e x2 ⟨rfl, rfl⟩
 cases b0 with
 | false =>
   go_wp2_with fail
   refine bodyPost_ret (v := .bool false) (by simp [results, Tryz.results64, go_sem, *]) rfl ⟨?_, BX.out.be⟩
   exact ret_bool (by unfold sizedB; simp [HB0.out])
 | true =>
   go_wp2_with fail
   refine (within_any _ _ _ _).mono ?_
   rw [HB1.out]
   rintro e x3 ⟨rfl, rfl⟩
   cases b1 with
   | false =>
     go_wp2_with fail
     refine bodyPost_ret (v := .bool false) (by simp [results, Tryz.results64, go_sem, *]) rfl ⟨?_, BX.out.be⟩
     exact ret_bool (by unfold sizedB; simp [HB0.out, HB1.out])
   | true =>
     go_wp2_with fail
     refine (within_any _ _ _ _).mono ?_
     rw [HB2.out]
     rintro e x4 ⟨rfl, rfl⟩
     cases b2 with
     | false =>
       go_wp2_with fail
       refine bodyPost_ret (v := .bool false) (by simp [results, Tryz.results64, go_sem, *]) rfl ⟨?_, BX.out.be⟩
       exact ret_bool (by unfold sizedB; simp [HB0.out, HB1.out, HB2.out])
     | true =>
       go_wp2_with fail
       refine (within_any _ _ _ _).mono ?_
       rw [HB3.out]
       rintro e x5 ⟨rfl, rfl⟩
       cases b3 with
       | false =>
         go_wp2_with fail
         refine bodyPost_ret (v := .bool false) (by simp [results, Tryz.results64, go_sem, *]) rfl ⟨?_, BX.out.be⟩
         exact ret_bool (by unfold sizedB; simp [HB0.out, HB1.out, HB2.out, HB3.out])
       | true =>
         go_wp2_with fail
         refine bodyPost_ret (v := .bool pw) (by simp [results, Tryz.results64, go_sem, *]) rfl ⟨?_, BX.out.be⟩
         exact ret_bool (by unfold sizedB powB; simp [HB0.out, HB1.out, HB2.out, HB3.out, hpw])
set_option maxHeartbeats 2000000 in
theorem timed_any (c : Cf) (w : World) :
   Calls Tryz.prog 65 #[c.v] w fun e w' => e = .returned (.bool (timedB c)) ∧ Below w.heap.size w w' := by
 obtain ⟨b0, hb0⟩ : ∃ b, withinB c.ta 1 1099511627776 = b := ⟨_, rfl⟩
 have HB0 := Lib.hid hb0
 clear hb0
 obtain ⟨b1, hb1⟩ : ∃ b, withinB c.iv 1 1099511627776 = b := ⟨_, rfl⟩
 have HB1 := Lib.hid hb1
 clear hb1
 obtain ⟨b2, hb2⟩ : ∃ b, withinB c.ho c.ta 1125899906842624 = b := ⟨_, rfl⟩
 have HB2 := Lib.hid hb2
 clear hb2
 go_enter Tryz.func65, Tryz.ntmps65
 go_upto_region 1 with fail
 refine wp_worldx (fun wx => Bxs w wx [(w.heap.size, 24, [.int .i64 c.ti, .int .i64 c.ro, .int .i64 c.ta, .int .i64 c.iv, .int .i64 c.hg, .int .i64 c.lo, .int .i64 c.dw, .int .i64 c.ho, .int .i64 c.sp, .int .i64 c.kp, .int .i64 c.ki, .int .i64 c.kd, .int .i64 c.lm, .int .i64 c.st, .int .i64 c.th, .int .i64 c.rg])]) ((Bxs.nil_ w).alloc_ _ _ (by simp)) ?_
 rintro x1 bx
 have BX := Lib.hid bx
 clear bx
 obtain ⟨p0_0, p0_1, p0_2, p0_3, p0_4, p0_5, p0_6, p0_7, p0_8, p0_9, p0_10, p0_11, p0_12, p0_13, p0_14, p0_15, z0, y0⟩ := bl16 (BX.out.bl 0 _ _ _ rfl)
 go_wp2_with fail
 refine (within_any _ _ _ _).mono ?_
 rw [HB0.out]
 rintro e x2 ⟨rfl, rfl⟩
 cases b0 with
 | false =>
   go_wp2_with fail
   refine bodyPost_ret (v := .bool false) (by simp [results, Tryz.results65, go_sem, *]) rfl ⟨?_, BX.out.be⟩
   exact ret_bool (by unfold timedB; simp [HB0.out])
 | true =>
   go_wp2_with fail
   refine (within_any _ _ _ _).mono ?_
   rw [HB1.out]
   rintro e x3 ⟨rfl, rfl⟩
   cases b1 with
   | false =>
     go_wp2_with fail
     refine bodyPost_ret (v := .bool false) (by simp [results, Tryz.results65, go_sem, *]) rfl ⟨?_, BX.out.be⟩
     exact ret_bool (by unfold timedB; simp [HB0.out, HB1.out])
   | true =>
     go_wp2_with fail
     refine (within_any _ _ _ _).mono ?_
     rw [HB2.out]
     rintro e x4 ⟨rfl, rfl⟩
     go_wp2_with fail
     refine bodyPost_ret (v := .bool b2) (by simp [results, Tryz.results65, go_sem, *]) rfl ⟨?_, BX.out.be⟩
     exact ret_bool (by unfold timedB; simp [HB0.out, HB1.out, HB2.out])
set_option maxHeartbeats 2000000 in
theorem cmode_any (c : Cf) (w : World) :
   Calls Tryz.prog 66 #[c.v] w fun e w' => e = .returned (.agg #[.int .i64 c.hg, .int .i64 c.lo, .int .i64 c.dw]) ∧ Below w.heap.size w w' := by
 go_enter Tryz.func66, Tryz.ntmps66
 go_upto_region 1 with fail
 refine wp_worldx (fun wx => Bxs w wx [(w.heap.size, 24, [.int .i64 c.ti, .int .i64 c.ro, .int .i64 c.ta, .int .i64 c.iv, .int .i64 c.hg, .int .i64 c.lo, .int .i64 c.dw, .int .i64 c.ho, .int .i64 c.sp, .int .i64 c.kp, .int .i64 c.ki, .int .i64 c.kd, .int .i64 c.lm, .int .i64 c.st, .int .i64 c.th, .int .i64 c.rg]), (w.heap.size + 1, 136, [.int .i64 0, .int .i64 0, .int .i64 0])]) (((Bxs.nil_ w).alloc_ _ _ (by simp)).alloc_ _ _ (by simp)) ?_
 rintro x1 bx
 have BX := Lib.hid bx
 clear bx
 obtain ⟨p0_0, p0_1, p0_2, p0_3, p0_4, p0_5, p0_6, p0_7, p0_8, p0_9, p0_10, p0_11, p0_12, p0_13, p0_14, p0_15, z0, y0⟩ := bl16 (BX.out.bl 0 _ _ _ rfl)
 obtain ⟨p1_0, p1_1, p1_2, z1, y1⟩ := bl3 (BX.out.bl 1 _ _ _ rfl)
 go_wp2_with fail
 refine bodyPost_ret (v := .agg #[.int .i64 c.hg, .int .i64 c.lo, .int .i64 c.dw]) (by simp [results, Tryz.results66, go_sem, *]) rfl ⟨rfl, ?_⟩
 exact ((((BX.out).set_ 1 0 rfl _).set_ 1 1 rfl _).set_ 1 2 rfl _).be
set_option maxHeartbeats 2000000 in
theorem mright_any_Cnf (h l d : Int) (w : World) :
   Calls Tryz.prog 67 #[.agg #[.int .i64 h, .int .i64 l, .int .i64 d]] w fun e w' => e = .returned (.bool (modeB h l d)) ∧ Below w.heap.size w w' := by
 go_enter Tryz.func67, Tryz.ntmps67
 go_upto_region 1 with fail
 refine wp_worldx (fun wx => Bxs w wx [(w.heap.size, 136, [.int .i64 h, .int .i64 l, .int .i64 d])]) ((Bxs.nil_ w).alloc_ _ _ (by simp)) ?_
 rintro x1 bx
 have BX := Lib.hid bx
 clear bx
 obtain ⟨p0_0, p0_1, p0_2, z0, y0⟩ := bl3 (BX.out.bl 0 _ _ _ rfl)
 go_wp2_with fail
 all_goals (go_ret; exact ⟨ret_bool (by unfold modeB; (try simp [*]); (try omega)), BX.out.be⟩)
set_option maxHeartbeats 2000000 in
theorem pright_any (sp kp ki kd li st mo : Int) (w : World) :
   Calls Tryz.prog 69 #[.agg #[.int .i64 sp, .int .i64 kp, .int .i64 ki, .int .i64 kd, .int .i64 li, .int .i64 st, .int .i64 mo]] w fun e w' => e = .returned (.bool (pidB kp ki kd li st mo)) ∧ Below w.heap.size w w' := by
 go_enter Tryz.func69, Tryz.ntmps69
 go_upto_region 1 with fail
 refine wp_worldx (fun wx => Bxs w wx [(w.heap.size, 139, [.int .i64 sp, .int .i64 kp, .int .i64 ki, .int .i64 kd, .int .i64 li, .int .i64 st, .int .i64 mo])]) ((Bxs.nil_ w).alloc_ _ _ (by simp)) ?_
 rintro x1 bx
 have BX := Lib.hid bx
 clear bx
 obtain ⟨p0_0, p0_1, p0_2, p0_3, p0_4, p0_5, p0_6, z0, y0⟩ := bl7 (BX.out.bl 0 _ _ _ rfl)
 go_wp2_with fail
 all_goals (go_ret; exact ⟨ret_bool (by unfold pidB; (try simp [*]); (try omega)), BX.out.be⟩)
end Go.Proofs.YtcffeokbipjaoaaGreat
