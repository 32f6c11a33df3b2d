/- Texts of this claim, one behind the other: Cnf. -/
import Derived.Test.YtgdblfghbnallaaGreatChecked
import Derived.Lib.Hide
import Derived.Outline
import Derived.RegionTactic
import Derived.BigRegion
import Derived.WalkSpells
import Derived.Laws.Pointers
import Derived.WalkKit
import Derived.ProofKit
import Derived.OpenShut
import Derived.Below
import Derived.Deep.DeepCutAuto
import Derived.Deep.RegionHeld3
import Derived.BigQuiet
import Derived.Deep.QuietTactic
import Derived.Test.YtgdblfghbnallaaGreatMgaa
import Derived.Test.YtgdblfghbnallaaGreatMgam
import Derived.Test.YtgdblfghbnallaaGreatMgas
import Derived.Test.YtgdblfghbnallaaGreatMgaz
/- A config's own calls. -/
namespace Go.Proofs.YtgdblfghbnallaaGreat
open Go.ChangeShapes Go.WideShapes Go.ChangeAt Go.RowKit Kn
set_option linter.unusedVariables false
set_option linter.unusedSimpArgs false
structure Cf.ok (c : Cf) : Prop where
  ti0 : -9223372036854775808 ≤ c.ti
  ti1 : c.ti ≤ 9223372036854775807
  ro0 : -9223372036854775808 ≤ c.ro
  ro1 : c.ro ≤ 9223372036854775807
  ta0 : -9223372036854775808 ≤ c.ta
  ta1 : c.ta ≤ 9223372036854775807
  iv0 : -9223372036854775808 ≤ c.iv
  iv1 : c.iv ≤ 9223372036854775807
  hg0 : -9223372036854775808 ≤ c.hg
  hg1 : c.hg ≤ 9223372036854775807
  lo0 : -9223372036854775808 ≤ c.lo
  lo1 : c.lo ≤ 9223372036854775807
  dw0 : -9223372036854775808 ≤ c.dw
  dw1 : c.dw ≤ 9223372036854775807
  ho0 : -9223372036854775808 ≤ c.ho
  ho1 : c.ho ≤ 9223372036854775807
  sp0 : -9223372036854775808 ≤ c.sp
  sp1 : c.sp ≤ 9223372036854775807
  kp0 : -9223372036854775808 ≤ c.kp
  kp1 : c.kp ≤ 9223372036854775807
  ki0 : -9223372036854775808 ≤ c.ki
  ki1 : c.ki ≤ 9223372036854775807
  kd0 : -9223372036854775808 ≤ c.kd
  kd1 : c.kd ≤ 9223372036854775807
  lm0 : -9223372036854775808 ≤ c.lm
  lm1 : c.lm ≤ 9223372036854775807
  st0 : -9223372036854775808 ≤ c.st
  st1 : c.st ≤ 9223372036854775807
  th0 : -9223372036854775808 ≤ c.th
  th1 : c.th ≤ 9223372036854775807
  rg0 : -9223372036854775808 ≤ c.rg
  rg1 : c.rg ≤ 9223372036854775807
def withinB (x lo hi : Int) : Bool := decide (lo ≤ x) && decide (x ≤ hi)
/-- Is there one bit at most? As the program asks it. -/
def powB (x : Int) : Bool := bits .and .i64 x (wrap64 (x - 1)) == 0
def sizedB (c : Cf) : Bool := withinB c.ti 1 8 && withinB c.ro 1 1024 && withinB c.th 1 16 && withinB c.rg 2 64 && powB c.rg
def timedB (c : Cf) : Bool := withinB c.ta 1 1099511627776 && withinB c.iv 1 1099511627776 && withinB c.ho c.ta 1125899906842624
def modeB (h l d : Int) : Bool := decide (0 ≤ l) && decide (l ≤ h) && decide (0 ≤ d)
def pidB (kp ki kd li st mo : Int) : Bool := decide (0 ≤ kp) && decide (0 ≤ ki) && decide (0 ≤ kd) && decide (0 ≤ li) && decide (1 ≤ st) && decide (0 ≤ mo)
def mostW (c : Cf) : Int := wrap64 (c.ti * 128)
def validB (c : Cf) : Bool := sizedB c && timedB c && modeB c.hg c.lo c.dw && pidB c.kp c.ki c.kd c.lm c.st (mostW c)
set_option maxHeartbeats 2000000 in
theorem within_any (x lo hi : Int) (w : World) :
    Calls Tryz.prog 45 #[.int .i64 x, .int .i64 lo, .int .i64 hi] w fun e w' => e = .returned (.bool (withinB x lo hi)) ∧ w = w' := by
  go_enter Tryz.func45, Tryz.ntmps45
  go_wp2_with fail
  all_goals (go_ret; exact ⟨ret_bool (by unfold withinB; (try simp [*]); (try omega)), rfl⟩)
set_option maxHeartbeats 2000000 in
theorem cmost_any_Cnf (c : Cf) (w : World) :
    Calls Tryz.prog 46 #[c.v] w fun e w' => e = .returned (.int .i64 (mostW c)) ∧ Below w.heap.size w w' := by
  go_enter Tryz.func46, Tryz.ntmps46
  go_upto_region 1 with fail
  refine wp_worldx (fun wx => Bxs w wx [(w.heap.size, 24, [.int .i64 c.ti, .int .i64 c.ro, .int .i64 c.ta, .int .i64 c.iv, .int .i64 c.hg, .int .i64 c.lo, .int .i64 c.dw, .int .i64 c.ho, .int .i64 c.sp, .int .i64 c.kp, .int .i64 c.ki, .int .i64 c.kd, .int .i64 c.lm, .int .i64 c.st, .int .i64 c.th, .int .i64 c.rg])]) ((Bxs.nil_ w).alloc_ _ _ (by simp)) ?_
  rintro x1 bx
  have BX := Lib.hid bx
  clear bx
  have p0_0 : x1.cell? ⟨w.heap.size, 0, none⟩ = some (.int .i64 c.ti) := (BX.out.bl 0 _ _ _ rfl).val rfl
  have p0_1 : x1.cell? ⟨w.heap.size, 1, none⟩ = some (.int .i64 c.ro) := (BX.out.bl 0 _ _ _ rfl).val rfl
  have p0_2 : x1.cell? ⟨w.heap.size, 2, none⟩ = some (.int .i64 c.ta) := (BX.out.bl 0 _ _ _ rfl).val rfl
  have p0_3 : x1.cell? ⟨w.heap.size, 3, none⟩ = some (.int .i64 c.iv) := (BX.out.bl 0 _ _ _ rfl).val rfl
  have p0_4 : x1.cell? ⟨w.heap.size, 4, none⟩ = some (.int .i64 c.hg) := (BX.out.bl 0 _ _ _ rfl).val rfl
  have p0_5 : x1.cell? ⟨w.heap.size, 5, none⟩ = some (.int .i64 c.lo) := (BX.out.bl 0 _ _ _ rfl).val rfl
  have p0_6 : x1.cell? ⟨w.heap.size, 6, none⟩ = some (.int .i64 c.dw) := (BX.out.bl 0 _ _ _ rfl).val rfl
  have p0_7 : x1.cell? ⟨w.heap.size, 7, none⟩ = some (.int .i64 c.ho) := (BX.out.bl 0 _ _ _ rfl).val rfl
  have p0_8 : x1.cell? ⟨w.heap.size, 8, none⟩ = some (.int .i64 c.sp) := (BX.out.bl 0 _ _ _ rfl).val rfl
  have p0_9 : x1.cell? ⟨w.heap.size, 9, none⟩ = some (.int .i64 c.kp) := (BX.out.bl 0 _ _ _ rfl).val rfl
  have p0_10 : x1.cell? ⟨w.heap.size, 10, none⟩ = some (.int .i64 c.ki) := (BX.out.bl 0 _ _ _ rfl).val rfl
  have p0_11 : x1.cell? ⟨w.heap.size, 11, none⟩ = some (.int .i64 c.kd) := (BX.out.bl 0 _ _ _ rfl).val rfl
  have p0_12 : x1.cell? ⟨w.heap.size, 12, none⟩ = some (.int .i64 c.lm) := (BX.out.bl 0 _ _ _ rfl).val rfl
  have p0_13 : x1.cell? ⟨w.heap.size, 13, none⟩ = some (.int .i64 c.st) := (BX.out.bl 0 _ _ _ rfl).val rfl
  have p0_14 : x1.cell? ⟨w.heap.size, 14, none⟩ = some (.int .i64 c.th) := (BX.out.bl 0 _ _ _ rfl).val rfl
  have p0_15 : x1.cell? ⟨w.heap.size, 15, none⟩ = some (.int .i64 c.rg) := (BX.out.bl 0 _ _ _ rfl).val rfl
  have z0 : ∀ k, x1.frozen? ⟨w.heap.size, k, none⟩ = false := (BX.out.bl 0 _ _ _ rfl).free
  have y0 : w.heap.size < x1.heap.size := (BX.out.bl 0 _ _ _ rfl).size
  go_wp2_with fail
  refine bodyPost_ret (v := .int .i64 (wrap64 (c.ti * 128))) (by simp [results, Tryz.results46, go_sem, *]) rfl ⟨rfl, ?_⟩
  exact (BX.out).be
set_option maxHeartbeats 2000000 in
theorem sized_any (c : Cf) (w : World) :
    Calls Tryz.prog 25 #[c.v] w fun e w' => e = .returned (.bool (sizedB c)) ∧ Below w.heap.size w w' := by
  obtain ⟨b0, hb0⟩ : ∃ b, withinB c.ti 1 8 = b := ⟨_, rfl⟩
  have HB0 := Lib.hid hb0
  clear hb0
  obtain ⟨b1, hb1⟩ : ∃ b, withinB c.ro 1 1024 = b := ⟨_, rfl⟩
  have HB1 := Lib.hid hb1
  clear hb1
  obtain ⟨b2, hb2⟩ : ∃ b, withinB c.th 1 16 = b := ⟨_, rfl⟩
  have HB2 := Lib.hid hb2
  clear hb2
  obtain ⟨b3, hb3⟩ : ∃ b, withinB c.rg 2 64 = b := ⟨_, rfl⟩
  have HB3 := Lib.hid hb3
  clear hb3
  obtain ⟨pw, hpw⟩ : ∃ b, (bits .and .i64 c.rg (wrap64 (c.rg - 1)) == 0) = b := ⟨_, rfl⟩
  go_enter Tryz.func25, Tryz.ntmps25
  go_upto_region 1 with fail
  refine wp_worldx (fun wx => Bxs w wx [(w.heap.size, 24, [.int .i64 c.ti, .int .i64 c.ro, .int .i64 c.ta, .int .i64 c.iv, .int .i64 c.hg, .int .i64 c.lo, .int .i64 c.dw, .int .i64 c.ho, .int .i64 c.sp, .int .i64 c.kp, .int .i64 c.ki, .int .i64 c.kd, .int .i64 c.lm, .int .i64 c.st, .int .i64 c.th, .int .i64 c.rg])]) ((Bxs.nil_ w).alloc_ _ _ (by simp)) ?_
  rintro x1 bx
  have BX := Lib.hid bx
  clear bx
  have p0_0 : x1.cell? ⟨w.heap.size, 0, none⟩ = some (.int .i64 c.ti) := (BX.out.bl 0 _ _ _ rfl).val rfl
  have p0_1 : x1.cell? ⟨w.heap.size, 1, none⟩ = some (.int .i64 c.ro) := (BX.out.bl 0 _ _ _ rfl).val rfl
  have p0_2 : x1.cell? ⟨w.heap.size, 2, none⟩ = some (.int .i64 c.ta) := (BX.out.bl 0 _ _ _ rfl).val rfl
  have p0_3 : x1.cell? ⟨w.heap.size, 3, none⟩ = some (.int .i64 c.iv) := (BX.out.bl 0 _ _ _ rfl).val rfl
  have p0_4 : x1.cell? ⟨w.heap.size, 4, none⟩ = some (.int .i64 c.hg) := (BX.out.bl 0 _ _ _ rfl).val rfl
  have p0_5 : x1.cell? ⟨w.heap.size, 5, none⟩ = some (.int .i64 c.lo) := (BX.out.bl 0 _ _ _ rfl).val rfl
  have p0_6 : x1.cell? ⟨w.heap.size, 6, none⟩ = some (.int .i64 c.dw) := (BX.out.bl 0 _ _ _ rfl).val rfl
  have p0_7 : x1.cell? ⟨w.heap.size, 7, none⟩ = some (.int .i64 c.ho) := (BX.out.bl 0 _ _ _ rfl).val rfl
  have p0_8 : x1.cell? ⟨w.heap.size, 8, none⟩ = some (.int .i64 c.sp) := (BX.out.bl 0 _ _ _ rfl).val rfl
  have p0_9 : x1.cell? ⟨w.heap.size, 9, none⟩ = some (.int .i64 c.kp) := (BX.out.bl 0 _ _ _ rfl).val rfl
  have p0_10 : x1.cell? ⟨w.heap.size, 10, none⟩ = some (.int .i64 c.ki) := (BX.out.bl 0 _ _ _ rfl).val rfl
  have p0_11 : x1.cell? ⟨w.heap.size, 11, none⟩ = some (.int .i64 c.kd) := (BX.out.bl 0 _ _ _ rfl).val rfl
  have p0_12 : x1.cell? ⟨w.heap.size, 12, none⟩ = some (.int .i64 c.lm) := (BX.out.bl 0 _ _ _ rfl).val rfl
  have p0_13 : x1.cell? ⟨w.heap.size, 13, none⟩ = some (.int .i64 c.st) := (BX.out.bl 0 _ _ _ rfl).val rfl
  have p0_14 : x1.cell? ⟨w.heap.size, 14, none⟩ = some (.int .i64 c.th) := (BX.out.bl 0 _ _ _ rfl).val rfl
  have p0_15 : x1.cell? ⟨w.heap.size, 15, none⟩ = some (.int .i64 c.rg) := (BX.out.bl 0 _ _ _ rfl).val rfl
  have z0 : ∀ k, x1.frozen? ⟨w.heap.size, k, none⟩ = false := (BX.out.bl 0 _ _ _ rfl).free
  have y0 : w.heap.size < x1.heap.size := (BX.out.bl 0 _ _ _ rfl).size
  go_wp2_with fail
  refine (within_any _ _ _ _).mono ?_
  rw [HB0.out]
  rintro e x2 ⟨rfl, rfl⟩
  cases b0 with
  | false =>
    go_wp2_with fail
    refine bodyPost_ret (v := .bool false) (by simp [results, Tryz.results25, go_sem, *]) rfl ⟨?_, BX.out.be⟩
    exact ret_bool (by unfold sizedB; simp [HB0.out])
  | true =>
    go_wp2_with fail
    refine (within_any _ _ _ _).mono ?_
    rw [HB1.out]
    rintro e x3 ⟨rfl, rfl⟩
    cases b1 with
    | false =>
      go_wp2_with fail
      refine bodyPost_ret (v := .bool false) (by simp [results, Tryz.results25, go_sem, *]) rfl ⟨?_, BX.out.be⟩
      exact ret_bool (by unfold sizedB; simp [HB0.out, HB1.out])
    | true =>
      go_wp2_with fail
      refine (within_any _ _ _ _).mono ?_
      rw [HB2.out]
      rintro e x4 ⟨rfl, rfl⟩
      cases b2 with
      | false =>
        go_wp2_with fail
        refine bodyPost_ret (v := .bool false) (by simp [results, Tryz.results25, go_sem, *]) rfl ⟨?_, BX.out.be⟩
        exact ret_bool (by unfold sizedB; simp [HB0.out, HB1.out, HB2.out])
      | true =>
        go_wp2_with fail
        refine (within_any _ _ _ _).mono ?_
        rw [HB3.out]
        rintro e x5 ⟨rfl, rfl⟩
        cases b3 with
        | false =>
          go_wp2_with fail
          refine bodyPost_ret (v := .bool false) (by simp [results, Tryz.results25, go_sem, *]) rfl ⟨?_, BX.out.be⟩
          exact ret_bool (by unfold sizedB; simp [HB0.out, HB1.out, HB2.out, HB3.out])
        | true =>
          go_wp2_with fail
          refine bodyPost_ret (v := .bool pw) (by simp [results, Tryz.results25, go_sem, *]) rfl ⟨?_, BX.out.be⟩
          exact ret_bool (by unfold sizedB powB; simp [HB0.out, HB1.out, HB2.out, HB3.out, hpw])
set_option maxHeartbeats 2000000 in
theorem timed_any (c : Cf) (w : World) :
    Calls Tryz.prog 26 #[c.v] w fun e w' => e = .returned (.bool (timedB c)) ∧ Below w.heap.size w w' := by
  obtain ⟨b0, hb0⟩ : ∃ b, withinB c.ta 1 1099511627776 = b := ⟨_, rfl⟩
  have HB0 := Lib.hid hb0
  clear hb0
  obtain ⟨b1, hb1⟩ : ∃ b, withinB c.iv 1 1099511627776 = b := ⟨_, rfl⟩
  have HB1 := Lib.hid hb1
  clear hb1
  obtain ⟨b2, hb2⟩ : ∃ b, withinB c.ho c.ta 1125899906842624 = b := ⟨_, rfl⟩
  have HB2 := Lib.hid hb2
  clear hb2
  go_enter Tryz.func26, Tryz.ntmps26
  go_upto_region 1 with fail
  refine wp_worldx (fun wx => Bxs w wx [(w.heap.size, 24, [.int .i64 c.ti, .int .i64 c.ro, .int .i64 c.ta, .int .i64 c.iv, .int .i64 c.hg, .int .i64 c.lo, .int .i64 c.dw, .int .i64 c.ho, .int .i64 c.sp, .int .i64 c.kp, .int .i64 c.ki, .int .i64 c.kd, .int .i64 c.lm, .int .i64 c.st, .int .i64 c.th, .int .i64 c.rg])]) ((Bxs.nil_ w).alloc_ _ _ (by simp)) ?_
  rintro x1 bx
  have BX := Lib.hid bx
  clear bx
  have p0_0 : x1.cell? ⟨w.heap.size, 0, none⟩ = some (.int .i64 c.ti) := (BX.out.bl 0 _ _ _ rfl).val rfl
  have p0_1 : x1.cell? ⟨w.heap.size, 1, none⟩ = some (.int .i64 c.ro) := (BX.out.bl 0 _ _ _ rfl).val rfl
  have p0_2 : x1.cell? ⟨w.heap.size, 2, none⟩ = some (.int .i64 c.ta) := (BX.out.bl 0 _ _ _ rfl).val rfl
  have p0_3 : x1.cell? ⟨w.heap.size, 3, none⟩ = some (.int .i64 c.iv) := (BX.out.bl 0 _ _ _ rfl).val rfl
  have p0_4 : x1.cell? ⟨w.heap.size, 4, none⟩ = some (.int .i64 c.hg) := (BX.out.bl 0 _ _ _ rfl).val rfl
  have p0_5 : x1.cell? ⟨w.heap.size, 5, none⟩ = some (.int .i64 c.lo) := (BX.out.bl 0 _ _ _ rfl).val rfl
  have p0_6 : x1.cell? ⟨w.heap.size, 6, none⟩ = some (.int .i64 c.dw) := (BX.out.bl 0 _ _ _ rfl).val rfl
  have p0_7 : x1.cell? ⟨w.heap.size, 7, none⟩ = some (.int .i64 c.ho) := (BX.out.bl 0 _ _ _ rfl).val rfl
  have p0_8 : x1.cell? ⟨w.heap.size, 8, none⟩ = some (.int .i64 c.sp) := (BX.out.bl 0 _ _ _ rfl).val rfl
  have p0_9 : x1.cell? ⟨w.heap.size, 9, none⟩ = some (.int .i64 c.kp) := (BX.out.bl 0 _ _ _ rfl).val rfl
  have p0_10 : x1.cell? ⟨w.heap.size, 10, none⟩ = some (.int .i64 c.ki) := (BX.out.bl 0 _ _ _ rfl).val rfl
  have p0_11 : x1.cell? ⟨w.heap.size, 11, none⟩ = some (.int .i64 c.kd) := (BX.out.bl 0 _ _ _ rfl).val rfl
  have p0_12 : x1.cell? ⟨w.heap.size, 12, none⟩ = some (.int .i64 c.lm) := (BX.out.bl 0 _ _ _ rfl).val rfl
  have p0_13 : x1.cell? ⟨w.heap.size, 13, none⟩ = some (.int .i64 c.st) := (BX.out.bl 0 _ _ _ rfl).val rfl
  have p0_14 : x1.cell? ⟨w.heap.size, 14, none⟩ = some (.int .i64 c.th) := (BX.out.bl 0 _ _ _ rfl).val rfl
  have p0_15 : x1.cell? ⟨w.heap.size, 15, none⟩ = some (.int .i64 c.rg) := (BX.out.bl 0 _ _ _ rfl).val rfl
  have z0 : ∀ k, x1.frozen? ⟨w.heap.size, k, none⟩ = false := (BX.out.bl 0 _ _ _ rfl).free
  have y0 : w.heap.size < x1.heap.size := (BX.out.bl 0 _ _ _ rfl).size
  go_wp2_with fail
  refine (within_any _ _ _ _).mono ?_
  rw [HB0.out]
  rintro e x2 ⟨rfl, rfl⟩
  cases b0 with
  | false =>
    go_wp2_with fail
    refine bodyPost_ret (v := .bool false) (by simp [results, Tryz.results26, go_sem, *]) rfl ⟨?_, BX.out.be⟩
    exact ret_bool (by unfold timedB; simp [HB0.out])
  | true =>
    go_wp2_with fail
    refine (within_any _ _ _ _).mono ?_
    rw [HB1.out]
    rintro e x3 ⟨rfl, rfl⟩
    cases b1 with
    | false =>
      go_wp2_with fail
      refine bodyPost_ret (v := .bool false) (by simp [results, Tryz.results26, go_sem, *]) rfl ⟨?_, BX.out.be⟩
      exact ret_bool (by unfold timedB; simp [HB0.out, HB1.out])
    | true =>
      go_wp2_with fail
      refine (within_any _ _ _ _).mono ?_
      rw [HB2.out]
      rintro e x4 ⟨rfl, rfl⟩
      go_wp2_with fail
      refine bodyPost_ret (v := .bool b2) (by simp [results, Tryz.results26, go_sem, *]) rfl ⟨?_, BX.out.be⟩
      exact ret_bool (by unfold timedB; simp [HB0.out, HB1.out, HB2.out])
set_option maxHeartbeats 2000000 in
theorem cmode_any (c : Cf) (w : World) :
    Calls Tryz.prog 27 #[c.v] w fun e w' => e = .returned (.agg #[.int .i64 c.hg, .int .i64 c.lo, .int .i64 c.dw]) ∧ Below w.heap.size w w' := by
  go_enter Tryz.func27, Tryz.ntmps27
  go_upto_region 1 with fail
  refine wp_worldx (fun wx => Bxs w wx [(w.heap.size, 24, [.int .i64 c.ti, .int .i64 c.ro, .int .i64 c.ta, .int .i64 c.iv, .int .i64 c.hg, .int .i64 c.lo, .int .i64 c.dw, .int .i64 c.ho, .int .i64 c.sp, .int .i64 c.kp, .int .i64 c.ki, .int .i64 c.kd, .int .i64 c.lm, .int .i64 c.st, .int .i64 c.th, .int .i64 c.rg]), (w.heap.size + 1, 72, [.int .i64 0, .int .i64 0, .int .i64 0])]) (((Bxs.nil_ w).alloc_ _ _ (by simp)).alloc_ _ _ (by simp)) ?_
  rintro x1 bx
  have BX := Lib.hid bx
  clear bx
  have p0_0 : x1.cell? ⟨w.heap.size, 0, none⟩ = some (.int .i64 c.ti) := (BX.out.bl 0 _ _ _ rfl).val rfl
  have p0_1 : x1.cell? ⟨w.heap.size, 1, none⟩ = some (.int .i64 c.ro) := (BX.out.bl 0 _ _ _ rfl).val rfl
  have p0_2 : x1.cell? ⟨w.heap.size, 2, none⟩ = some (.int .i64 c.ta) := (BX.out.bl 0 _ _ _ rfl).val rfl
  have p0_3 : x1.cell? ⟨w.heap.size, 3, none⟩ = some (.int .i64 c.iv) := (BX.out.bl 0 _ _ _ rfl).val rfl
  have p0_4 : x1.cell? ⟨w.heap.size, 4, none⟩ = some (.int .i64 c.hg) := (BX.out.bl 0 _ _ _ rfl).val rfl
  have p0_5 : x1.cell? ⟨w.heap.size, 5, none⟩ = some (.int .i64 c.lo) := (BX.out.bl 0 _ _ _ rfl).val rfl
  have p0_6 : x1.cell? ⟨w.heap.size, 6, none⟩ = some (.int .i64 c.dw) := (BX.out.bl 0 _ _ _ rfl).val rfl
  have p0_7 : x1.cell? ⟨w.heap.size, 7, none⟩ = some (.int .i64 c.ho) := (BX.out.bl 0 _ _ _ rfl).val rfl
  have p0_8 : x1.cell? ⟨w.heap.size, 8, none⟩ = some (.int .i64 c.sp) := (BX.out.bl 0 _ _ _ rfl).val rfl
  have p0_9 : x1.cell? ⟨w.heap.size, 9, none⟩ = some (.int .i64 c.kp) := (BX.out.bl 0 _ _ _ rfl).val rfl
  have p0_10 : x1.cell? ⟨w.heap.size, 10, none⟩ = some (.int .i64 c.ki) := (BX.out.bl 0 _ _ _ rfl).val rfl
  have p0_11 : x1.cell? ⟨w.heap.size, 11, none⟩ = some (.int .i64 c.kd) := (BX.out.bl 0 _ _ _ rfl).val rfl
  have p0_12 : x1.cell? ⟨w.heap.size, 12, none⟩ = some (.int .i64 c.lm) := (BX.out.bl 0 _ _ _ rfl).val rfl
  have p0_13 : x1.cell? ⟨w.heap.size, 13, none⟩ = some (.int .i64 c.st) := (BX.out.bl 0 _ _ _ rfl).val rfl
  have p0_14 : x1.cell? ⟨w.heap.size, 14, none⟩ = some (.int .i64 c.th) := (BX.out.bl 0 _ _ _ rfl).val rfl
  have p0_15 : x1.cell? ⟨w.heap.size, 15, none⟩ = some (.int .i64 c.rg) := (BX.out.bl 0 _ _ _ rfl).val rfl
  have z0 : ∀ k, x1.frozen? ⟨w.heap.size, k, none⟩ = false := (BX.out.bl 0 _ _ _ rfl).free
  have y0 : w.heap.size < x1.heap.size := (BX.out.bl 0 _ _ _ rfl).size
  have p1_0 : x1.cell? ⟨w.heap.size + 1, 0, none⟩ = some (.int .i64 0) := (BX.out.bl 1 _ _ _ rfl).val rfl
  have p1_1 : x1.cell? ⟨w.heap.size + 1, 1, none⟩ = some (.int .i64 0) := (BX.out.bl 1 _ _ _ rfl).val rfl
  have p1_2 : x1.cell? ⟨w.heap.size + 1, 2, none⟩ = some (.int .i64 0) := (BX.out.bl 1 _ _ _ rfl).val rfl
  have z1 : ∀ k, x1.frozen? ⟨w.heap.size + 1, k, none⟩ = false := (BX.out.bl 1 _ _ _ rfl).free
  have y1 : w.heap.size + 1 < x1.heap.size := (BX.out.bl 1 _ _ _ rfl).size
  go_wp2_with fail
  refine bodyPost_ret (v := .agg #[.int .i64 c.hg, .int .i64 c.lo, .int .i64 c.dw]) (by simp [results, Tryz.results27, go_sem, *]) rfl ⟨rfl, ?_⟩
  exact ((((BX.out).set_ 1 0 rfl _).set_ 1 1 rfl _).set_ 1 2 rfl _).be
set_option maxHeartbeats 2000000 in
theorem ccodel_any (c : Cf) (w : World) :
    Calls Tryz.prog 108 #[c.v] w fun e w' => e = .returned (.agg #[.int .i64 c.ta, .int .i64 c.iv]) ∧ Below w.heap.size w w' := by
  go_enter Tryz.func108, Tryz.ntmps108
  go_upto_region 1 with fail
  refine wp_worldx (fun wx => Bxs w wx [(w.heap.size, 24, [.int .i64 c.ti, .int .i64 c.ro, .int .i64 c.ta, .int .i64 c.iv, .int .i64 c.hg, .int .i64 c.lo, .int .i64 c.dw, .int .i64 c.ho, .int .i64 c.sp, .int .i64 c.kp, .int .i64 c.ki, .int .i64 c.kd, .int .i64 c.lm, .int .i64 c.st, .int .i64 c.th, .int .i64 c.rg]), (w.heap.size + 1, 184, [.int .i64 0, .int .i64 0])]) (((Bxs.nil_ w).alloc_ _ _ (by simp)).alloc_ _ _ (by simp)) ?_
  rintro x1 bx
  have BX := Lib.hid bx
  clear bx
  have p0_0 : x1.cell? ⟨w.heap.size, 0, none⟩ = some (.int .i64 c.ti) := (BX.out.bl 0 _ _ _ rfl).val rfl
  have p0_1 : x1.cell? ⟨w.heap.size, 1, none⟩ = some (.int .i64 c.ro) := (BX.out.bl 0 _ _ _ rfl).val rfl
  have p0_2 : x1.cell? ⟨w.heap.size, 2, none⟩ = some (.int .i64 c.ta) := (BX.out.bl 0 _ _ _ rfl).val rfl
  have p0_3 : x1.cell? ⟨w.heap.size, 3, none⟩ = some (.int .i64 c.iv) := (BX.out.bl 0 _ _ _ rfl).val rfl
  have p0_4 : x1.cell? ⟨w.heap.size, 4, none⟩ = some (.int .i64 c.hg) := (BX.out.bl 0 _ _ _ rfl).val rfl
  have p0_5 : x1.cell? ⟨w.heap.size, 5, none⟩ = some (.int .i64 c.lo) := (BX.out.bl 0 _ _ _ rfl).val rfl
  have p0_6 : x1.cell? ⟨w.heap.size, 6, none⟩ = some (.int .i64 c.dw) := (BX.out.bl 0 _ _ _ rfl).val rfl
  have p0_7 : x1.cell? ⟨w.heap.size, 7, none⟩ = some (.int .i64 c.ho) := (BX.out.bl 0 _ _ _ rfl).val rfl
  have p0_8 : x1.cell? ⟨w.heap.size, 8, none⟩ = some (.int .i64 c.sp) := (BX.out.bl 0 _ _ _ rfl).val rfl
  have p0_9 : x1.cell? ⟨w.heap.size, 9, none⟩ = some (.int .i64 c.kp) := (BX.out.bl 0 _ _ _ rfl).val rfl
  have p0_10 : x1.cell? ⟨w.heap.size, 10, none⟩ = some (.int .i64 c.ki) := (BX.out.bl 0 _ _ _ rfl).val rfl
  have p0_11 : x1.cell? ⟨w.heap.size, 11, none⟩ = some (.int .i64 c.kd) := (BX.out.bl 0 _ _ _ rfl).val rfl
  have p0_12 : x1.cell? ⟨w.heap.size, 12, none⟩ = some (.int .i64 c.lm) := (BX.out.bl 0 _ _ _ rfl).val rfl
  have p0_13 : x1.cell? ⟨w.heap.size, 13, none⟩ = some (.int .i64 c.st) := (BX.out.bl 0 _ _ _ rfl).val rfl
  have p0_14 : x1.cell? ⟨w.heap.size, 14, none⟩ = some (.int .i64 c.th) := (BX.out.bl 0 _ _ _ rfl).val rfl
  have p0_15 : x1.cell? ⟨w.heap.size, 15, none⟩ = some (.int .i64 c.rg) := (BX.out.bl 0 _ _ _ rfl).val rfl
  have z0 : ∀ k, x1.frozen? ⟨w.heap.size, k, none⟩ = false := (BX.out.bl 0 _ _ _ rfl).free
  have y0 : w.heap.size < x1.heap.size := (BX.out.bl 0 _ _ _ rfl).size
  have p1_0 : x1.cell? ⟨w.heap.size + 1, 0, none⟩ = some (.int .i64 0) := (BX.out.bl 1 _ _ _ rfl).val rfl
  have p1_1 : x1.cell? ⟨w.heap.size + 1, 1, none⟩ = some (.int .i64 0) := (BX.out.bl 1 _ _ _ rfl).val rfl
  have z1 : ∀ k, x1.frozen? ⟨w.heap.size + 1, k, none⟩ = false := (BX.out.bl 1 _ _ _ rfl).free
  have y1 : w.heap.size + 1 < x1.heap.size := (BX.out.bl 1 _ _ _ rfl).size
  go_wp2_with fail
  refine bodyPost_ret (v := .agg #[.int .i64 c.ta, .int .i64 c.iv]) (by simp [results, Tryz.results108, go_sem, *]) rfl ⟨rfl, ?_⟩
  exact (((BX.out).set_ 1 0 rfl _).set_ 1 1 rfl _).be
set_option maxHeartbeats 2000000 in
theorem mright_any_Cnf (h l d : Int) (w : World) :
    Calls Tryz.prog 28 #[.agg #[.int .i64 h, .int .i64 l, .int .i64 d]] w fun e w' => e = .returned (.bool (modeB h l d)) ∧ Below w.heap.size w w' := by
  go_enter Tryz.func28, Tryz.ntmps28
  go_upto_region 1 with fail
  refine wp_worldx (fun wx => Bxs w wx [(w.heap.size, 72, [.int .i64 h, .int .i64 l, .int .i64 d])]) ((Bxs.nil_ w).alloc_ _ _ (by simp)) ?_
  rintro x1 bx
  have BX := Lib.hid bx
  clear bx
  have p0_0 : x1.cell? ⟨w.heap.size, 0, none⟩ = some (.int .i64 h) := (BX.out.bl 0 _ _ _ rfl).val rfl
  have p0_1 : x1.cell? ⟨w.heap.size, 1, none⟩ = some (.int .i64 l) := (BX.out.bl 0 _ _ _ rfl).val rfl
  have p0_2 : x1.cell? ⟨w.heap.size, 2, none⟩ = some (.int .i64 d) := (BX.out.bl 0 _ _ _ rfl).val rfl
  have z0 : ∀ k, x1.frozen? ⟨w.heap.size, k, none⟩ = false := (BX.out.bl 0 _ _ _ rfl).free
  have y0 : w.heap.size < x1.heap.size := (BX.out.bl 0 _ _ _ rfl).size
  go_wp2_with fail
  all_goals (go_ret; exact ⟨ret_bool (by unfold modeB; (try simp [*]); (try omega)), BX.out.be⟩)
set_option maxHeartbeats 2000000 in
theorem pright_any (sp kp ki kd li st mo : Int) (w : World) :
    Calls Tryz.prog 30 #[.agg #[.int .i64 sp, .int .i64 kp, .int .i64 ki, .int .i64 kd, .int .i64 li, .int .i64 st, .int .i64 mo]] w fun e w' => e = .returned (.bool (pidB kp ki kd li st mo)) ∧ Below w.heap.size w w' := by
  go_enter Tryz.func30, Tryz.ntmps30
  go_upto_region 1 with fail
  refine wp_worldx (fun wx => Bxs w wx [(w.heap.size, 75, [.int .i64 sp, .int .i64 kp, .int .i64 ki, .int .i64 kd, .int .i64 li, .int .i64 st, .int .i64 mo])]) ((Bxs.nil_ w).alloc_ _ _ (by simp)) ?_
  rintro x1 bx
  have BX := Lib.hid bx
  clear bx
  have p0_0 : x1.cell? ⟨w.heap.size, 0, none⟩ = some (.int .i64 sp) := (BX.out.bl 0 _ _ _ rfl).val rfl
  have p0_1 : x1.cell? ⟨w.heap.size, 1, none⟩ = some (.int .i64 kp) := (BX.out.bl 0 _ _ _ rfl).val rfl
  have p0_2 : x1.cell? ⟨w.heap.size, 2, none⟩ = some (.int .i64 ki) := (BX.out.bl 0 _ _ _ rfl).val rfl
  have p0_3 : x1.cell? ⟨w.heap.size, 3, none⟩ = some (.int .i64 kd) := (BX.out.bl 0 _ _ _ rfl).val rfl
  have p0_4 : x1.cell? ⟨w.heap.size, 4, none⟩ = some (.int .i64 li) := (BX.out.bl 0 _ _ _ rfl).val rfl
  have p0_5 : x1.cell? ⟨w.heap.size, 5, none⟩ = some (.int .i64 st) := (BX.out.bl 0 _ _ _ rfl).val rfl
  have p0_6 : x1.cell? ⟨w.heap.size, 6, none⟩ = some (.int .i64 mo) := (BX.out.bl 0 _ _ _ rfl).val rfl
  have z0 : ∀ k, x1.frozen? ⟨w.heap.size, k, none⟩ = false := (BX.out.bl 0 _ _ _ rfl).free
  have y0 : w.heap.size < x1.heap.size := (BX.out.bl 0 _ _ _ rfl).size
  go_wp2_with fail
  all_goals (go_ret; exact ⟨ret_bool (by unfold pidB; (try simp [*]); (try omega)), BX.out.be⟩)
end Go.Proofs.YtgdblfghbnallaaGreat
