/- CoreNil is true of every config, every time, every call and every number of a tier, and changes nothing that it was given. -/
import Derived.Test.YtgdblfghbnallaaGreatMgam
import Derived.Test.YtgdblfghbnallaaGreatMgbc
import Derived.Test.YtgdblfghbnallaaGreatMgbr
import Derived.Test.YtgdblfghbnallaaGreatRows
import Derived.WalkKit
import Derived.ProofKit
import Derived.OpenShut
import Derived.Deep.DeepCutAuto
namespace Go.Proofs.YtgdblfghbnallaaGreat.coreNil
open Go.ChangeShapes Go.WideShapes Go.ChangeAt Go.RowKit
set_option linter.unusedVariables false
theorem own : ownKnob Tryz.prog.godebug = none := by kernel_rfl
theorem laidOut : laidOutB Tryz.prog = true := by kernel_rfl
theorem reads : (Tryz.f3.params.toList.all fun t => Tryz.prog.readableRec t && decide (t < Tryz.prog.types.size)) = true := by kernel_rfl
set_option maxRecDepth 100000 in
theorem tail (T W : World) : True := trivial
set_option maxRecDepth 100000 in
set_option maxHeartbeats 16000000 in
theorem walk (ti ro ta iv hx lo dw ho sp kp ki kd lm sx th rg now a b c d tier : Int) (w : World) (ti0 : -9223372036854775808 ≤ ti) (ti1 : ti ≤ 9223372036854775807) (ro0 : -9223372036854775808 ≤ ro) (ro1 : ro ≤ 9223372036854775807) (ta0 : -9223372036854775808 ≤ ta) (ta1 : ta ≤ 9223372036854775807) (iv0 : -9223372036854775808 ≤ iv) (iv1 : iv ≤ 9223372036854775807) (hx0 : -9223372036854775808 ≤ hx) (hx1 : hx ≤ 9223372036854775807) (lo0 : -9223372036854775808 ≤ lo) (lo1 : lo ≤ 9223372036854775807) (dw0 : -9223372036854775808 ≤ dw) (dw1 : dw ≤ 9223372036854775807) (ho0 : -9223372036854775808 ≤ ho) (ho1 : ho ≤ 9223372036854775807) (sp0 : -9223372036854775808 ≤ sp) (sp1 : sp ≤ 9223372036854775807) (kp0 : -9223372036854775808 ≤ kp) (kp1 : kp ≤ 9223372036854775807) (ki0 : -9223372036854775808 ≤ ki) (ki1 : ki ≤ 9223372036854775807) (kd0 : -9223372036854775808 ≤ kd) (kd1 : kd ≤ 9223372036854775807) (lm0 : -9223372036854775808 ≤ lm) (lm1 : lm ≤ 9223372036854775807) (sx0 : -9223372036854775808 ≤ sx) (sx1 : sx ≤ 9223372036854775807) (th0 : -9223372036854775808 ≤ th) (th1 : th ≤ 9223372036854775807) (rg0 : -9223372036854775808 ≤ rg) (rg1 : rg ≤ 9223372036854775807) (now0 : -9223372036854775808 ≤ now) (now1 : now ≤ 9223372036854775807) (a0 : 0 ≤ a) (a1 : a ≤ 255) (b0 : -9223372036854775808 ≤ b) (b1 : b ≤ 9223372036854775807) (c0 : -9223372036854775808 ≤ c) (c1 : c ≤ 9223372036854775807) (d0 : -9223372036854775808 ≤ d) (d1 : d ≤ 9223372036854775807) (tier0 : -9223372036854775808 ≤ tier) (tier1 : tier ≤ 9223372036854775807) :
    Calls Tryz.prog 3 #[.agg #[.int .i64 ti, .int .i64 ro, .int .i64 ta, .int .i64 iv, .int .i64 hx, .int .i64 lo, .int .i64 dw, .int .i64 ho, .int .i64 sp, .int .i64 kp, .int .i64 ki, .int .i64 kd, .int .i64 lm, .int .i64 sx, .int .i64 th, .int .i64 rg], .int .i64 now, .agg #[.int .u8 a, .int .i64 b, .int .i64 c, .int .i64 d], .int .i64 tier] w fun e w' => e = .returned (.bool true) ∧ Below w.heap.size w w' := by
  have hfit : (⟨ti, ro, ta, iv, hx, lo, dw, ho, sp, kp, ki, kd, lm, sx, th, rg⟩ : Cf).fits := by constructor <;> (unfold I64_; exact ⟨by assumption, by assumption⟩)
  have HF := Lib.hid hfit
  clear hfit ti0 ti1 ro0 ro1 ta0 ta1 iv0 iv1 hx0 hx1 lo0 lo1 dw0 dw1 ho0 ho1 sp0 sp1 kp0 kp1 ki0 ki1 kd0 kd1 lm0 lm1 sx0 sx1 th0 th1 rg0 rg1 now0 now1 a0 a1 b0 b1 c0 c1 d0 d1 tier0 tier1
  go_enter Tryz.func3, Tryz.ntmps3
  go_upto_region 1 with fail
  refine wp_worldx (fun wx => Blk wx w.heap.size 24 (⟨ti, ro, ta, iv, hx, lo, dw, ho, sp, kp, ki, kd, lm, sx, th, rg⟩ : Cf).l.toArray ∧ Blk wx (w.heap.size + 1) 26 #[.int .u8 a, .int .i64 b, .int .i64 c, .int .i64 d] ∧ Below w.heap.size w wx) ⟨(Blk.made _ _ _).alloc_ _, Blk.new_ (by simp), ((Below.refl _ _).alloc (Nat.le_refl _) _).alloc (by simp) _⟩ ?_
  obtain ⟨g, hg⟩ : ∃ g, w.heap.size = g := ⟨_, rfl⟩
  rw [hg]
  rintro w0 ⟨h1, h2, h3⟩
  have HA := Lib.hid h1
  have HB := Lib.hid h2
  have HC := Lib.hid (show Below w.heap.size w w0 from by rw [hg]; exact h3)
  clear h1 h2 h3 hg
  go_wp2_with fail
  refine (awake16 _).mono ?_
  rintro e w1 ⟨rfl, hb⟩
  replace HA := Lib.hid (HA.out.below_ hb HA.out.size)
  replace HB := Lib.hid (HB.out.below_ hb HB.out.size)
  replace HC := Lib.hid (HC.out.trans (hb.mono HC.out.size))
  clear hb
  have k0 : w1.cell? ⟨g, 0, none⟩ = some (.int .i64 ti) := HA.out.val (i := 0) rfl
  have k1 : w1.cell? ⟨g, 1, none⟩ = some (.int .i64 ro) := HA.out.val (i := 1) rfl
  have k2 : w1.cell? ⟨g, 2, none⟩ = some (.int .i64 ta) := HA.out.val (i := 2) rfl
  have k3 : w1.cell? ⟨g, 3, none⟩ = some (.int .i64 iv) := HA.out.val (i := 3) rfl
  have k4 : w1.cell? ⟨g, 4, none⟩ = some (.int .i64 hx) := HA.out.val (i := 4) rfl
  have k5 : w1.cell? ⟨g, 5, none⟩ = some (.int .i64 lo) := HA.out.val (i := 5) rfl
  have k6 : w1.cell? ⟨g, 6, none⟩ = some (.int .i64 dw) := HA.out.val (i := 6) rfl
  have k7 : w1.cell? ⟨g, 7, none⟩ = some (.int .i64 ho) := HA.out.val (i := 7) rfl
  have k8 : w1.cell? ⟨g, 8, none⟩ = some (.int .i64 sp) := HA.out.val (i := 8) rfl
  have k9 : w1.cell? ⟨g, 9, none⟩ = some (.int .i64 kp) := HA.out.val (i := 9) rfl
  have k10 : w1.cell? ⟨g, 10, none⟩ = some (.int .i64 ki) := HA.out.val (i := 10) rfl
  have k11 : w1.cell? ⟨g, 11, none⟩ = some (.int .i64 kd) := HA.out.val (i := 11) rfl
  have k12 : w1.cell? ⟨g, 12, none⟩ = some (.int .i64 lm) := HA.out.val (i := 12) rfl
  have k13 : w1.cell? ⟨g, 13, none⟩ = some (.int .i64 sx) := HA.out.val (i := 13) rfl
  have k14 : w1.cell? ⟨g, 14, none⟩ = some (.int .i64 th) := HA.out.val (i := 14) rfl
  have k15 : w1.cell? ⟨g, 15, none⟩ = some (.int .i64 rg) := HA.out.val (i := 15) rfl
  go_wp2_with fail
  refine (cnew_any ⟨ti, ro, ta, iv, hx, lo, dw, ho, sp, kp, ki, kd, lm, sx, th, rg⟩ w1 HF.out).mono ?_
  rintro e w2 ⟨P, rfl, hP, hb⟩
  replace HA := Lib.hid (HA.out.below_ hb HA.out.size)
  replace HB := Lib.hid (HB.out.below_ hb HB.out.size)
  replace HC := Lib.hid (HC.out.trans (hb.mono HC.out.size))
  clear hb k0 k1 k2 k3 k4 k5 k6 k7 k8 k9 k10 k11 k12 k13 k14 k15 HF
  obtain ⟨ve, hve⟩ : ∃ z, validE ⟨ti, ro, ta, iv, hx, lo, dw, ho, sp, kp, ki, kd, lm, sx, th, rg⟩ = z := ⟨_, rfl⟩
  rw [hve] at hP ⊢
  go_upto_region 5 with fail
  go_cut [99] from 22 to 99 (fun s99 wx => s99 = .bool false ∧ Below w.heap.size w wx)
  case first =>
   rcases hP with ⟨rfl, rfl⟩ | ⟨rfl, p0, O0, N0, n0, rfl, -, -⟩
   · have HV := Lib.hid hve
     clear hve
     have k0 : w2.cell? ⟨g, 0, none⟩ = some (.int .i64 ti) := HA.out.val (i := 0) rfl
     have k1 : w2.cell? ⟨g, 1, none⟩ = some (.int .i64 ro) := HA.out.val (i := 1) rfl
     have k2 : w2.cell? ⟨g, 2, none⟩ = some (.int .i64 ta) := HA.out.val (i := 2) rfl
     have k3 : w2.cell? ⟨g, 3, none⟩ = some (.int .i64 iv) := HA.out.val (i := 3) rfl
     have k4 : w2.cell? ⟨g, 4, none⟩ = some (.int .i64 hx) := HA.out.val (i := 4) rfl
     have k5 : w2.cell? ⟨g, 5, none⟩ = some (.int .i64 lo) := HA.out.val (i := 5) rfl
     have k6 : w2.cell? ⟨g, 6, none⟩ = some (.int .i64 dw) := HA.out.val (i := 6) rfl
     have k7 : w2.cell? ⟨g, 7, none⟩ = some (.int .i64 ho) := HA.out.val (i := 7) rfl
     have k8 : w2.cell? ⟨g, 8, none⟩ = some (.int .i64 sp) := HA.out.val (i := 8) rfl
     have k9 : w2.cell? ⟨g, 9, none⟩ = some (.int .i64 kp) := HA.out.val (i := 9) rfl
     have k10 : w2.cell? ⟨g, 10, none⟩ = some (.int .i64 ki) := HA.out.val (i := 10) rfl
     have k11 : w2.cell? ⟨g, 11, none⟩ = some (.int .i64 kd) := HA.out.val (i := 11) rfl
     have k12 : w2.cell? ⟨g, 12, none⟩ = some (.int .i64 lm) := HA.out.val (i := 12) rfl
     have k13 : w2.cell? ⟨g, 13, none⟩ = some (.int .i64 sx) := HA.out.val (i := 13) rfl
     have k14 : w2.cell? ⟨g, 14, none⟩ = some (.int .i64 th) := HA.out.val (i := 14) rfl
     have k15 : w2.cell? ⟨g, 15, none⟩ = some (.int .i64 rg) := HA.out.val (i := 15) rfl
     go_wp2_with fail
     refine (valid_any ⟨ti, ro, ta, iv, hx, lo, dw, ho, sp, kp, ki, kd, lm, sx, th, rg⟩ w2).mono ?_
     rw [HV.out]
     rintro e w3 ⟨rfl, hb⟩
     replace HA := Lib.hid (HA.out.below_ hb HA.out.size)
     replace HB := Lib.hid (HB.out.below_ hb HB.out.size)
     replace HC := Lib.hid (HC.out.trans (hb.mono HC.out.size))
     clear hb HA k0 k1 k2 k3 k4 k5 k6 k7 k8 k9 k10 k11 k12 k13 k14 k15
     have k0 : w3.cell? ⟨g + 1, 0, none⟩ = some (.int .u8 a) := HB.out.val (i := 0) rfl
     have k1 : w3.cell? ⟨g + 1, 1, none⟩ = some (.int .i64 b) := HB.out.val (i := 1) rfl
     have k2 : w3.cell? ⟨g + 1, 2, none⟩ = some (.int .i64 c) := HB.out.val (i := 2) rfl
     have k3 : w3.cell? ⟨g + 1, 3, none⟩ = some (.int .i64 d) := HB.out.val (i := 3) rfl
     go_wp2_with fail
     refine (nil_do now a b c d w3).mono ?_
     rintro e w4 ⟨hv, hb⟩
     replace hv : e = .returned (.agg #[.int .u8 0, .int .u64 0, .int .i64 0, .int .i64 0, .int .i64 0]) := hv
     subst hv
     replace HC := Lib.hid (HC.out.trans (hb.mono HC.out.size))
     clear hb HB k0 k1 k2 k3
     skip
     go_wp2_with fail
     refine (nil_config w4).mono ?_
     rintro e w5 ⟨hv, hb⟩
     replace hv : e = .returned (.agg #[.int .i64 0, .int .i64 0, .int .i64 0, .int .i64 0, .int .i64 0, .int .i64 0, .int .i64 0, .int .i64 0, .int .i64 0, .int .i64 0, .int .i64 0, .int .i64 0, .int .i64 0, .int .i64 0, .int .i64 0, .int .i64 0]) := hv
     subst hv
     replace HC := Lib.hid (HC.out.trans (hb.mono HC.out.size))
     clear hb 
     go_wp2_with fail
     refine (nil_phase w5).mono ?_
     rintro e wn ⟨rfl, rfl⟩
     go_wp2_with fail
     refine (nil_clock w5).mono ?_
     rintro e wn ⟨rfl, rfl⟩
     go_wp2_with fail
     refine (nil_level w5).mono ?_
     rintro e w6 ⟨hv, hb⟩
     subst hv
     replace HC := Lib.hid (HC.out.trans (hb.mono HC.out.size))
     clear hb 
     go_wp2_with fail
     refine (nil_ticket w6).mono ?_
     rintro e wn ⟨rfl, rfl⟩
     go_wp2_with fail
     refine (nil_queue w6).mono ?_
     rintro e wn ⟨rfl, rfl⟩
     go_wp2_with fail
     refine (codel_nil tier w6).mono ?_
     rintro e w7 ⟨hv, hb⟩
     subst hv
     replace HC := Lib.hid (HC.out.trans (hb.mono HC.out.size))
     clear hb 
     go_wp2_with fail
     refine (mode_nil tier w7).mono ?_
     rintro e w8 ⟨hv, hb⟩
     subst hv
     replace HC := Lib.hid (HC.out.trans (hb.mono HC.out.size))
     clear hb 
     go_wp2_with fail
     refine (nil_pid w8).mono ?_
     rintro e w9 ⟨hv, hb⟩
     subst hv
     replace HC := Lib.hid (HC.out.trans (hb.mono HC.out.size))
     clear hb 
     go_wp2_with fail
     refine (nil_log w9).mono ?_
     rintro e wn ⟨rfl, rfl⟩
     go_wp2_with fail
     go_meet
     exact ⟨by trivial, HC.out⟩
   · have HV := Lib.hid hve
     clear hve
     have k0 : w2.cell? ⟨g, 0, none⟩ = some (.int .i64 ti) := HA.out.val (i := 0) rfl
     have k1 : w2.cell? ⟨g, 1, none⟩ = some (.int .i64 ro) := HA.out.val (i := 1) rfl
     have k2 : w2.cell? ⟨g, 2, none⟩ = some (.int .i64 ta) := HA.out.val (i := 2) rfl
     have k3 : w2.cell? ⟨g, 3, none⟩ = some (.int .i64 iv) := HA.out.val (i := 3) rfl
     have k4 : w2.cell? ⟨g, 4, none⟩ = some (.int .i64 hx) := HA.out.val (i := 4) rfl
     have k5 : w2.cell? ⟨g, 5, none⟩ = some (.int .i64 lo) := HA.out.val (i := 5) rfl
     have k6 : w2.cell? ⟨g, 6, none⟩ = some (.int .i64 dw) := HA.out.val (i := 6) rfl
     have k7 : w2.cell? ⟨g, 7, none⟩ = some (.int .i64 ho) := HA.out.val (i := 7) rfl
     have k8 : w2.cell? ⟨g, 8, none⟩ = some (.int .i64 sp) := HA.out.val (i := 8) rfl
     have k9 : w2.cell? ⟨g, 9, none⟩ = some (.int .i64 kp) := HA.out.val (i := 9) rfl
     have k10 : w2.cell? ⟨g, 10, none⟩ = some (.int .i64 ki) := HA.out.val (i := 10) rfl
     have k11 : w2.cell? ⟨g, 11, none⟩ = some (.int .i64 kd) := HA.out.val (i := 11) rfl
     have k12 : w2.cell? ⟨g, 12, none⟩ = some (.int .i64 lm) := HA.out.val (i := 12) rfl
     have k13 : w2.cell? ⟨g, 13, none⟩ = some (.int .i64 sx) := HA.out.val (i := 13) rfl
     have k14 : w2.cell? ⟨g, 14, none⟩ = some (.int .i64 th) := HA.out.val (i := 14) rfl
     have k15 : w2.cell? ⟨g, 15, none⟩ = some (.int .i64 rg) := HA.out.val (i := 15) rfl
     go_wp2_with fail
     refine (valid_any ⟨ti, ro, ta, iv, hx, lo, dw, ho, sp, kp, ki, kd, lm, sx, th, rg⟩ w2).mono ?_
     rw [HV.out]
     rintro e w3 ⟨rfl, hb⟩
     replace HA := Lib.hid (HA.out.below_ hb HA.out.size)
     replace HB := Lib.hid (HB.out.below_ hb HB.out.size)
     replace HC := Lib.hid (HC.out.trans (hb.mono HC.out.size))
     clear hb HA k0 k1 k2 k3 k4 k5 k6 k7 k8 k9 k10 k11 k12 k13 k14 k15
     have k0 : w3.cell? ⟨g + 1, 0, none⟩ = some (.int .u8 a) := HB.out.val (i := 0) rfl
     have k1 : w3.cell? ⟨g + 1, 1, none⟩ = some (.int .i64 b) := HB.out.val (i := 1) rfl
     have k2 : w3.cell? ⟨g + 1, 2, none⟩ = some (.int .i64 c) := HB.out.val (i := 2) rfl
     have k3 : w3.cell? ⟨g + 1, 3, none⟩ = some (.int .i64 d) := HB.out.val (i := 3) rfl
     go_wp2_with fail
     refine (nil_do now a b c d w3).mono ?_
     rintro e w4 ⟨hv, hb⟩
     replace hv : e = .returned (.agg #[.int .u8 0, .int .u64 0, .int .i64 0, .int .i64 0, .int .i64 0]) := hv
     subst hv
     replace HC := Lib.hid (HC.out.trans (hb.mono HC.out.size))
     clear hb HB k0 k1 k2 k3
     skip
     go_wp2_with fail
     refine (nil_config w4).mono ?_
     rintro e w5 ⟨hv, hb⟩
     replace hv : e = .returned (.agg #[.int .i64 0, .int .i64 0, .int .i64 0, .int .i64 0, .int .i64 0, .int .i64 0, .int .i64 0, .int .i64 0, .int .i64 0, .int .i64 0, .int .i64 0, .int .i64 0, .int .i64 0, .int .i64 0, .int .i64 0, .int .i64 0]) := hv
     subst hv
     replace HC := Lib.hid (HC.out.trans (hb.mono HC.out.size))
     clear hb 
     go_wp2_with fail
     refine (nil_phase w5).mono ?_
     rintro e wn ⟨rfl, rfl⟩
     go_wp2_with fail
     refine (nil_clock w5).mono ?_
     rintro e wn ⟨rfl, rfl⟩
     go_wp2_with fail
     refine (nil_level w5).mono ?_
     rintro e w6 ⟨hv, hb⟩
     subst hv
     replace HC := Lib.hid (HC.out.trans (hb.mono HC.out.size))
     clear hb 
     go_wp2_with fail
     refine (nil_ticket w6).mono ?_
     rintro e wn ⟨rfl, rfl⟩
     go_wp2_with fail
     refine (nil_queue w6).mono ?_
     rintro e wn ⟨rfl, rfl⟩
     go_wp2_with fail
     refine (codel_nil tier w6).mono ?_
     rintro e w7 ⟨hv, hb⟩
     subst hv
     replace HC := Lib.hid (HC.out.trans (hb.mono HC.out.size))
     clear hb 
     go_wp2_with fail
     refine (mode_nil tier w7).mono ?_
     rintro e w8 ⟨hv, hb⟩
     subst hv
     replace HC := Lib.hid (HC.out.trans (hb.mono HC.out.size))
     clear hb 
     go_wp2_with fail
     refine (nil_pid w8).mono ?_
     rintro e w9 ⟨hv, hb⟩
     subst hv
     replace HC := Lib.hid (HC.out.trans (hb.mono HC.out.size))
     clear hb 
     go_wp2_with fail
     refine (nil_log w9).mono ?_
     rintro e wn ⟨rfl, rfl⟩
     go_wp2_with fail
     go_meet
     exact ⟨by trivial, HC.out⟩
  case rest =>
    clear HA HB HC hP hve
    obtain ⟨rfl, hC⟩ := hcut
    have HC := Lib.hid hC
    clear hC
    go_wp2_with fail
    refine (cdef_any _).mono ?_
    rintro e w4 ⟨rfl, hb⟩
    replace HC := Lib.hid (HC.out.trans (hb.mono HC.out.size))
    clear hb
    go_wp2_with fail
    refine (cnew_dflt _).mono ?_
    rintro e w5 ⟨p, O, rfl, hL, hO, hb⟩
    have HO := Lib.hid (fun k hk => show w.heap.size ≤ k from by have := hO k hk; have := HC.out.size; omega)
    replace HC := Lib.hid (HC.out.trans (hb.mono HC.out.size))
    have HL := Lib.hid hL
    clear hb hO hL
    go_wp2_with fail
    refine (first_submit (b := 1) (c := 2) (d := 50) ⟨by omega, by omega⟩ ⟨by omega, by omega⟩ (by omega) ⟨by omega, by omega⟩ HL.out).mono ?_
    rintro e w6 ⟨hv, O6, hL, hO, hk⟩
    replace hv : e = .returned (.agg #[.int .u8 1, .int .u64 1, .int .i64 1, .int .i64 2, .int .i64 0]) := hv
    subst hv
    have HO6 := Lib.hid (fun k hk => show w.heap.size ≤ k from by rcases hO k hk with h | h; exact HO.out k h; have := HC.out.size; omega)
    replace HC := Lib.hid (HC.out.trans (hk.below (fun k hk => HO.out k hk) HC.out.size))
    replace HL := Lib.hid hL
    clear hL hO hk HO
    obtain ⟨S, hS⟩ : ∃ s, A0 1 2 50 = s := ⟨_, rfl⟩
    have hall : allT S.q.L S.N = [0] := by
      rw [← hS]
      show allT (A0 1 2 50).q.L 4 = [0]
      simp only [allT, List.range, List.range.loop, List.flatMap_cons, List.flatMap_nil, a0_L]
      rfl
    have hR : S.q.R 0 = ⟨1, 1, 2, 50, 0⟩ := by rw [← hS]; rfl
    have hcf : S.cf = Cf.dflt := by rw [← hS]; rfl
    have hK : S.K ≤ 1000 := by rw [← hS]; show (1 : Nat) ≤ 1000; omega
    rw [hS] at HL
    have HAL := Lib.hid hall
    have HR := Lib.hid hR
    have HCF := Lib.hid hcf
    clear hS hall hR hcf
    go_wp2_with fail
    refine (co_queue HL.out hK).mono ?_
    rw [HAL.out]
    rintro e w7 ⟨v, rfl, hown, hb⟩
    obtain ⟨g7, c7, rfl, hg7, hg7'⟩ := own_at hown (by simp)
    have hfr : ∃ cur, Blk w7 g7 rqT cur := by
      rcases hown.2 with ⟨h, _⟩ | ⟨g, cap, cur, h, _, hh, _⟩
      · cases h
      · injection h with h1 h2 h3
        injection h1 with h1
        injection h1 with h1
        subst h1
        exact ⟨cur, hh⟩
    obtain ⟨cur, hcur⟩ := hfr
    have hng : ¬ O6 g7 := fun h => by have := HL.out.lt h; omega
    have y0 : w7.cell? ⟨g7, 0, none⟩ = some (.int .u64 1) := (World.ownsRow.cellAt hown 0 (by simp)).trans (by simp [flatR, rRow, HR.out])
    have y1 : w7.cell? ⟨g7, 1, none⟩ = some (.int .i64 1) := (World.ownsRow.cellAt hown 1 (by simp)).trans (by simp [flatR, rRow, HR.out])
    have y2 : w7.cell? ⟨g7, 2, none⟩ = some (.int .i64 2) := (World.ownsRow.cellAt hown 2 (by simp)).trans (by simp [flatR, rRow, HR.out])
    have y3 : w7.cell? ⟨g7, 3, none⟩ = some (.int .i64 50) := (World.ownsRow.cellAt hown 3 (by simp)).trans (by simp [flatR, rRow, HR.out])
    have y4 : w7.cell? ⟨g7, 4, none⟩ = some (.int .i64 0) := (World.ownsRow.cellAt hown 4 (by simp)).trans (by simp [flatR, rRow, HR.out])
    have yf := hcur.free
    have hge : w.heap.size ≤ g7 := by have := HC.out.size; omega
    have HX := Lib.hid hcur
    have HN := Lib.hid hng
    replace HL := Lib.hid (HL.out.below hb)
    replace HC := Lib.hid (HC.out.trans (hb.mono HC.out.size))
    clear hown hb hcur hng hg7 hg7'
    go_upto_region 11 with fail
    refine wp_worldx (fun wx => CoreL wx p O6 S ∧ Below w.heap.size w wx) ?_ ?_
    · have hk5 : Kept (fun k => k = g7) w7 (put5 w7 g7 (.int .u64 0) (.int .i64 0) (.int .i64 0) (.int .i64 0) (.int .i64 0)) := put5_kept
      have h1 := HL.out.box_ HX.out (by decide) HN.out hk5
      have h2 := HC.out.trans (hk5.below (B := w.heap.size) (fun k hk => by omega) HC.out.size)
      unfold put5 at h1 h2
      exact ⟨h1, h2⟩
    clear y0 y1 y2 y3 y4 yf HX HN HL HC
    rintro w8 ⟨h1, h2⟩
    have HL := Lib.hid h1
    have HC := Lib.hid h2
    clear h1 h2
    go_wp2_with fail
    refine (co_queue HL.out hK).mono ?_
    rw [HAL.out]
    rintro e w9 ⟨v, rfl, hown, hb⟩
    obtain ⟨g9, c9, rfl, hg9, hg9'⟩ := own_at hown (by simp)
    have y0 : w9.cell? ⟨g9, 0, none⟩ = some (.int .u64 1) := (World.ownsRow.cellAt hown 0 (by simp)).trans (by simp [flatR, rRow, HR.out])
    have y1 : w9.cell? ⟨g9, 1, none⟩ = some (.int .i64 1) := (World.ownsRow.cellAt hown 1 (by simp)).trans (by simp [flatR, rRow, HR.out])
    have y2 : w9.cell? ⟨g9, 2, none⟩ = some (.int .i64 2) := (World.ownsRow.cellAt hown 2 (by simp)).trans (by simp [flatR, rRow, HR.out])
    have y3 : w9.cell? ⟨g9, 3, none⟩ = some (.int .i64 50) := (World.ownsRow.cellAt hown 3 (by simp)).trans (by simp [flatR, rRow, HR.out])
    have y4 : w9.cell? ⟨g9, 4, none⟩ = some (.int .i64 0) := (World.ownsRow.cellAt hown 4 (by simp)).trans (by simp [flatR, rRow, HR.out])
    replace HL := Lib.hid (HL.out.below hb)
    replace HC := Lib.hid (HC.out.trans (hb.mono HC.out.size))
    clear hown hb hg9 hg9'
    go_wp2_with fail
    refine (co_config HL.out).mono ?_
    rw [HCF.out]
    rintro e wa ⟨hv, hb⟩
    replace hv : e = .returned (.agg #[.int .i64 4, .int .i64 64, .int .i64 5, .int .i64 100, .int .i64 50, .int .i64 10, .int .i64 20, .int .i64 1000, .int .i64 2147483648, .int .i64 4294967296, .int .i64 1073741824, .int .i64 0, .int .i64 1099511627776, .int .i64 64, .int .i64 4, .int .i64 4]) := hv
    subst hv
    replace HL := Lib.hid (HL.out.below hb)
    replace HC := Lib.hid (HC.out.trans (hb.mono HC.out.size))
    clear hb y0 y1 y2 y3 y4
    go_wp2_with fail
    refine (cdef_any _).mono ?_
    rintro e wb ⟨rfl, hb⟩
    replace HL := Lib.hid (HL.out.below hb)
    replace HC := Lib.hid (HC.out.trans (hb.mono HC.out.size))
    clear hb
    go_wp2_with fail
    refine (codel_no (-1) HL.out (by omega)).mono ?_
    rintro e wd ⟨rfl, hb⟩
    replace HL := Lib.hid (HL.out.below hb)
    replace HC := Lib.hid (HC.out.trans (hb.mono HC.out.size))
    clear hb
    go_wp2_with fail
    refine (mode_no 4 HL.out (by rw [HCF.out]; show ¬ ((0 : Int) ≤ 4 ∧ (4 : Int) < 4); omega)).mono ?_
    rintro e we ⟨rfl, hb⟩
    replace HC := Lib.hid (HC.out.trans (hb.mono HC.out.size))
    clear hb HL
    go_wp2
    go_ret
    exact ⟨rfl, HC.out⟩
set_option maxRecDepth 100000 in
theorem lifted (os : Os) (started : os.Started) (H : Type) (enc : TypeId × Value → H) :
    ReturnsInHanded {} Tryz.checked os 3 .any (Rows.coreNilSpec.pre6 enc Tryz.prog Tryz.f3 Rows.coreNilRow.domain false) (Rows.coreNilSpec.post enc Tryz.prog Tryz.f3 false true false false) := by
  refine returnsInHanded_of_change (C := Tryz.checked) own started (by kernel_rfl) Tryz.func3
    (ChangeSpec.witness6 (enc := enc) (C := Tryz.checked) false ⟨#[], #[.agg #[.int .i64 0, .int .i64 0, .int .i64 0, .int .i64 0, .int .i64 0, .int .i64 0, .int .i64 0, .int .i64 0, .int .i64 0, .int .i64 0, .int .i64 0, .int .i64 0, .int .i64 0, .int .i64 0, .int .i64 0, .int .i64 0], .int .i64 0, .agg #[.int .u8 0, .int .i64 0, .int .i64 0, .int .i64 0], .int .i64 0], []⟩ 8 (by kernel_rfl) (by kernel_rfl) (by kernel_rfl) (by kernel_rfl)) ?_
  intro W base args ds gs before hval0 hW hcnd _
  have hval : ∀ (j : Nat) t v, Tryz.f3.params[j]? = some t → args[j]? = some v → Value.okWide Tryz.prog W .any base t v := hval0
  have hW' := hW
  obtain ⟨p, q, hA0, hV, rfl, hfz, hnd⟩ := hW
  have hA : DataW.TrodAll enc Tryz.prog W 0 (fun _ => true) true Tryz.f3.params.toList args.toList ds p := hA0
  rw [Tryz.params3] at hA hval
  obtain ⟨v0, vs0, d0, ds0, p0, q0, hargs, rfl, rfl, h0, r0⟩ := trodAll_cons hA
  obtain ⟨v1, vs1, d1, ds1, p1, q1, rfl, rfl, rfl, h1, r1⟩ := trodAll_cons r0
  obtain ⟨v2, vs2, d2, ds2, p2, q2, rfl, rfl, rfl, h2, r2⟩ := trodAll_cons r1
  obtain ⟨v3, vs3, d3, ds3, p3, q3, rfl, rfl, rfl, h3, r3⟩ := trodAll_cons r2
  obtain ⟨rfl, rfl, rfl⟩ := trodAll_nil r3
  obtain rfl : args = #[v0, v1, v2, v3] := by cases args; simp_all
  obtain ⟨rfl, rfl⟩ := trodVars_none hV
  obtain ⟨x00, x01, x02, x03, x04, x05, x06, x07, x08, x09, x010, x011, x012, x013, x014, x015, y00, y01, y02, y03, y04, y05, y06, y07, y08, y09, y010, y011, y012, y013, y014, y015, n0, rfl, g00, g01, g02, g03, g04, g05, g06, g07, g08, g09, g010, g011, g012, g013, g014, g015⟩ := open_16 Tryz.underlying24 (by kernel_rfl) (by kernel_rfl) (hval 0 _ v0 rfl rfl) h0
  obtain ⟨a00, e00, ez00, w00⟩ := DataW.trod_int Tryz.underlying3 g00
  simp at e00
  subst e00
  obtain ⟨a01, e01, ez01, w01⟩ := DataW.trod_int Tryz.underlying3 g01
  simp at e01
  subst e01
  obtain ⟨a02, e02, ez02, w02⟩ := DataW.trod_int Tryz.underlying2 g02
  simp at e02
  subst e02
  obtain ⟨a03, e03, ez03, w03⟩ := DataW.trod_int Tryz.underlying2 g03
  simp at e03
  subst e03
  obtain ⟨a04, e04, ez04, w04⟩ := DataW.trod_int Tryz.underlying2 g04
  simp at e04
  subst e04
  obtain ⟨a05, e05, ez05, w05⟩ := DataW.trod_int Tryz.underlying2 g05
  simp at e05
  subst e05
  obtain ⟨a06, e06, ez06, w06⟩ := DataW.trod_int Tryz.underlying2 g06
  simp at e06
  subst e06
  obtain ⟨a07, e07, ez07, w07⟩ := DataW.trod_int Tryz.underlying2 g07
  simp at e07
  subst e07
  obtain ⟨a08, e08, ez08, w08⟩ := DataW.trod_int Tryz.underlying22 g08
  simp at e08
  subst e08
  obtain ⟨a09, e09, ez09, w09⟩ := DataW.trod_int Tryz.underlying22 g09
  simp at e09
  subst e09
  obtain ⟨a010, e010, ez010, w010⟩ := DataW.trod_int Tryz.underlying22 g010
  simp at e010
  subst e010
  obtain ⟨a011, e011, ez011, w011⟩ := DataW.trod_int Tryz.underlying22 g011
  simp at e011
  subst e011
  obtain ⟨a012, e012, ez012, w012⟩ := DataW.trod_int Tryz.underlying22 g012
  simp at e012
  subst e012
  obtain ⟨a013, e013, ez013, w013⟩ := DataW.trod_int Tryz.underlying2 g013
  simp at e013
  subst e013
  obtain ⟨a014, e014, ez014, w014⟩ := DataW.trod_int Tryz.underlying3 g014
  simp at e014
  subst e014
  obtain ⟨a015, e015, ez015, w015⟩ := DataW.trod_int Tryz.underlying3 g015
  simp at e015
  subst e015
  obtain ⟨a1, rfl, rfl, rfl, w1⟩ := open_int Tryz.underlying2 (hval 1 _ v1 rfl rfl) h1
  obtain ⟨x20, x21, x22, x23, y20, y21, y22, y23, n2, rfl, g20, g21, g22, g23⟩ := open_four Tryz.underlying26 (by kernel_rfl) (by kernel_rfl) (hval 2 _ v2 rfl rfl) h2
  obtain ⟨a20, e20, ez20, w20⟩ := DataW.trod_int Tryz.underlying5 g20
  simp at e20
  subst e20
  obtain ⟨a21, e21, ez21, w21⟩ := DataW.trod_int Tryz.underlying3 g21
  simp at e21
  subst e21
  obtain ⟨a22, e22, ez22, w22⟩ := DataW.trod_int Tryz.underlying3 g22
  simp at e22
  subst e22
  obtain ⟨a23, e23, ez23, w23⟩ := DataW.trod_int Tryz.underlying2 g23
  simp at e23
  subst e23
  obtain ⟨a3, rfl, rfl, rfl, w3⟩ := open_int Tryz.underlying3 (hval 3 _ v3 rfl rfl) h3
  clear hA0 hval0
  obtain ⟨l00, m00⟩ := wf_i64 w00
  obtain ⟨l01, m01⟩ := wf_i64 w01
  obtain ⟨l02, m02⟩ := wf_i64 w02
  obtain ⟨l03, m03⟩ := wf_i64 w03
  obtain ⟨l04, m04⟩ := wf_i64 w04
  obtain ⟨l05, m05⟩ := wf_i64 w05
  obtain ⟨l06, m06⟩ := wf_i64 w06
  obtain ⟨l07, m07⟩ := wf_i64 w07
  obtain ⟨l08, m08⟩ := wf_i64 w08
  obtain ⟨l09, m09⟩ := wf_i64 w09
  obtain ⟨l010, m010⟩ := wf_i64 w010
  obtain ⟨l011, m011⟩ := wf_i64 w011
  obtain ⟨l012, m012⟩ := wf_i64 w012
  obtain ⟨l013, m013⟩ := wf_i64 w013
  obtain ⟨l014, m014⟩ := wf_i64 w014
  obtain ⟨l015, m015⟩ := wf_i64 w015
  obtain ⟨l1, m1⟩ := wf_i64 w1
  obtain ⟨l20, m20⟩ := wf_u8 w20
  obtain ⟨l21, m21⟩ := wf_i64 w21
  obtain ⟨l22, m22⟩ := wf_i64 w22
  obtain ⟨l23, m23⟩ := wf_i64 w23
  obtain ⟨l3, m3⟩ := wf_i64 w3
  refine (walk a00 a01 a02 a03 a04 a05 a06 a07 a08 a09 a010 a011 a012 a013 a014 a015 a1 a20 a21 a22 a23 a3 W l00 m00 l01 m01 l02 m02 l03 m03 l04 m04 l05 m05 l06 m06 l07 m07 l08 m08 l09 m09 l010 m010 l011 m011 l012 m012 l013 m013 l014 m014 l015 m015 l1 m1 l20 m20 l21 m21 l22 m22 l23 m23 l3 m3).mono fun e W' ⟨he, hg⟩ => ?_
  subst he
  exact ⟨_, rfl, post_of_law hW' rfl laidOut reads rfl Tryz.underlying4 rfl rfl rfl hg⟩
theorem over : Rows.coreNilRow.holds Tryz.pinned (OpenSpec.ofChange Rows.coreNilSpec) :=
  OpenClaim.holds_of_wide 3 Tryz.f3 rfl rfl rfl rfl rfl rfl rfl ⟨rfl, rfl, rfl, rfl, rfl⟩ rfl rfl rfl rfl rfl (by kernel_rfl) Tryz.func3 (by kernel_rfl)
    (of_decide_eq_true (by kernel_rfl)) (by unfold Func.isWrapper; first | (rw [if_pos (by decide +kernel)]; kernel_rfl) | (rw [if_neg (by decide +kernel)]; exact ⟨rfl, rfl⟩))
    (fun os started H enc _ => lifted os started H enc)
theorem proved : Rows.CoreNilSaid := over
end Go.Proofs.YtgdblfghbnallaaGreat.coreNil
