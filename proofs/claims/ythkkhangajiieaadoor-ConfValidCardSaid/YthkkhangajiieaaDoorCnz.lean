/- ConfValid's walk. -/
import Derived.Test.YthkkhangajiieaaDoorCny
import Derived.Test.YthkkhangajiieaaDoorCnu
namespace Go.Proofs.YthkkhangajiieaaDoor
open Go.ChangeShapes Go.WideShapes Go.ChangeAt Go.RowKit Kn
set_option linter.unusedVariables false
set_option linter.unusedSimpArgs false
set_option maxRecDepth 20000 in
set_option maxHeartbeats 4000000 in
theorem walkv (c : Cf) (w : World) (hs : Std w) : Calls Tryd.prog 3 #[c.v] w fun e w' => e = .returned (.bool true) ∧ Below w.heap.size w w' := by
  have HS := Lib.hid hs
  clear hs
  go_enter Tryd.func3, Tryd.ntmps3
  go_upto_region 1 with fail
  refine wp_worldx (fun wx => CfBox wx w.heap.size c ∧ Below w.heap.size w wx) ⟨Blk.made _ _ _, (Below.refl _ _).alloc (Nat.le_refl _) _⟩ ?_
  rintro x1 ⟨hb1, hw1⟩
  have HB1 := Lib.hid hb1
  have HW1 := Lib.hid hw1
  clear hb1 hw1
  go_wp2_with fail
  refine (awake13 _ (HS.out.below HW1.out)).mono ?_
  rintro e x2 ⟨rfl, hw2⟩
  have HB2 := Lib.hid (HB1.out.below_ hw2 HB1.out.size)
  have HW2 := Lib.hid (HW1.out.trans (hw2.mono HW1.out.size))
  clear hw2 HB1
  have c0 : x2.cell? ⟨w.heap.size, 0, none⟩ = some (.int .i64 c.ti) := HB2.out.val (i := 0) rfl
  have c1 : x2.cell? ⟨w.heap.size, 1, none⟩ = some (.int .i64 c.ro) := HB2.out.val (i := 1) rfl
  have c2 : x2.cell? ⟨w.heap.size, 2, none⟩ = some (.int .i64 c.ta) := HB2.out.val (i := 2) rfl
  have c3 : x2.cell? ⟨w.heap.size, 3, none⟩ = some (.int .i64 c.iv) := HB2.out.val (i := 3) rfl
  have c4 : x2.cell? ⟨w.heap.size, 4, none⟩ = some (.int .i64 c.hg) := HB2.out.val (i := 4) rfl
  have c5 : x2.cell? ⟨w.heap.size, 5, none⟩ = some (.int .i64 c.lo) := HB2.out.val (i := 5) rfl
  have c6 : x2.cell? ⟨w.heap.size, 6, none⟩ = some (.int .i64 c.dw) := HB2.out.val (i := 6) rfl
  have c7 : x2.cell? ⟨w.heap.size, 7, none⟩ = some (.int .i64 c.ho) := HB2.out.val (i := 7) rfl
  have c8 : x2.cell? ⟨w.heap.size, 8, none⟩ = some (.int .i64 c.sp) := HB2.out.val (i := 8) rfl
  have c9 : x2.cell? ⟨w.heap.size, 9, none⟩ = some (.int .i64 c.kp) := HB2.out.val (i := 9) rfl
  have c10 : x2.cell? ⟨w.heap.size, 10, none⟩ = some (.int .i64 c.ki) := HB2.out.val (i := 10) rfl
  have c11 : x2.cell? ⟨w.heap.size, 11, none⟩ = some (.int .i64 c.kd) := HB2.out.val (i := 11) rfl
  have c12 : x2.cell? ⟨w.heap.size, 12, none⟩ = some (.int .i64 c.lm) := HB2.out.val (i := 12) rfl
  have c13 : x2.cell? ⟨w.heap.size, 13, none⟩ = some (.int .i64 c.st) := HB2.out.val (i := 13) rfl
  have c14 : x2.cell? ⟨w.heap.size, 14, none⟩ = some (.int .i64 c.th) := HB2.out.val (i := 14) rfl
  have c15 : x2.cell? ⟨w.heap.size, 15, none⟩ = some (.int .i64 c.rg) := HB2.out.val (i := 15) rfl
  go_wp2_with fail
  refine (lown13 c _).mono ?_
  rintro e x3 ⟨rfl, hr3, hw3⟩
  have HR3 := Lib.hid hr3
  have HB3 := Lib.hid (HB2.out.below_ hw3 HB2.out.size)
  have HW3 := Lib.hid (HW2.out.trans (hw3.mono (Nat.le_of_lt HB2.out.size)))
  clear hw3 hr3 HB2 c0 c1 c2 c3 c4 c5 c6 c7 c8 c9 c10 c11 c12 c13 c14 c15
  have c0 : x3.cell? ⟨w.heap.size, 0, none⟩ = some (.int .i64 c.ti) := HB3.out.val (i := 0) rfl
  have c1 : x3.cell? ⟨w.heap.size, 1, none⟩ = some (.int .i64 c.ro) := HB3.out.val (i := 1) rfl
  have c2 : x3.cell? ⟨w.heap.size, 2, none⟩ = some (.int .i64 c.ta) := HB3.out.val (i := 2) rfl
  have c3 : x3.cell? ⟨w.heap.size, 3, none⟩ = some (.int .i64 c.iv) := HB3.out.val (i := 3) rfl
  have c4 : x3.cell? ⟨w.heap.size, 4, none⟩ = some (.int .i64 c.hg) := HB3.out.val (i := 4) rfl
  have c5 : x3.cell? ⟨w.heap.size, 5, none⟩ = some (.int .i64 c.lo) := HB3.out.val (i := 5) rfl
  have c6 : x3.cell? ⟨w.heap.size, 6, none⟩ = some (.int .i64 c.dw) := HB3.out.val (i := 6) rfl
  have c7 : x3.cell? ⟨w.heap.size, 7, none⟩ = some (.int .i64 c.ho) := HB3.out.val (i := 7) rfl
  have c8 : x3.cell? ⟨w.heap.size, 8, none⟩ = some (.int .i64 c.sp) := HB3.out.val (i := 8) rfl
  have c9 : x3.cell? ⟨w.heap.size, 9, none⟩ = some (.int .i64 c.kp) := HB3.out.val (i := 9) rfl
  have c10 : x3.cell? ⟨w.heap.size, 10, none⟩ = some (.int .i64 c.ki) := HB3.out.val (i := 10) rfl
  have c11 : x3.cell? ⟨w.heap.size, 11, none⟩ = some (.int .i64 c.kd) := HB3.out.val (i := 11) rfl
  have c12 : x3.cell? ⟨w.heap.size, 12, none⟩ = some (.int .i64 c.lm) := HB3.out.val (i := 12) rfl
  have c13 : x3.cell? ⟨w.heap.size, 13, none⟩ = some (.int .i64 c.st) := HB3.out.val (i := 13) rfl
  have c14 : x3.cell? ⟨w.heap.size, 14, none⟩ = some (.int .i64 c.th) := HB3.out.val (i := 14) rfl
  have c15 : x3.cell? ⟨w.heap.size, 15, none⟩ = some (.int .i64 c.rg) := HB3.out.val (i := 15) rfl
  go_wp2_with fail
  refine (valid_any c _).mono ?_
  obtain ⟨ve, hve⟩ : ∃ z, validE c = z := ⟨_, rfl⟩
  rw [hve]
  have HVE := Lib.hid hve
  clear hve
  rintro e x4 ⟨rfl, hw4⟩
  have HR4 := Lib.hid (HR3.out.below_ hw4 HR3.out.size)
  have HB4 := Lib.hid (HB3.out.below_ hw4 HB3.out.size)
  have HW4 := Lib.hid (HW3.out.trans (hw4.mono (Nat.le_of_lt HB3.out.size)))
  obtain ⟨g, hg⟩ : ∃ g, x2.heap.size + 1 = g := ⟨_, rfl⟩
  rw [hg] at HR4 ⊢
  clear hw4 HR3 HB3 hg c0 c1 c2 c3 c4 c5 c6 c7 c8 c9 c10 c11 c12 c13 c14 c15
  have HV := Lib.hid (show V5 w g c x4 from ⟨HB4.out, HR4.out, HW4.out⟩)
  clear HB4 HR4 HW4 HW1 HW2 HW3
  go_upto_region 5 with fail
  refine Code.wp_mono ?_ (reg5 (by rfl) c g w x4 HV.out _ _ _ _ _ _ _ _ _ _ _ rfl)
  clear HV
  rintro _ _ wx ⟨g1, g2, g3, rfl, rfl, fb, fr, f1, f2, f3, fbe⟩
  have c0 : wx.cell? ⟨w.heap.size, 0, none⟩ = some (.int .i64 c.ti) := fb.val (i := 0) rfl
  have c1 : wx.cell? ⟨w.heap.size, 1, none⟩ = some (.int .i64 c.ro) := fb.val (i := 1) rfl
  have c2 : wx.cell? ⟨w.heap.size, 2, none⟩ = some (.int .i64 c.ta) := fb.val (i := 2) rfl
  have c3 : wx.cell? ⟨w.heap.size, 3, none⟩ = some (.int .i64 c.iv) := fb.val (i := 3) rfl
  have c4 : wx.cell? ⟨w.heap.size, 4, none⟩ = some (.int .i64 c.hg) := fb.val (i := 4) rfl
  have c5 : wx.cell? ⟨w.heap.size, 5, none⟩ = some (.int .i64 c.lo) := fb.val (i := 5) rfl
  have c6 : wx.cell? ⟨w.heap.size, 6, none⟩ = some (.int .i64 c.dw) := fb.val (i := 6) rfl
  have c7 : wx.cell? ⟨w.heap.size, 7, none⟩ = some (.int .i64 c.ho) := fb.val (i := 7) rfl
  have c8 : wx.cell? ⟨w.heap.size, 8, none⟩ = some (.int .i64 c.sp) := fb.val (i := 8) rfl
  have c9 : wx.cell? ⟨w.heap.size, 9, none⟩ = some (.int .i64 c.kp) := fb.val (i := 9) rfl
  have c10 : wx.cell? ⟨w.heap.size, 10, none⟩ = some (.int .i64 c.ki) := fb.val (i := 10) rfl
  have c11 : wx.cell? ⟨w.heap.size, 11, none⟩ = some (.int .i64 c.kd) := fb.val (i := 11) rfl
  have c12 : wx.cell? ⟨w.heap.size, 12, none⟩ = some (.int .i64 c.lm) := fb.val (i := 12) rfl
  have c13 : wx.cell? ⟨w.heap.size, 13, none⟩ = some (.int .i64 c.st) := fb.val (i := 13) rfl
  have c14 : wx.cell? ⟨w.heap.size, 14, none⟩ = some (.int .i64 c.th) := fb.val (i := 14) rfl
  have c15 : wx.cell? ⟨w.heap.size, 15, none⟩ = some (.int .i64 c.rg) := fb.val (i := 15) rfl
  have k1_0 : wx.cell? ⟨g1, 0, none⟩ = some (.int .i64 c.ta) := f1.val (i := 0) rfl
  have k1_1 : wx.cell? ⟨g1, 1, none⟩ = some (.int .i64 c.iv) := f1.val (i := 1) rfl
  have k2_0 : wx.cell? ⟨g2, 0, none⟩ = some (.int .i64 c.hg) := f2.val (i := 0) rfl
  have k2_1 : wx.cell? ⟨g2, 1, none⟩ = some (.int .i64 c.lo) := f2.val (i := 1) rfl
  have k2_2 : wx.cell? ⟨g2, 2, none⟩ = some (.int .i64 c.dw) := f2.val (i := 2) rfl
  have k3_0 : wx.cell? ⟨g3, 0, none⟩ = some (.int .i64 c.sp) := f3.val (i := 0) rfl
  have k3_1 : wx.cell? ⟨g3, 1, none⟩ = some (.int .i64 c.kp) := f3.val (i := 1) rfl
  have k3_2 : wx.cell? ⟨g3, 2, none⟩ = some (.int .i64 c.ki) := f3.val (i := 2) rfl
  have k3_3 : wx.cell? ⟨g3, 3, none⟩ = some (.int .i64 c.kd) := f3.val (i := 3) rfl
  have k3_4 : wx.cell? ⟨g3, 4, none⟩ = some (.int .i64 c.lm) := f3.val (i := 4) rfl
  have k3_5 : wx.cell? ⟨g3, 5, none⟩ = some (.int .i64 c.st) := f3.val (i := 5) rfl
  have k3_6 : wx.cell? ⟨g3, 6, none⟩ = some (.int .i64 (mostW c)) := f3.val (i := 6) rfl
  have HF := Lib.hid (And.intro fb (And.intro fr (And.intro f1 (And.intro f2 (And.intro f3 fbe)))))
  clear fb fr f1 f2 f3 fbe
  have H8 : Held8 w g c g2 g3 wx := ⟨HF.out.1, HF.out.2.1, HF.out.2.2.2.1, HF.out.2.2.2.2.1, HF.out.2.2.2.2.2⟩
  go_upto_region 8 with fail
  clear HF c0 c1 c2 c3 c4 c5 c6 c7 c8 c9 c10 c11 c12 c13 c14 c15 k1_0 k1_1 k2_0 k2_1 k2_2 k3_0 k3_1 k3_2 k3_3 k3_4 k3_5 k3_6
  cases hvb : validB c with
  | false =>
    have hv1 : ve = 1 := by rw [← HVE.out]; unfold validE; rw [hvb]; rfl
    subst hv1
    clear HVE
    refine Code.wp_mono ?_ (reg8f (by rfl) c g g2 g3 w wx H8 _ _ _ _ _ _ _ _ _ _ _ _ _ _ _ _ _ _ _ _ _ _ _ _ _ _ _ _ _ _ _ _ _ _ _ _ _ _ _ _ _ _ _ _ _ _ _ _ _ _ _ _ _ _ _ _ _ _ _ _ _ _ _ _ _ _ _ _ _ _ _ _ _ _ _ _ _ _ _ _ _ _ _ _ _ _ _ _ _ _ _ _ _ _ _ rfl rfl rfl rfl)
    clear H8
    rintro _ _ w8 ⟨rfl, hh, z95, z96, z97, z98, z99, z100, z101, z102, z103, z104, z105, z106, z107, z108, z109, z110, z111, z112, z113, z114, z115, z116, z117, z118, z119, z120, rfl⟩
    go_wp2_with fail
    refine (rvalid13 c g _ hh.2.1).mono ?_
    rw [hvb]
    rintro e w9 ⟨rfl, hb9⟩
    have HD := Lib.hid (hh.2.2.2.2.trans (hb9.mono hh.2.2.2.2.size))
    clear hh hb9
    go_wp2_with fail
    refine (cdef_any _).mono ?_
    rintro e w10 ⟨rfl, hb10⟩
    replace HD := Lib.hid (HD.out.trans (hb10.mono HD.out.size))
    clear hb10
    go_wp2_with fail
    refine (rdefault _).mono ?_
    rintro e w11 ⟨rfl, hr11, hb11⟩
    replace HD := Lib.hid (HD.out.trans (hb11.mono HD.out.size))
    clear hb11
    go_wp2_with fail
    refine (lof13 Cf.dflt _ _ hr11).mono ?_
    rintro e w12 ⟨rfl, hb12⟩
    replace HD := Lib.hid (HD.out.trans (hb12.mono HD.out.size))
    clear hb12 hr11
    simp only [Cf.dflt]
    go_wp2_with fail
    refine (cdef_any _).mono ?_
    rintro e w13 ⟨rfl, hb13⟩
    replace HD := Lib.hid (HD.out.trans (hb13.mono HD.out.size))
    clear hb13
    go_wp2_with fail
    refine (valid_any Cf.dflt _).mono ?_
    rw [show validE Cf.dflt = 0 from by decide +kernel]
    rintro e w14 ⟨rfl, hb14⟩
    replace HD := Lib.hid (HD.out.trans (hb14.mono HD.out.size))
    clear hb14
    go_wp2_with fail
    go_ret
    exact ⟨rfl, HD.out⟩
  | true =>
    have hv1 : ve = 0 := by rw [← HVE.out]; unfold validE; rw [hvb]; rfl
    subst hv1
    clear HVE
    have hpm : pidB c.kp c.ki c.kd c.lm c.st (mostW c) = true ∧ modeB c.hg c.lo c.dw = true := by unfold validB at hvb; simp only [Bool.and_eq_true] at hvb; exact ⟨hvb.2, hvb.1.2⟩
    refine Code.wp_mono ?_ (reg8t (by rfl) c g g2 g3 w wx H8 hpm.1 hpm.2 _ _ _ _ _ _ _ _ _ _ _ _ _ _ _ _ _ _ _ _ _ _ _ _ _ _ _ _ _ _ _ _ _ _ _ _ _ _ _ _ _ _ _ _ _ _ _ _ _ _ _ _ _ _ _ _ _ _ _ _ _ _ _ _ _ _ _ _ _ _ _ _ _ _ _ _ _ _ _ _ _ _ _ _ _ _ _ _ _ _ _ _ _ _ _ rfl rfl rfl rfl)
    clear H8
    rintro _ _ w8 ⟨rfl, hh, z95, z96, z97, z98, z99, z100, z101, z102, z103, z104, z105, z106, z107, z108, z109, z110, z111, z112, z113, z114, z115, z116, z117, z118, z119, z120, rfl⟩
    go_wp2_with fail
    refine (rvalid13 c g _ hh.2.1).mono ?_
    rw [hvb]
    rintro e w9 ⟨rfl, hb9⟩
    have HD := Lib.hid (hh.2.2.2.2.trans (hb9.mono hh.2.2.2.2.size))
    clear hh hb9
    go_wp2_with fail
    refine (cdef_any _).mono ?_
    rintro e w10 ⟨rfl, hb10⟩
    replace HD := Lib.hid (HD.out.trans (hb10.mono HD.out.size))
    clear hb10
    go_wp2_with fail
    refine (rdefault _).mono ?_
    rintro e w11 ⟨rfl, hr11, hb11⟩
    replace HD := Lib.hid (HD.out.trans (hb11.mono HD.out.size))
    clear hb11
    go_wp2_with fail
    refine (lof13 Cf.dflt _ _ hr11).mono ?_
    rintro e w12 ⟨rfl, hb12⟩
    replace HD := Lib.hid (HD.out.trans (hb12.mono HD.out.size))
    clear hb12 hr11
    simp only [Cf.dflt]
    go_wp2_with fail
    refine (cdef_any _).mono ?_
    rintro e w13 ⟨rfl, hb13⟩
    replace HD := Lib.hid (HD.out.trans (hb13.mono HD.out.size))
    clear hb13
    go_wp2_with fail
    refine (valid_any Cf.dflt _).mono ?_
    rw [show validE Cf.dflt = 0 from by decide +kernel]
    rintro e w14 ⟨rfl, hb14⟩
    replace HD := Lib.hid (HD.out.trans (hb14.mono HD.out.size))
    clear hb14
    go_wp2_with fail
    go_ret
    exact ⟨rfl, HD.out⟩
end Go.Proofs.YthkkhangajiieaaDoor
