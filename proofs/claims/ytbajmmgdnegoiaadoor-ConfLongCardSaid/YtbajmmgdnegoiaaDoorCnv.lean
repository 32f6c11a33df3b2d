/- May a config be? -/
import Derived.Test.YtbajmmgdnegoiaaDoorCnp
namespace Go.Proofs.YtbajmmgdnegoiaaDoor
open Go.ChangeShapes Go.WideShapes Go.ChangeAt Go.RowKit Kn
set_option linter.unusedVariables false
set_option linter.unusedSimpArgs false
def validE (c : Cf) : Int := if validB c then 0 else 1
set_option maxHeartbeats 8000000 in
theorem valid_any (c : Cf) (w : World) :
    Calls Tryd.prog 9 #[c.v] w fun e w' => e = .returned (.int .i64 (validE c)) ∧ Below w.heap.size w w' := by
  obtain ⟨b0, hb0⟩ : ∃ b, sizedB c = b := ⟨_, rfl⟩
  have HB0 := Lib.hid hb0
  clear hb0
  obtain ⟨b1, hb1⟩ : ∃ b, timedB c = b := ⟨_, rfl⟩
  have HB1 := Lib.hid hb1
  clear hb1
  obtain ⟨b2, hb2⟩ : ∃ b, modeB c.hg c.lo c.dw = b := ⟨_, rfl⟩
  have HB2 := Lib.hid hb2
  clear hb2
  obtain ⟨b3, hb3⟩ : ∃ b, pidB c.kp c.ki c.kd c.lm c.st (mostW c) = b := ⟨_, rfl⟩
  have HB3 := Lib.hid hb3
  clear hb3
  go_enter Tryd.func9, Tryd.ntmps9
  go_upto_region 1 with fail
  refine wp_worldx (fun wx => Bxs w wx [(w.heap.size, 24, [.int .i64 c.ti, .int .i64 c.ro, .int .i64 c.ta, .int .i64 c.iv, .int .i64 c.hg, .int .i64 c.lo, .int .i64 c.dw, .int .i64 c.ho, .int .i64 c.sp, .int .i64 c.kp, .int .i64 c.ki, .int .i64 c.kd, .int .i64 c.lm, .int .i64 c.st, .int .i64 c.th, .int .i64 c.rg])]) ((Bxs.nil_ w).alloc_ _ _ (by simp)) ?_
  rintro x1 bx
  have BX := Lib.hid bx
  clear bx
  have p0_0 : x1.cell? ⟨w.heap.size, 0, none⟩ = some (.int .i64 c.ti) := (BX.out.bl 0 _ _ _ rfl).val rfl
  have p0_1 : x1.cell? ⟨w.heap.size, 1, none⟩ = some (.int .i64 c.ro) := (BX.out.bl 0 _ _ _ rfl).val rfl
  have p0_2 : x1.cell? ⟨w.heap.size, 2, none⟩ = some (.int .i64 c.ta) := (BX.out.bl 0 _ _ _ rfl).val rfl
  have p0_3 : x1.cell? ⟨w.heap.size, 3, none⟩ = some (.int .i64 c.iv) := (BX.out.bl 0 _ _ _ rfl).val rfl
  have p0_4 : x1.cell? ⟨w.heap.size, 4, none⟩ = some (.int .i64 c.hg) := (BX.out.bl 0 _ _ _ rfl).val rfl
  have p0_5 : x1.cell? ⟨w.heap.size, 5, none⟩ = some (.int .i64 c.lo) := (BX.out.bl 0 _ _ _ rfl).val rfl
  have p0_6 : x1.cell? ⟨w.heap.size, 6, none⟩ = some (.int .i64 c.dw) := (BX.out.bl 0 _ _ _ rfl).val rfl
  have p0_7 : x1.cell? ⟨w.heap.size, 7, none⟩ = some (.int .i64 c.ho) := (BX.out.bl 0 _ _ _ rfl).val rfl
  have p0_8 : x1.cell? ⟨w.heap.size, 8, none⟩ = some (.int .i64 c.sp) := (BX.out.bl 0 _ _ _ rfl).val rfl
  have p0_9 : x1.cell? ⟨w.heap.size, 9, none⟩ = some (.int .i64 c.kp) := (BX.out.bl 0 _ _ _ rfl).val rfl
  have p0_10 : x1.cell? ⟨w.heap.size, 10, none⟩ = some (.int .i64 c.ki) := (BX.out.bl 0 _ _ _ rfl).val rfl
  have p0_11 : x1.cell? ⟨w.heap.size, 11, none⟩ = some (.int .i64 c.kd) := (BX.out.bl 0 _ _ _ rfl).val rfl
  have p0_12 : x1.cell? ⟨w.heap.size, 12, none⟩ = some (.int .i64 c.lm) := (BX.out.bl 0 _ _ _ rfl).val rfl
  have p0_13 : x1.cell? ⟨w.heap.size, 13, none⟩ = some (.int .i64 c.st) := (BX.out.bl 0 _ _ _ rfl).val rfl
  have p0_14 : x1.cell? ⟨w.heap.size, 14, none⟩ = some (.int .i64 c.th) := (BX.out.bl 0 _ _ _ rfl).val rfl
  have p0_15 : x1.cell? ⟨w.heap.size, 15, none⟩ = some (.int .i64 c.rg) := (BX.out.bl 0 _ _ _ rfl).val rfl
  have z0 : ∀ k, x1.frozen? ⟨w.heap.size, k, none⟩ = false := (BX.out.bl 0 _ _ _ rfl).free
  have y0 : w.heap.size < x1.heap.size := (BX.out.bl 0 _ _ _ rfl).size
  go_wp2_with fail
  refine (sized_any c _).mono ?_
  rw [HB0.out]
  rintro e x2 ⟨rfl, hb⟩
  have bx : Bxs w x2 [(w.heap.size, 24, [.int .i64 c.ti, .int .i64 c.ro, .int .i64 c.ta, .int .i64 c.iv, .int .i64 c.hg, .int .i64 c.lo, .int .i64 c.dw, .int .i64 c.ho, .int .i64 c.sp, .int .i64 c.kp, .int .i64 c.ki, .int .i64 c.kd, .int .i64 c.lm, .int .i64 c.st, .int .i64 c.th, .int .i64 c.rg])] := (BX.out).below hb
  clear p0_0 p0_1 p0_2 p0_3 p0_4 p0_5 p0_6 p0_7 p0_8 p0_9 p0_10 p0_11 p0_12 p0_13 p0_14 p0_15 z0 y0
  clear hb BX
  have BX := Lib.hid bx
  clear bx
  have p0_0 : x2.cell? ⟨w.heap.size, 0, none⟩ = some (.int .i64 c.ti) := (BX.out.bl 0 _ _ _ rfl).val rfl
  have p0_1 : x2.cell? ⟨w.heap.size, 1, none⟩ = some (.int .i64 c.ro) := (BX.out.bl 0 _ _ _ rfl).val rfl
  have p0_2 : x2.cell? ⟨w.heap.size, 2, none⟩ = some (.int .i64 c.ta) := (BX.out.bl 0 _ _ _ rfl).val rfl
  have p0_3 : x2.cell? ⟨w.heap.size, 3, none⟩ = some (.int .i64 c.iv) := (BX.out.bl 0 _ _ _ rfl).val rfl
  have p0_4 : x2.cell? ⟨w.heap.size, 4, none⟩ = some (.int .i64 c.hg) := (BX.out.bl 0 _ _ _ rfl).val rfl
  have p0_5 : x2.cell? ⟨w.heap.size, 5, none⟩ = some (.int .i64 c.lo) := (BX.out.bl 0 _ _ _ rfl).val rfl
  have p0_6 : x2.cell? ⟨w.heap.size, 6, none⟩ = some (.int .i64 c.dw) := (BX.out.bl 0 _ _ _ rfl).val rfl
  have p0_7 : x2.cell? ⟨w.heap.size, 7, none⟩ = some (.int .i64 c.ho) := (BX.out.bl 0 _ _ _ rfl).val rfl
  have p0_8 : x2.cell? ⟨w.heap.size, 8, none⟩ = some (.int .i64 c.sp) := (BX.out.bl 0 _ _ _ rfl).val rfl
  have p0_9 : x2.cell? ⟨w.heap.size, 9, none⟩ = some (.int .i64 c.kp) := (BX.out.bl 0 _ _ _ rfl).val rfl
  have p0_10 : x2.cell? ⟨w.heap.size, 10, none⟩ = some (.int .i64 c.ki) := (BX.out.bl 0 _ _ _ rfl).val rfl
  have p0_11 : x2.cell? ⟨w.heap.size, 11, none⟩ = some (.int .i64 c.kd) := (BX.out.bl 0 _ _ _ rfl).val rfl
  have p0_12 : x2.cell? ⟨w.heap.size, 12, none⟩ = some (.int .i64 c.lm) := (BX.out.bl 0 _ _ _ rfl).val rfl
  have p0_13 : x2.cell? ⟨w.heap.size, 13, none⟩ = some (.int .i64 c.st) := (BX.out.bl 0 _ _ _ rfl).val rfl
  have p0_14 : x2.cell? ⟨w.heap.size, 14, none⟩ = some (.int .i64 c.th) := (BX.out.bl 0 _ _ _ rfl).val rfl
  have p0_15 : x2.cell? ⟨w.heap.size, 15, none⟩ = some (.int .i64 c.rg) := (BX.out.bl 0 _ _ _ rfl).val rfl
  have z0 : ∀ k, x2.frozen? ⟨w.heap.size, k, none⟩ = false := (BX.out.bl 0 _ _ _ rfl).free
  have y0 : w.heap.size < x2.heap.size := (BX.out.bl 0 _ _ _ rfl).size
  cases b0 with
  | false =>
    go_wp2_with fail
    refine bodyPost_ret (v := .int .i64 1) (by simp [results, Tryd.results9, go_sem, *]) rfl ⟨?_, BX.out.be⟩
    have hv : validB c = false := by unfold validB; simp [HB0.out]
    unfold validE; rw [hv]; rfl
  | true =>
    go_wp2_with fail
    refine (timed_any c _).mono ?_
    rw [HB1.out]
    rintro e x3 ⟨rfl, hb⟩
    have bx : Bxs w x3 [(w.heap.size, 24, [.int .i64 c.ti, .int .i64 c.ro, .int .i64 c.ta, .int .i64 c.iv, .int .i64 c.hg, .int .i64 c.lo, .int .i64 c.dw, .int .i64 c.ho, .int .i64 c.sp, .int .i64 c.kp, .int .i64 c.ki, .int .i64 c.kd, .int .i64 c.lm, .int .i64 c.st, .int .i64 c.th, .int .i64 c.rg])] := (BX.out).below hb
    clear p0_0 p0_1 p0_2 p0_3 p0_4 p0_5 p0_6 p0_7 p0_8 p0_9 p0_10 p0_11 p0_12 p0_13 p0_14 p0_15 z0 y0
    clear hb BX
    have BX := Lib.hid bx
    clear bx
    have p0_0 : x3.cell? ⟨w.heap.size, 0, none⟩ = some (.int .i64 c.ti) := (BX.out.bl 0 _ _ _ rfl).val rfl
    have p0_1 : x3.cell? ⟨w.heap.size, 1, none⟩ = some (.int .i64 c.ro) := (BX.out.bl 0 _ _ _ rfl).val rfl
    have p0_2 : x3.cell? ⟨w.heap.size, 2, none⟩ = some (.int .i64 c.ta) := (BX.out.bl 0 _ _ _ rfl).val rfl
    have p0_3 : x3.cell? ⟨w.heap.size, 3, none⟩ = some (.int .i64 c.iv) := (BX.out.bl 0 _ _ _ rfl).val rfl
    have p0_4 : x3.cell? ⟨w.heap.size, 4, none⟩ = some (.int .i64 c.hg) := (BX.out.bl 0 _ _ _ rfl).val rfl
    have p0_5 : x3.cell? ⟨w.heap.size, 5, none⟩ = some (.int .i64 c.lo) := (BX.out.bl 0 _ _ _ rfl).val rfl
    have p0_6 : x3.cell? ⟨w.heap.size, 6, none⟩ = some (.int .i64 c.dw) := (BX.out.bl 0 _ _ _ rfl).val rfl
    have p0_7 : x3.cell? ⟨w.heap.size, 7, none⟩ = some (.int .i64 c.ho) := (BX.out.bl 0 _ _ _ rfl).val rfl
    have p0_8 : x3.cell? ⟨w.heap.size, 8, none⟩ = some (.int .i64 c.sp) := (BX.out.bl 0 _ _ _ rfl).val rfl
    have p0_9 : x3.cell? ⟨w.heap.size, 9, none⟩ = some (.int .i64 c.kp) := (BX.out.bl 0 _ _ _ rfl).val rfl
    have p0_10 : x3.cell? ⟨w.heap.size, 10, none⟩ = some (.int .i64 c.ki) := (BX.out.bl 0 _ _ _ rfl).val rfl
    have p0_11 : x3.cell? ⟨w.heap.size, 11, none⟩ = some (.int .i64 c.kd) := (BX.out.bl 0 _ _ _ rfl).val rfl
    have p0_12 : x3.cell? ⟨w.heap.size, 12, none⟩ = some (.int .i64 c.lm) := (BX.out.bl 0 _ _ _ rfl).val rfl
    have p0_13 : x3.cell? ⟨w.heap.size, 13, none⟩ = some (.int .i64 c.st) := (BX.out.bl 0 _ _ _ rfl).val rfl
    have p0_14 : x3.cell? ⟨w.heap.size, 14, none⟩ = some (.int .i64 c.th) := (BX.out.bl 0 _ _ _ rfl).val rfl
    have p0_15 : x3.cell? ⟨w.heap.size, 15, none⟩ = some (.int .i64 c.rg) := (BX.out.bl 0 _ _ _ rfl).val rfl
    have z0 : ∀ k, x3.frozen? ⟨w.heap.size, k, none⟩ = false := (BX.out.bl 0 _ _ _ rfl).free
    have y0 : w.heap.size < x3.heap.size := (BX.out.bl 0 _ _ _ rfl).size
    cases b1 with
    | false =>
      go_wp2_with fail
      refine bodyPost_ret (v := .int .i64 1) (by simp [results, Tryd.results9, go_sem, *]) rfl ⟨?_, BX.out.be⟩
      have hv : validB c = false := by unfold validB; simp [HB0.out, HB1.out]
      unfold validE; rw [hv]; rfl
    | true =>
      go_wp2_with fail
      refine (cmode_any c _).mono ?_
      rintro e x4 ⟨rfl, hb⟩
      have bx : Bxs w x4 [(w.heap.size, 24, [.int .i64 c.ti, .int .i64 c.ro, .int .i64 c.ta, .int .i64 c.iv, .int .i64 c.hg, .int .i64 c.lo, .int .i64 c.dw, .int .i64 c.ho, .int .i64 c.sp, .int .i64 c.kp, .int .i64 c.ki, .int .i64 c.kd, .int .i64 c.lm, .int .i64 c.st, .int .i64 c.th, .int .i64 c.rg])] := (BX.out).below hb
      clear p0_0 p0_1 p0_2 p0_3 p0_4 p0_5 p0_6 p0_7 p0_8 p0_9 p0_10 p0_11 p0_12 p0_13 p0_14 p0_15 z0 y0
      clear hb BX
      have BX := Lib.hid bx
      clear bx
      have p0_0 : x4.cell? ⟨w.heap.size, 0, none⟩ = some (.int .i64 c.ti) := (BX.out.bl 0 _ _ _ rfl).val rfl
      have p0_1 : x4.cell? ⟨w.heap.size, 1, none⟩ = some (.int .i64 c.ro) := (BX.out.bl 0 _ _ _ rfl).val rfl
      have p0_2 : x4.cell? ⟨w.heap.size, 2, none⟩ = some (.int .i64 c.ta) := (BX.out.bl 0 _ _ _ rfl).val rfl
      have p0_3 : x4.cell? ⟨w.heap.size, 3, none⟩ = some (.int .i64 c.iv) := (BX.out.bl 0 _ _ _ rfl).val rfl
      have p0_4 : x4.cell? ⟨w.heap.size, 4, none⟩ = some (.int .i64 c.hg) := (BX.out.bl 0 _ _ _ rfl).val rfl
      have p0_5 : x4.cell? ⟨w.heap.size, 5, none⟩ = some (.int .i64 c.lo) := (BX.out.bl 0 _ _ _ rfl).val rfl
      have p0_6 : x4.cell? ⟨w.heap.size, 6, none⟩ = some (.int .i64 c.dw) := (BX.out.bl 0 _ _ _ rfl).val rfl
      have p0_7 : x4.cell? ⟨w.heap.size, 7, none⟩ = some (.int .i64 c.ho) := (BX.out.bl 0 _ _ _ rfl).val rfl
      have p0_8 : x4.cell? ⟨w.heap.size, 8, none⟩ = some (.int .i64 c.sp) := (BX.out.bl 0 _ _ _ rfl).val rfl
      have p0_9 : x4.cell? ⟨w.heap.size, 9, none⟩ = some (.int .i64 c.kp) := (BX.out.bl 0 _ _ _ rfl).val rfl
      have p0_10 : x4.cell? ⟨w.heap.size, 10, none⟩ = some (.int .i64 c.ki) := (BX.out.bl 0 _ _ _ rfl).val rfl
      have p0_11 : x4.cell? ⟨w.heap.size, 11, none⟩ = some (.int .i64 c.kd) := (BX.out.bl 0 _ _ _ rfl).val rfl
      have p0_12 : x4.cell? ⟨w.heap.size, 12, none⟩ = some (.int .i64 c.lm) := (BX.out.bl 0 _ _ _ rfl).val rfl
      have p0_13 : x4.cell? ⟨w.heap.size, 13, none⟩ = some (.int .i64 c.st) := (BX.out.bl 0 _ _ _ rfl).val rfl
      have p0_14 : x4.cell? ⟨w.heap.size, 14, none⟩ = some (.int .i64 c.th) := (BX.out.bl 0 _ _ _ rfl).val rfl
      have p0_15 : x4.cell? ⟨w.heap.size, 15, none⟩ = some (.int .i64 c.rg) := (BX.out.bl 0 _ _ _ rfl).val rfl
      have z0 : ∀ k, x4.frozen? ⟨w.heap.size, k, none⟩ = false := (BX.out.bl 0 _ _ _ rfl).free
      have y0 : w.heap.size < x4.heap.size := (BX.out.bl 0 _ _ _ rfl).size
      go_wp2_with fail
      refine (mright_any _ _ _ _).mono ?_
      rw [HB2.out]
      rintro e x5 ⟨rfl, hb⟩
      have bx : Bxs w x5 [(w.heap.size, 24, [.int .i64 c.ti, .int .i64 c.ro, .int .i64 c.ta, .int .i64 c.iv, .int .i64 c.hg, .int .i64 c.lo, .int .i64 c.dw, .int .i64 c.ho, .int .i64 c.sp, .int .i64 c.kp, .int .i64 c.ki, .int .i64 c.kd, .int .i64 c.lm, .int .i64 c.st, .int .i64 c.th, .int .i64 c.rg])] := (BX.out).below hb
      clear p0_0 p0_1 p0_2 p0_3 p0_4 p0_5 p0_6 p0_7 p0_8 p0_9 p0_10 p0_11 p0_12 p0_13 p0_14 p0_15 z0 y0
      clear hb BX
      have BX := Lib.hid bx
      clear bx
      have p0_0 : x5.cell? ⟨w.heap.size, 0, none⟩ = some (.int .i64 c.ti) := (BX.out.bl 0 _ _ _ rfl).val rfl
      have p0_1 : x5.cell? ⟨w.heap.size, 1, none⟩ = some (.int .i64 c.ro) := (BX.out.bl 0 _ _ _ rfl).val rfl
      have p0_2 : x5.cell? ⟨w.heap.size, 2, none⟩ = some (.int .i64 c.ta) := (BX.out.bl 0 _ _ _ rfl).val rfl
      have p0_3 : x5.cell? ⟨w.heap.size, 3, none⟩ = some (.int .i64 c.iv) := (BX.out.bl 0 _ _ _ rfl).val rfl
      have p0_4 : x5.cell? ⟨w.heap.size, 4, none⟩ = some (.int .i64 c.hg) := (BX.out.bl 0 _ _ _ rfl).val rfl
      have p0_5 : x5.cell? ⟨w.heap.size, 5, none⟩ = some (.int .i64 c.lo) := (BX.out.bl 0 _ _ _ rfl).val rfl
      have p0_6 : x5.cell? ⟨w.heap.size, 6, none⟩ = some (.int .i64 c.dw) := (BX.out.bl 0 _ _ _ rfl).val rfl
      have p0_7 : x5.cell? ⟨w.heap.size, 7, none⟩ = some (.int .i64 c.ho) := (BX.out.bl 0 _ _ _ rfl).val rfl
      have p0_8 : x5.cell? ⟨w.heap.size, 8, none⟩ = some (.int .i64 c.sp) := (BX.out.bl 0 _ _ _ rfl).val rfl
      have p0_9 : x5.cell? ⟨w.heap.size, 9, none⟩ = some (.int .i64 c.kp) := (BX.out.bl 0 _ _ _ rfl).val rfl
      have p0_10 : x5.cell? ⟨w.heap.size, 10, none⟩ = some (.int .i64 c.ki) := (BX.out.bl 0 _ _ _ rfl).val rfl
      have p0_11 : x5.cell? ⟨w.heap.size, 11, none⟩ = some (.int .i64 c.kd) := (BX.out.bl 0 _ _ _ rfl).val rfl
      have p0_12 : x5.cell? ⟨w.heap.size, 12, none⟩ = some (.int .i64 c.lm) := (BX.out.bl 0 _ _ _ rfl).val rfl
      have p0_13 : x5.cell? ⟨w.heap.size, 13, none⟩ = some (.int .i64 c.st) := (BX.out.bl 0 _ _ _ rfl).val rfl
      have p0_14 : x5.cell? ⟨w.heap.size, 14, none⟩ = some (.int .i64 c.th) := (BX.out.bl 0 _ _ _ rfl).val rfl
      have p0_15 : x5.cell? ⟨w.heap.size, 15, none⟩ = some (.int .i64 c.rg) := (BX.out.bl 0 _ _ _ rfl).val rfl
      have z0 : ∀ k, x5.frozen? ⟨w.heap.size, k, none⟩ = false := (BX.out.bl 0 _ _ _ rfl).free
      have y0 : w.heap.size < x5.heap.size := (BX.out.bl 0 _ _ _ rfl).size
      cases b2 with
      | false =>
        go_wp2_with fail
        refine bodyPost_ret (v := .int .i64 1) (by simp [results, Tryd.results9, go_sem, *]) rfl ⟨?_, BX.out.be⟩
        have hv : validB c = false := by unfold validB; simp [HB0.out, HB1.out, HB2.out]
        unfold validE; rw [hv]; rfl
      | true =>
        go_wp2_with fail
        refine (cpid_any c _).mono ?_
        rintro e x6 ⟨rfl, hb⟩
        have bx : Bxs w x6 [(w.heap.size, 24, [.int .i64 c.ti, .int .i64 c.ro, .int .i64 c.ta, .int .i64 c.iv, .int .i64 c.hg, .int .i64 c.lo, .int .i64 c.dw, .int .i64 c.ho, .int .i64 c.sp, .int .i64 c.kp, .int .i64 c.ki, .int .i64 c.kd, .int .i64 c.lm, .int .i64 c.st, .int .i64 c.th, .int .i64 c.rg])] := (BX.out).below hb
        clear p0_0 p0_1 p0_2 p0_3 p0_4 p0_5 p0_6 p0_7 p0_8 p0_9 p0_10 p0_11 p0_12 p0_13 p0_14 p0_15 z0 y0
        clear hb BX
        have BX := Lib.hid bx
        clear bx
        have p0_0 : x6.cell? ⟨w.heap.size, 0, none⟩ = some (.int .i64 c.ti) := (BX.out.bl 0 _ _ _ rfl).val rfl
        have p0_1 : x6.cell? ⟨w.heap.size, 1, none⟩ = some (.int .i64 c.ro) := (BX.out.bl 0 _ _ _ rfl).val rfl
        have p0_2 : x6.cell? ⟨w.heap.size, 2, none⟩ = some (.int .i64 c.ta) := (BX.out.bl 0 _ _ _ rfl).val rfl
        have p0_3 : x6.cell? ⟨w.heap.size, 3, none⟩ = some (.int .i64 c.iv) := (BX.out.bl 0 _ _ _ rfl).val rfl
        have p0_4 : x6.cell? ⟨w.heap.size, 4, none⟩ = some (.int .i64 c.hg) := (BX.out.bl 0 _ _ _ rfl).val rfl
        have p0_5 : x6.cell? ⟨w.heap.size, 5, none⟩ = some (.int .i64 c.lo) := (BX.out.bl 0 _ _ _ rfl).val rfl
        have p0_6 : x6.cell? ⟨w.heap.size, 6, none⟩ = some (.int .i64 c.dw) := (BX.out.bl 0 _ _ _ rfl).val rfl
        have p0_7 : x6.cell? ⟨w.heap.size, 7, none⟩ = some (.int .i64 c.ho) := (BX.out.bl 0 _ _ _ rfl).val rfl
        have p0_8 : x6.cell? ⟨w.heap.size, 8, none⟩ = some (.int .i64 c.sp) := (BX.out.bl 0 _ _ _ rfl).val rfl
        have p0_9 : x6.cell? ⟨w.heap.size, 9, none⟩ = some (.int .i64 c.kp) := (BX.out.bl 0 _ _ _ rfl).val rfl
        have p0_10 : x6.cell? ⟨w.heap.size, 10, none⟩ = some (.int .i64 c.ki) := (BX.out.bl 0 _ _ _ rfl).val rfl
        have p0_11 : x6.cell? ⟨w.heap.size, 11, none⟩ = some (.int .i64 c.kd) := (BX.out.bl 0 _ _ _ rfl).val rfl
        have p0_12 : x6.cell? ⟨w.heap.size, 12, none⟩ = some (.int .i64 c.lm) := (BX.out.bl 0 _ _ _ rfl).val rfl
        have p0_13 : x6.cell? ⟨w.heap.size, 13, none⟩ = some (.int .i64 c.st) := (BX.out.bl 0 _ _ _ rfl).val rfl
        have p0_14 : x6.cell? ⟨w.heap.size, 14, none⟩ = some (.int .i64 c.th) := (BX.out.bl 0 _ _ _ rfl).val rfl
        have p0_15 : x6.cell? ⟨w.heap.size, 15, none⟩ = some (.int .i64 c.rg) := (BX.out.bl 0 _ _ _ rfl).val rfl
        have z0 : ∀ k, x6.frozen? ⟨w.heap.size, k, none⟩ = false := (BX.out.bl 0 _ _ _ rfl).free
        have y0 : w.heap.size < x6.heap.size := (BX.out.bl 0 _ _ _ rfl).size
        go_wp2_with fail
        refine (pright_any _ _ _ _ _ _ _ _).mono ?_
        rw [HB3.out]
        rintro e x7 ⟨rfl, hb⟩
        have bx : Bxs w x7 [(w.heap.size, 24, [.int .i64 c.ti, .int .i64 c.ro, .int .i64 c.ta, .int .i64 c.iv, .int .i64 c.hg, .int .i64 c.lo, .int .i64 c.dw, .int .i64 c.ho, .int .i64 c.sp, .int .i64 c.kp, .int .i64 c.ki, .int .i64 c.kd, .int .i64 c.lm, .int .i64 c.st, .int .i64 c.th, .int .i64 c.rg])] := (BX.out).below hb
        clear p0_0 p0_1 p0_2 p0_3 p0_4 p0_5 p0_6 p0_7 p0_8 p0_9 p0_10 p0_11 p0_12 p0_13 p0_14 p0_15 z0 y0
        clear hb BX
        have BX := Lib.hid bx
        clear bx
        have p0_0 : x7.cell? ⟨w.heap.size, 0, none⟩ = some (.int .i64 c.ti) := (BX.out.bl 0 _ _ _ rfl).val rfl
        have p0_1 : x7.cell? ⟨w.heap.size, 1, none⟩ = some (.int .i64 c.ro) := (BX.out.bl 0 _ _ _ rfl).val rfl
        have p0_2 : x7.cell? ⟨w.heap.size, 2, none⟩ = some (.int .i64 c.ta) := (BX.out.bl 0 _ _ _ rfl).val rfl
        have p0_3 : x7.cell? ⟨w.heap.size, 3, none⟩ = some (.int .i64 c.iv) := (BX.out.bl 0 _ _ _ rfl).val rfl
        have p0_4 : x7.cell? ⟨w.heap.size, 4, none⟩ = some (.int .i64 c.hg) := (BX.out.bl 0 _ _ _ rfl).val rfl
        have p0_5 : x7.cell? ⟨w.heap.size, 5, none⟩ = some (.int .i64 c.lo) := (BX.out.bl 0 _ _ _ rfl).val rfl
        have p0_6 : x7.cell? ⟨w.heap.size, 6, none⟩ = some (.int .i64 c.dw) := (BX.out.bl 0 _ _ _ rfl).val rfl
        have p0_7 : x7.cell? ⟨w.heap.size, 7, none⟩ = some (.int .i64 c.ho) := (BX.out.bl 0 _ _ _ rfl).val rfl
        have p0_8 : x7.cell? ⟨w.heap.size, 8, none⟩ = some (.int .i64 c.sp) := (BX.out.bl 0 _ _ _ rfl).val rfl
        have p0_9 : x7.cell? ⟨w.heap.size, 9, none⟩ = some (.int .i64 c.kp) := (BX.out.bl 0 _ _ _ rfl).val rfl
        have p0_10 : x7.cell? ⟨w.heap.size, 10, none⟩ = some (.int .i64 c.ki) := (BX.out.bl 0 _ _ _ rfl).val rfl
        have p0_11 : x7.cell? ⟨w.heap.size, 11, none⟩ = some (.int .i64 c.kd) := (BX.out.bl 0 _ _ _ rfl).val rfl
        have p0_12 : x7.cell? ⟨w.heap.size, 12, none⟩ = some (.int .i64 c.lm) := (BX.out.bl 0 _ _ _ rfl).val rfl
        have p0_13 : x7.cell? ⟨w.heap.size, 13, none⟩ = some (.int .i64 c.st) := (BX.out.bl 0 _ _ _ rfl).val rfl
        have p0_14 : x7.cell? ⟨w.heap.size, 14, none⟩ = some (.int .i64 c.th) := (BX.out.bl 0 _ _ _ rfl).val rfl
        have p0_15 : x7.cell? ⟨w.heap.size, 15, none⟩ = some (.int .i64 c.rg) := (BX.out.bl 0 _ _ _ rfl).val rfl
        have z0 : ∀ k, x7.frozen? ⟨w.heap.size, k, none⟩ = false := (BX.out.bl 0 _ _ _ rfl).free
        have y0 : w.heap.size < x7.heap.size := (BX.out.bl 0 _ _ _ rfl).size
        cases b3 with
        | false =>
          go_wp2_with fail
          refine bodyPost_ret (v := .int .i64 1) (by simp [results, Tryd.results9, go_sem, *]) rfl ⟨?_, BX.out.be⟩
          have hv : validB c = false := by unfold validB; simp [HB0.out, HB1.out, HB2.out, HB3.out]
          unfold validE; rw [hv]; rfl
        | true =>
          go_wp2_with fail
          refine bodyPost_ret (v := .int .i64 0) (by simp [results, Tryd.results9, go_sem, *]) rfl ⟨?_, BX.out.be⟩
          have hv : validB c = true := by unfold validB; simp [HB0.out, HB1.out, HB2.out, HB3.out]
          unfold validE; rw [hv]; rfl
end Go.Proofs.YtbajmmgdnegoiaaDoor
