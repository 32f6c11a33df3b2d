/- Texts of this claim, one behind the other: Cnp. -/
import Derived.Test.YtcffeokbipjaoaaGreatMuas
namespace Go.Proofs.YtcffeokbipjaoaaGreat
open Go.ChangeShapes Go.WideShapes Go.ChangeAt Go.RowKit Kn
set_option maxRecDepth 100000
set_option linter.unusedVariables false
set_option linter.unusedSimpArgs false
set_option maxHeartbeats 20000000 in
theorem cpid_any (c : Cf) (w : World) :
   Calls Tryz.prog 68 #[c.v] w fun e w' => e = .returned (.agg #[.int .i64 c.sp, .int .i64 c.kp, .int .i64 c.ki, .int .i64 c.kd, .int .i64 c.lm, .int .i64 c.st, .int .i64 (mostW c)]) ∧ Below w.heap.size w w' := by
 go_enter Tryz.func68, Tryz.ntmps68
 go_upto_region 1 with fail
 refine wp_worldx (fun wx => Bxs w wx [(w.heap.size, 24, [.int .i64 c.ti, .int .i64 c.ro, .int .i64 c.ta, .int .i64 c.iv, .int .i64 c.hg, .int .i64 c.lo, .int .i64 c.dw, .int .i64 c.ho, .int .i64 c.sp, .int .i64 c.kp, .int .i64 c.ki, .int .i64 c.kd, .int .i64 c.lm, .int .i64 c.st, .int .i64 c.th, .int .i64 c.rg]), (w.heap.size + 1, 139, [.int .i64 0, .int .i64 0, .int .i64 0, .int .i64 0, .int .i64 0, .int .i64 0, .int .i64 0])]) (((Bxs.nil_ w).alloc_ _ _ (by simp)).alloc_ _ _ (by simp)) ?_
 rintro x1 bx
 have BX := Lib.hid bx
 clear bx
 obtain ⟨p0_0, p0_1, p0_2, p0_3, p0_4, p0_5, p0_6, p0_7, p0_8, p0_9, p0_10, p0_11, p0_12, p0_13, p0_14, p0_15, z0, y0⟩ := bl16 (BX.out.bl 0 _ _ _ rfl)
 obtain ⟨p1_0, p1_1, p1_2, p1_3, p1_4, p1_5, p1_6, z1, y1⟩ := bl7 (BX.out.bl 1 _ _ _ rfl)
 refine wp_region_noPanic ?_
 refine wp_region_held_drew (S := (fun w' => w'.cell? ⟨w.heap.size, 0, none⟩ = some (.int .i64 c.ti) ∧ w'.cell? ⟨w.heap.size, 1, none⟩ = some (.int .i64 c.ro) ∧ w'.cell? ⟨w.heap.size, 2, none⟩ = some (.int .i64 c.ta) ∧ w'.cell? ⟨w.heap.size, 3, none⟩ = some (.int .i64 c.iv) ∧ w'.cell? ⟨w.heap.size, 4, none⟩ = some (.int .i64 c.hg) ∧ w'.cell? ⟨w.heap.size, 5, none⟩ = some (.int .i64 c.lo) ∧ w'.cell? ⟨w.heap.size, 6, none⟩ = some (.int .i64 c.dw) ∧ w'.cell? ⟨w.heap.size, 7, none⟩ = some (.int .i64 c.ho) ∧ w'.cell? ⟨w.heap.size, 8, none⟩ = some (.int .i64 c.sp) ∧ w'.cell? ⟨w.heap.size, 9, none⟩ = some (.int .i64 c.kp) ∧ w'.cell? ⟨w.heap.size, 10, none⟩ = some (.int .i64 c.ki) ∧ w'.cell? ⟨w.heap.size, 11, none⟩ = some (.int .i64 c.kd) ∧ w'.cell? ⟨w.heap.size, 12, none⟩ = some (.int .i64 c.lm) ∧ w'.cell? ⟨w.heap.size, 13, none⟩ = some (.int .i64 c.st) ∧ w'.cell? ⟨w.heap.size, 14, none⟩ = some (.int .i64 c.th) ∧ w'.cell? ⟨w.heap.size, 15, none⟩ = some (.int .i64 c.rg))) (by kernel_rfl) (by (repeat (first | with_reducible assumption | refine ⟨?_, ?_⟩ | with_reducible refine kdrew ?_ | exact (BX.out.bl 0 _ _ _ rfl).val rfl))) (fun hHeld => ?_)
 refine wpAnyH_take (i := 0) (v := ?_) rfl (by kernel_rfl) (by kernel_rfl) (by kernel_rfl) (fun _ _ _ h => h) (Or.inl ⟨by rfl, ?_⟩) (by assumption) ?_
 rotate_left
 · (intro wS hSw; (try dsimp only at hSw); (first | (go_simp; done) | (go_simp; with_reducible rfl)))
 try simp only [Act.put, List.getElem_toArray, List.getElem_cons_zero, List.getElem_cons_succ, List.setIfInBounds_toArray, List.set_cons_zero, List.set_cons_succ]
 refine wpAnyH_take (i := 1) (v := ?_) rfl (by kernel_rfl) (by kernel_rfl) (by kernel_rfl) (fun _ _ _ h => h) (Or.inl ⟨by rfl, ?_⟩) (by assumption) ?_
 rotate_left
 · (intro wS hSw; (try dsimp only at hSw); (first | (go_simp; done) | (go_simp; with_reducible rfl)))
 try simp only [Act.put, List.getElem_toArray, List.getElem_cons_zero, List.getElem_cons_succ, List.setIfInBounds_toArray, List.set_cons_zero, List.set_cons_succ]
 refine wpAnyH_take (i := 2) (v := ?_) rfl (by kernel_rfl) (by kernel_rfl) (by kernel_rfl) (fun _ _ _ h => h) (Or.inl ⟨by rfl, ?_⟩) (by assumption) ?_
 rotate_left
 · (intro wS hSw; (try dsimp only at hSw); (first | (go_simp; done) | (go_simp; with_reducible rfl)))
 try simp only [Act.put, List.getElem_toArray, List.getElem_cons_zero, List.getElem_cons_succ, List.setIfInBounds_toArray, List.set_cons_zero, List.set_cons_succ]
 refine wpAnyH_take (i := 3) (v := ?_) rfl (by kernel_rfl) (by kernel_rfl) (by kernel_rfl) (fun _ _ _ h => h) (Or.inl ⟨by rfl, ?_⟩) (by assumption) ?_
 rotate_left
 · (intro wS hSw; (try dsimp only at hSw); (first | (go_simp; done) | (go_simp; with_reducible rfl)))
 try simp only [Act.put, List.getElem_toArray, List.getElem_cons_zero, List.getElem_cons_succ, List.setIfInBounds_toArray, List.set_cons_zero, List.set_cons_succ]
 refine wpAnyH_take (i := 4) (v := ?_) rfl (by kernel_rfl) (by kernel_rfl) (by kernel_rfl) (fun _ _ _ h => h) (Or.inl ⟨by rfl, ?_⟩) (by assumption) ?_
 rotate_left
 · (intro wS hSw; (try dsimp only at hSw); (first | (go_simp; done) | (go_simp; with_reducible rfl)))
 try simp only [Act.put, List.getElem_toArray, List.getElem_cons_zero, List.getElem_cons_succ, List.setIfInBounds_toArray, List.set_cons_zero, List.set_cons_succ]
 refine wpAnyH_take (i := 5) (v := ?_) rfl (by kernel_rfl) (by kernel_rfl) (by kernel_rfl) (fun _ _ _ h => h) (Or.inl ⟨by rfl, ?_⟩) (by assumption) ?_
 rotate_left
 · (intro wS hSw; (try dsimp only at hSw); (first | (go_simp; done) | (go_simp; with_reducible rfl)))
 try simp only [Act.put, List.getElem_toArray, List.getElem_cons_zero, List.getElem_cons_succ, List.setIfInBounds_toArray, List.set_cons_zero, List.set_cons_succ]
 refine wpAnyH_take (i := 6) (v := ?_) rfl (by kernel_rfl) (by kernel_rfl) (by kernel_rfl) (fun _ _ _ h => h) (Or.inl ⟨by rfl, ?_⟩) (by assumption) ?_
 rotate_left
 · (intro wS hSw; (try dsimp only at hSw); (first | (go_simp; done) | (go_simp; with_reducible rfl)))
 try simp only [Act.put, List.getElem_toArray, List.getElem_cons_zero, List.getElem_cons_succ, List.setIfInBounds_toArray, List.set_cons_zero, List.set_cons_succ]
 refine wpAnyH_take (i := 7) (v := ?_) rfl (by kernel_rfl) (by kernel_rfl) (by kernel_rfl) (fun _ _ _ h => h) (Or.inl ⟨by rfl, ?_⟩) (by assumption) ?_
 rotate_left
 · (intro wS hSw; (try dsimp only at hSw); (first | (go_simp; done) | (go_simp; with_reducible rfl)))
 try simp only [Act.put, List.getElem_toArray, List.getElem_cons_zero, List.getElem_cons_succ, List.setIfInBounds_toArray, List.set_cons_zero, List.set_cons_succ]
 refine wpAnyH_take (i := 8) (v := ?_) rfl (by kernel_rfl) (by kernel_rfl) (by kernel_rfl) (fun _ _ _ h => h) (Or.inl ⟨by rfl, ?_⟩) (by assumption) ?_
 rotate_left
 · (intro wS hSw; (try dsimp only at hSw); (first | (go_simp; done) | (go_simp; with_reducible rfl)))
 try simp only [Act.put, List.getElem_toArray, List.getElem_cons_zero, List.getElem_cons_succ, List.setIfInBounds_toArray, List.set_cons_zero, List.set_cons_succ]
 refine wpAnyH_take (i := 9) (v := ?_) rfl (by kernel_rfl) (by kernel_rfl) (by kernel_rfl) (fun _ _ _ h => h) (Or.inl ⟨by rfl, ?_⟩) (by assumption) ?_
 rotate_left
 · (intro wS hSw; (try dsimp only at hSw); (first | (go_simp; done) | (go_simp; with_reducible rfl)))
 try simp only [Act.put, List.getElem_toArray, List.getElem_cons_zero, List.getElem_cons_succ, List.setIfInBounds_toArray, List.set_cons_zero, List.set_cons_succ]
 refine wpAnyH_take (i := 10) (v := ?_) rfl (by kernel_rfl) (by kernel_rfl) (by kernel_rfl) (fun _ _ _ h => h) (Or.inl ⟨by rfl, ?_⟩) (by assumption) ?_
 rotate_left
 · (intro wS hSw; (try dsimp only at hSw); (first | (go_simp; done) | (go_simp; with_reducible rfl)))
 try simp only [Act.put, List.getElem_toArray, List.getElem_cons_zero, List.getElem_cons_succ, List.setIfInBounds_toArray, List.set_cons_zero, List.set_cons_succ]
 refine wpAnyH_take (i := 11) (v := ?_) rfl (by kernel_rfl) (by kernel_rfl) (by kernel_rfl) (fun _ _ _ h => h) (Or.inl ⟨by rfl, ?_⟩) (by assumption) ?_
 rotate_left
 · (intro wS hSw; (try dsimp only at hSw); (first | (go_simp; done) | (go_simp; with_reducible rfl)))
 try simp only [Act.put, List.getElem_toArray, List.getElem_cons_zero, List.getElem_cons_succ, List.setIfInBounds_toArray, List.set_cons_zero, List.set_cons_succ]
 refine wpAnyH_take (i := 12) (v := ?_) rfl (by kernel_rfl) (by kernel_rfl) (by kernel_rfl) (fun _ _ _ h => h) (Or.inl ⟨by rfl, ?_⟩) (by assumption) ?_
 rotate_left
 · (intro wS hSw; (try dsimp only at hSw); (first | (go_simp; done) | (go_simp; with_reducible rfl)))
 try simp only [Act.put, List.getElem_toArray, List.getElem_cons_zero, List.getElem_cons_succ, List.setIfInBounds_toArray, List.set_cons_zero, List.set_cons_succ]
 refine wpAnyH_ready (rs := [13]) (by kernel_rfl) (by simp) ?_
 refine AllReadyH.cons rfl (fun K hK => ?_) AllReadyH.nil
 rw [if_pos (by rfl)]
 refine wp_enter (by go_simp; exact ⟨rfl, rfl⟩) ?_
 refine (cmost_any_Cnf c _).mono ?_
 rintro e wm ⟨rfl, hm⟩
 replace BX := Lib.hid (show Bxs w wm [(w.heap.size, 24, [.int .i64 c.ti, .int .i64 c.ro, .int .i64 c.ta, .int .i64 c.iv, .int .i64 c.hg, .int .i64 c.lo, .int .i64 c.dw, .int .i64 c.ho, .int .i64 c.sp, .int .i64 c.kp, .int .i64 c.ki, .int .i64 c.kd, .int .i64 c.lm, .int .i64 c.st, .int .i64 c.th, .int .i64 c.rg]), (w.heap.size + 1, 139, [.int .i64 0, .int .i64 0, .int .i64 0, .int .i64 0, .int .i64 0, .int .i64 0, .int .i64 0])] from by first | with_reducible exact BX.out.below hm | with_reducible exact BX.out.drew_.below hm | with_reducible exact (BX.out.drewN_ _).below hm | with_reducible exact BX.out.drew_.drew_.below hm | with_reducible exact BX.out.drew_.drew_.drew_.below hm)
 clear hm
 clear p0_0 p0_1 p0_2 p0_3 p0_4 p0_5 p0_6 p0_7 p0_8 p0_9 p0_10 p0_11 p0_12 p0_13 p0_14 p0_15 z0 y0 p1_0 p1_1 p1_2 p1_3 p1_4 p1_5 p1_6 z1 y1
 refine ⟨_, rfl, ?_⟩
 refine hK.out _ _ (by (repeat (first | with_reducible assumption | refine ⟨?_, ?_⟩ | with_reducible refine kdrew ?_ | exact (BX.out.bl 0 _ _ _ rfl).val rfl))) (fun hHeld => ?_)
 clear hK K
 try simp only [Act.put, List.getElem_toArray, List.getElem_cons_zero, List.getElem_cons_succ, List.setIfInBounds_toArray, List.set_cons_zero, List.set_cons_succ]
 refine wpAnyH_take (i := 14) (v := ?_) rfl (by kernel_rfl) (by kernel_rfl) (by kernel_rfl) (fun _ _ _ h => h) (Or.inl ⟨by rfl, ?_⟩) (by assumption) ?_
 rotate_left
 · (intro wS hSw; (try dsimp only at hSw); (first | (go_simp; done) | (go_simp; with_reducible rfl)))
 try simp only [Act.put, List.getElem_toArray, List.getElem_cons_zero, List.getElem_cons_succ, List.setIfInBounds_toArray, List.set_cons_zero, List.set_cons_succ]
 have zz := (BX.out.bl 1 _ _ _ rfl).free
 have yy := (BX.out.bl 1 _ _ _ rfl).size
 have q0 : wm.cell? ⟨w.heap.size + 1, 0, none⟩ = some (.int .i64 0) := (BX.out.bl 1 _ _ _ rfl).val rfl
 have q1 : wm.cell? ⟨w.heap.size + 1, 1, none⟩ = some (.int .i64 0) := (BX.out.bl 1 _ _ _ rfl).val rfl
 have q2 : wm.cell? ⟨w.heap.size + 1, 2, none⟩ = some (.int .i64 0) := (BX.out.bl 1 _ _ _ rfl).val rfl
 have q3 : wm.cell? ⟨w.heap.size + 1, 3, none⟩ = some (.int .i64 0) := (BX.out.bl 1 _ _ _ rfl).val rfl
 have q4 : wm.cell? ⟨w.heap.size + 1, 4, none⟩ = some (.int .i64 0) := (BX.out.bl 1 _ _ _ rfl).val rfl
 have q5 : wm.cell? ⟨w.heap.size + 1, 5, none⟩ = some (.int .i64 0) := (BX.out.bl 1 _ _ _ rfl).val rfl
 have q6 : wm.cell? ⟨w.heap.size + 1, 6, none⟩ = some (.int .i64 0) := (BX.out.bl 1 _ _ _ rfl).val rfl
 refine wpAnyH_ready (rs := [15]) (by kernel_rfl) (by simp) ?_
 refine AllReadyH.cons rfl (fun K hK => ?_) AllReadyH.nil
 rw [if_pos (by rfl)]
 go_simp
 have BY := (((((((BX.out).set_ 1 0 rfl (.int .i64 c.sp)).set_ 1 1 rfl (.int .i64 c.kp)).set_ 1 2 rfl (.int .i64 c.ki)).set_ 1 3 rfl (.int .i64 c.kd)).set_ 1 4 rfl (.int .i64 c.lm)).set_ 1 5 rfl (.int .i64 c.st)).set_ 1 6 rfl (.int .i64 (mostW c))
 refine hK.out _ _ (by (repeat (first | refine ⟨?_, ?_⟩ | with_reducible refine kdrew ?_ | exact (BY.bl 0 _ _ _ rfl).val rfl))) (fun hHeld => ?_)
 refine wpAnyH_done (by kernel_rfl) ?_ _
 refine NoPanic.normal ?_
 go_wp2_with fail
 refine bodyPost_ret (v := .agg #[.int .i64 c.sp, .int .i64 c.kp, .int .i64 c.ki, .int .i64 c.kd, .int .i64 c.lm, .int .i64 c.st, .int .i64 (mostW c)]) (by simp [results, Tryz.results68, go_sem, *]) rfl ⟨rfl, ?_⟩
 exact BY.be
end Go.Proofs.YtcffeokbipjaoaaGreat
