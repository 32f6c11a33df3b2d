/- Pid: what the laws do with states and params; the example. -/
import Derived.Test.YtfbkimhblfpibaaPidb
import Derived.Deep.DeepCutAuto
import Derived.Deep.RegionHeld3
import Derived.BigQuiet
import Derived.Deep.QuietTactic
namespace Go.Proofs.Ytfbkimhblfpibaa
open Go.ChangeShapes Go.WideShapes Go.ChangeAt Go.RowKit Kn
set_option linter.unusedVariables false
set_option linter.unusedSimpArgs false
set_option maxRecDepth 100000 in
set_option maxHeartbeats 2000000 in
theorem pstate_any (su la le : Int) (w : World) :
    Calls Try.prog 9 #[.agg #[.int .i64 su, .int .i64 la, .int .i64 le]] w fun e w' => e = .returned (.agg #[.int .i64 su, .int .i64 la, .int .i64 le]) ∧ Below w.heap.size w w' := by
  go_enter Try.func9, Try.ntmps9
  go_upto_region 1 with fail
  refine wp_worldx (fun wx => Bxs w wx [(w.heap.size, 24, [.int .i64 su, .int .i64 la, .int .i64 le]), (w.heap.size + 1, 30, [.int .i64 0, .int .i64 0, .int .i64 0])]) (((Bxs.nil_ w).alloc_ _ _ (by simp)).alloc_ _ _ (by simp)) ?_
  rintro x1 bx
  have BX := Lib.hid bx
  clear bx
  have p0_0 : x1.cell? ⟨w.heap.size, 0, none⟩ = some (.int .i64 su) := (BX.out.bl 0 _ _ _ rfl).val rfl
  have p0_1 : x1.cell? ⟨w.heap.size, 1, none⟩ = some (.int .i64 la) := (BX.out.bl 0 _ _ _ rfl).val rfl
  have p0_2 : x1.cell? ⟨w.heap.size, 2, none⟩ = some (.int .i64 le) := (BX.out.bl 0 _ _ _ rfl).val rfl
  have z0 : ∀ k, x1.frozen? ⟨w.heap.size, k, none⟩ = false := (BX.out.bl 0 _ _ _ rfl).free
  have y0 : w.heap.size < x1.heap.size := (BX.out.bl 0 _ _ _ rfl).size
  have p1_0 : x1.cell? ⟨w.heap.size + 1, 0, none⟩ = some (.int .i64 0) := (BX.out.bl 1 _ _ _ rfl).val rfl
  have p1_1 : x1.cell? ⟨w.heap.size + 1, 1, none⟩ = some (.int .i64 0) := (BX.out.bl 1 _ _ _ rfl).val rfl
  have p1_2 : x1.cell? ⟨w.heap.size + 1, 2, none⟩ = some (.int .i64 0) := (BX.out.bl 1 _ _ _ rfl).val rfl
  have z1 : ∀ k, x1.frozen? ⟨w.heap.size + 1, k, none⟩ = false := (BX.out.bl 1 _ _ _ rfl).free
  have y1 : w.heap.size + 1 < x1.heap.size := (BX.out.bl 1 _ _ _ rfl).size
  go_wp2_with fail
  refine bodyPost_ret (v := .agg #[.int .i64 su, .int .i64 la, .int .i64 le]) (by simp [results, Try.results9, go_sem, *]) rfl ⟨rfl, ?_⟩
  exact ((((BX.out).set_ 1 0 rfl _).set_ 1 1 rfl _).set_ 1 2 rfl _).be
set_option maxRecDepth 100000 in
set_option maxHeartbeats 2000000 in
theorem pown_any (sp kp ki kd li st mo : Int) (w : World) :
    Calls Try.prog 13 #[.agg #[.int .i64 sp, .int .i64 kp, .int .i64 ki, .int .i64 kd, .int .i64 li, .int .i64 st, .int .i64 mo]] w fun e w' => e = .returned (.agg #[.int .i64 sp, .int .i64 kp, .int .i64 ki, .int .i64 kd, .int .i64 li, .int .i64 st, .int .i64 mo]) ∧ Below w.heap.size w w' := by
  go_enter Try.func13, Try.ntmps13
  go_upto_region 1 with fail
  refine wp_worldx (fun wx => Bxs w wx [(w.heap.size, 26, [.int .i64 sp, .int .i64 kp, .int .i64 ki, .int .i64 kd, .int .i64 li, .int .i64 st, .int .i64 mo]), (w.heap.size + 1, 36, [.int .i64 0, .int .i64 0, .int .i64 0, .int .i64 0, .int .i64 0, .int .i64 0, .int .i64 0])]) (((Bxs.nil_ w).alloc_ _ _ (by simp)).alloc_ _ _ (by simp)) ?_
  rintro x1 bx
  have BX := Lib.hid bx
  clear bx
  have p0_0 : x1.cell? ⟨w.heap.size, 0, none⟩ = some (.int .i64 sp) := (BX.out.bl 0 _ _ _ rfl).val rfl
  have p0_1 : x1.cell? ⟨w.heap.size, 1, none⟩ = some (.int .i64 kp) := (BX.out.bl 0 _ _ _ rfl).val rfl
  have p0_2 : x1.cell? ⟨w.heap.size, 2, none⟩ = some (.int .i64 ki) := (BX.out.bl 0 _ _ _ rfl).val rfl
  have p0_3 : x1.cell? ⟨w.heap.size, 3, none⟩ = some (.int .i64 kd) := (BX.out.bl 0 _ _ _ rfl).val rfl
  have p0_4 : x1.cell? ⟨w.heap.size, 4, none⟩ = some (.int .i64 li) := (BX.out.bl 0 _ _ _ rfl).val rfl
  have p0_5 : x1.cell? ⟨w.heap.size, 5, none⟩ = some (.int .i64 st) := (BX.out.bl 0 _ _ _ rfl).val rfl
  have p0_6 : x1.cell? ⟨w.heap.size, 6, none⟩ = some (.int .i64 mo) := (BX.out.bl 0 _ _ _ rfl).val rfl
  have z0 : ∀ k, x1.frozen? ⟨w.heap.size, k, none⟩ = false := (BX.out.bl 0 _ _ _ rfl).free
  have y0 : w.heap.size < x1.heap.size := (BX.out.bl 0 _ _ _ rfl).size
  have p1_0 : x1.cell? ⟨w.heap.size + 1, 0, none⟩ = some (.int .i64 0) := (BX.out.bl 1 _ _ _ rfl).val rfl
  have p1_1 : x1.cell? ⟨w.heap.size + 1, 1, none⟩ = some (.int .i64 0) := (BX.out.bl 1 _ _ _ rfl).val rfl
  have p1_2 : x1.cell? ⟨w.heap.size + 1, 2, none⟩ = some (.int .i64 0) := (BX.out.bl 1 _ _ _ rfl).val rfl
  have p1_3 : x1.cell? ⟨w.heap.size + 1, 3, none⟩ = some (.int .i64 0) := (BX.out.bl 1 _ _ _ rfl).val rfl
  have p1_4 : x1.cell? ⟨w.heap.size + 1, 4, none⟩ = some (.int .i64 0) := (BX.out.bl 1 _ _ _ rfl).val rfl
  have p1_5 : x1.cell? ⟨w.heap.size + 1, 5, none⟩ = some (.int .i64 0) := (BX.out.bl 1 _ _ _ rfl).val rfl
  have p1_6 : x1.cell? ⟨w.heap.size + 1, 6, none⟩ = some (.int .i64 0) := (BX.out.bl 1 _ _ _ rfl).val rfl
  have z1 : ∀ k, x1.frozen? ⟨w.heap.size + 1, k, none⟩ = false := (BX.out.bl 1 _ _ _ rfl).free
  have y1 : w.heap.size + 1 < x1.heap.size := (BX.out.bl 1 _ _ _ rfl).size
  go_wp2_with fail
  refine bodyPost_ret (v := .agg #[.int .i64 sp, .int .i64 kp, .int .i64 ki, .int .i64 kd, .int .i64 li, .int .i64 st, .int .i64 mo]) (by simp [results, Try.results13, go_sem, *]) rfl ⟨rfl, ?_⟩
  exact ((((((((BX.out).set_ 1 0 rfl _).set_ 1 1 rfl _).set_ 1 2 rfl _).set_ 1 3 rfl _).set_ 1 4 rfl _).set_ 1 5 rfl _).set_ 1 6 rfl _).be
set_option maxRecDepth 100000 in
set_option maxHeartbeats 2000000 in
theorem pmend_any (sp kp ki kd li st mo : Int) (w : World) :
    Calls Try.prog 16 #[.agg #[.int .i64 sp, .int .i64 kp, .int .i64 ki, .int .i64 kd, .int .i64 li, .int .i64 st, .int .i64 mo]] w fun e w' => e = .returned (.agg #[.int .i64 sp, .int .i64 (mx kp 0), .int .i64 (mx ki 0), .int .i64 (mx kd 0), .int .i64 (mx li 0), .int .i64 (mx st 1), .int .i64 (mx mo 0)]) ∧ Below w.heap.size w w' := by
  go_enter Try.func16, Try.ntmps16
  go_upto_region 1 with fail
  refine wp_worldx (fun wx => Bxs w wx [(w.heap.size, 26, [.int .i64 sp, .int .i64 kp, .int .i64 ki, .int .i64 kd, .int .i64 li, .int .i64 st, .int .i64 mo]), (w.heap.size + 1, 26, [.int .i64 0, .int .i64 0, .int .i64 0, .int .i64 0, .int .i64 0, .int .i64 0, .int .i64 0])]) (((Bxs.nil_ w).alloc_ _ _ (by simp)).alloc_ _ _ (by simp)) ?_
  rintro x1 bx
  have BX := Lib.hid bx
  clear bx
  have p0_0 : x1.cell? ⟨w.heap.size, 0, none⟩ = some (.int .i64 sp) := (BX.out.bl 0 _ _ _ rfl).val rfl
  have p0_1 : x1.cell? ⟨w.heap.size, 1, none⟩ = some (.int .i64 kp) := (BX.out.bl 0 _ _ _ rfl).val rfl
  have p0_2 : x1.cell? ⟨w.heap.size, 2, none⟩ = some (.int .i64 ki) := (BX.out.bl 0 _ _ _ rfl).val rfl
  have p0_3 : x1.cell? ⟨w.heap.size, 3, none⟩ = some (.int .i64 kd) := (BX.out.bl 0 _ _ _ rfl).val rfl
  have p0_4 : x1.cell? ⟨w.heap.size, 4, none⟩ = some (.int .i64 li) := (BX.out.bl 0 _ _ _ rfl).val rfl
  have p0_5 : x1.cell? ⟨w.heap.size, 5, none⟩ = some (.int .i64 st) := (BX.out.bl 0 _ _ _ rfl).val rfl
  have p0_6 : x1.cell? ⟨w.heap.size, 6, none⟩ = some (.int .i64 mo) := (BX.out.bl 0 _ _ _ rfl).val rfl
  have z0 : ∀ k, x1.frozen? ⟨w.heap.size, k, none⟩ = false := (BX.out.bl 0 _ _ _ rfl).free
  have y0 : w.heap.size < x1.heap.size := (BX.out.bl 0 _ _ _ rfl).size
  have p1_0 : x1.cell? ⟨w.heap.size + 1, 0, none⟩ = some (.int .i64 0) := (BX.out.bl 1 _ _ _ rfl).val rfl
  have p1_1 : x1.cell? ⟨w.heap.size + 1, 1, none⟩ = some (.int .i64 0) := (BX.out.bl 1 _ _ _ rfl).val rfl
  have p1_2 : x1.cell? ⟨w.heap.size + 1, 2, none⟩ = some (.int .i64 0) := (BX.out.bl 1 _ _ _ rfl).val rfl
  have p1_3 : x1.cell? ⟨w.heap.size + 1, 3, none⟩ = some (.int .i64 0) := (BX.out.bl 1 _ _ _ rfl).val rfl
  have p1_4 : x1.cell? ⟨w.heap.size + 1, 4, none⟩ = some (.int .i64 0) := (BX.out.bl 1 _ _ _ rfl).val rfl
  have p1_5 : x1.cell? ⟨w.heap.size + 1, 5, none⟩ = some (.int .i64 0) := (BX.out.bl 1 _ _ _ rfl).val rfl
  have p1_6 : x1.cell? ⟨w.heap.size + 1, 6, none⟩ = some (.int .i64 0) := (BX.out.bl 1 _ _ _ rfl).val rfl
  have z1 : ∀ k, x1.frozen? ⟨w.heap.size + 1, k, none⟩ = false := (BX.out.bl 1 _ _ _ rfl).free
  have y1 : w.heap.size + 1 < x1.heap.size := (BX.out.bl 1 _ _ _ rfl).size
  go_upto_region 2 with fail
  clear p0_0 p0_1 p0_2 p0_3 p0_4 p0_5 p0_6 z0 y0 p1_0 p1_1 p1_2 p1_3 p1_4 p1_5 p1_6 z1 y1
  refine wp_worldx (fun wx => Bxs w wx [(w.heap.size, 26, [.int .i64 sp, .int .i64 (mx kp 0), .int .i64 (mx ki 0), .int .i64 (mx kd 0), .int .i64 (mx li 0), .int .i64 st, .int .i64 mo]), (w.heap.size + 1, 26, [.int .i64 0, .int .i64 0, .int .i64 0, .int .i64 0, .int .i64 0, .int .i64 0, .int .i64 0])]) (((((BX.out).set_ 0 1 rfl _).set_ 0 2 rfl _).set_ 0 3 rfl _).set_ 0 4 rfl _) ?_
  clear BX
  rintro x2 bx
  have BX := Lib.hid bx
  clear bx
  have p0_0 : x2.cell? ⟨w.heap.size, 0, none⟩ = some (.int .i64 sp) := (BX.out.bl 0 _ _ _ rfl).val rfl
  have p0_1 : x2.cell? ⟨w.heap.size, 1, none⟩ = some (.int .i64 (mx kp 0)) := (BX.out.bl 0 _ _ _ rfl).val rfl
  have p0_2 : x2.cell? ⟨w.heap.size, 2, none⟩ = some (.int .i64 (mx ki 0)) := (BX.out.bl 0 _ _ _ rfl).val rfl
  have p0_3 : x2.cell? ⟨w.heap.size, 3, none⟩ = some (.int .i64 (mx kd 0)) := (BX.out.bl 0 _ _ _ rfl).val rfl
  have p0_4 : x2.cell? ⟨w.heap.size, 4, none⟩ = some (.int .i64 (mx li 0)) := (BX.out.bl 0 _ _ _ rfl).val rfl
  have p0_5 : x2.cell? ⟨w.heap.size, 5, none⟩ = some (.int .i64 st) := (BX.out.bl 0 _ _ _ rfl).val rfl
  have p0_6 : x2.cell? ⟨w.heap.size, 6, none⟩ = some (.int .i64 mo) := (BX.out.bl 0 _ _ _ rfl).val rfl
  have z0 : ∀ k, x2.frozen? ⟨w.heap.size, k, none⟩ = false := (BX.out.bl 0 _ _ _ rfl).free
  have y0 : w.heap.size < x2.heap.size := (BX.out.bl 0 _ _ _ rfl).size
  have p1_0 : x2.cell? ⟨w.heap.size + 1, 0, none⟩ = some (.int .i64 0) := (BX.out.bl 1 _ _ _ rfl).val rfl
  have p1_1 : x2.cell? ⟨w.heap.size + 1, 1, none⟩ = some (.int .i64 0) := (BX.out.bl 1 _ _ _ rfl).val rfl
  have p1_2 : x2.cell? ⟨w.heap.size + 1, 2, none⟩ = some (.int .i64 0) := (BX.out.bl 1 _ _ _ rfl).val rfl
  have p1_3 : x2.cell? ⟨w.heap.size + 1, 3, none⟩ = some (.int .i64 0) := (BX.out.bl 1 _ _ _ rfl).val rfl
  have p1_4 : x2.cell? ⟨w.heap.size + 1, 4, none⟩ = some (.int .i64 0) := (BX.out.bl 1 _ _ _ rfl).val rfl
  have p1_5 : x2.cell? ⟨w.heap.size + 1, 5, none⟩ = some (.int .i64 0) := (BX.out.bl 1 _ _ _ rfl).val rfl
  have p1_6 : x2.cell? ⟨w.heap.size + 1, 6, none⟩ = some (.int .i64 0) := (BX.out.bl 1 _ _ _ rfl).val rfl
  have z1 : ∀ k, x2.frozen? ⟨w.heap.size + 1, k, none⟩ = false := (BX.out.bl 1 _ _ _ rfl).free
  have y1 : w.heap.size + 1 < x2.heap.size := (BX.out.bl 1 _ _ _ rfl).size
  go_upto_region 3 with fail
  clear p0_0 p0_1 p0_2 p0_3 p0_4 p0_5 p0_6 z0 y0 p1_0 p1_1 p1_2 p1_3 p1_4 p1_5 p1_6 z1 y1
  refine wp_worldx (fun wx => Bxs w wx [(w.heap.size, 26, [.int .i64 sp, .int .i64 (mx kp 0), .int .i64 (mx ki 0), .int .i64 (mx kd 0), .int .i64 (mx li 0), .int .i64 (mx st 1), .int .i64 (mx mo 0)]), (w.heap.size + 1, 26, [.int .i64 0, .int .i64 0, .int .i64 0, .int .i64 0, .int .i64 0, .int .i64 0, .int .i64 0])]) (((BX.out).set_ 0 5 rfl _).set_ 0 6 rfl _) ?_
  clear BX
  rintro x3 bx
  have BX := Lib.hid bx
  clear bx
  have p0_0 : x3.cell? ⟨w.heap.size, 0, none⟩ = some (.int .i64 sp) := (BX.out.bl 0 _ _ _ rfl).val rfl
  have p0_1 : x3.cell? ⟨w.heap.size, 1, none⟩ = some (.int .i64 (mx kp 0)) := (BX.out.bl 0 _ _ _ rfl).val rfl
  have p0_2 : x3.cell? ⟨w.heap.size, 2, none⟩ = some (.int .i64 (mx ki 0)) := (BX.out.bl 0 _ _ _ rfl).val rfl
  have p0_3 : x3.cell? ⟨w.heap.size, 3, none⟩ = some (.int .i64 (mx kd 0)) := (BX.out.bl 0 _ _ _ rfl).val rfl
  have p0_4 : x3.cell? ⟨w.heap.size, 4, none⟩ = some (.int .i64 (mx li 0)) := (BX.out.bl 0 _ _ _ rfl).val rfl
  have p0_5 : x3.cell? ⟨w.heap.size, 5, none⟩ = some (.int .i64 (mx st 1)) := (BX.out.bl 0 _ _ _ rfl).val rfl
  have p0_6 : x3.cell? ⟨w.heap.size, 6, none⟩ = some (.int .i64 (mx mo 0)) := (BX.out.bl 0 _ _ _ rfl).val rfl
  have z0 : ∀ k, x3.frozen? ⟨w.heap.size, k, none⟩ = false := (BX.out.bl 0 _ _ _ rfl).free
  have y0 : w.heap.size < x3.heap.size := (BX.out.bl 0 _ _ _ rfl).size
  have p1_0 : x3.cell? ⟨w.heap.size + 1, 0, none⟩ = some (.int .i64 0) := (BX.out.bl 1 _ _ _ rfl).val rfl
  have p1_1 : x3.cell? ⟨w.heap.size + 1, 1, none⟩ = some (.int .i64 0) := (BX.out.bl 1 _ _ _ rfl).val rfl
  have p1_2 : x3.cell? ⟨w.heap.size + 1, 2, none⟩ = some (.int .i64 0) := (BX.out.bl 1 _ _ _ rfl).val rfl
  have p1_3 : x3.cell? ⟨w.heap.size + 1, 3, none⟩ = some (.int .i64 0) := (BX.out.bl 1 _ _ _ rfl).val rfl
  have p1_4 : x3.cell? ⟨w.heap.size + 1, 4, none⟩ = some (.int .i64 0) := (BX.out.bl 1 _ _ _ rfl).val rfl
  have p1_5 : x3.cell? ⟨w.heap.size + 1, 5, none⟩ = some (.int .i64 0) := (BX.out.bl 1 _ _ _ rfl).val rfl
  have p1_6 : x3.cell? ⟨w.heap.size + 1, 6, none⟩ = some (.int .i64 0) := (BX.out.bl 1 _ _ _ rfl).val rfl
  have z1 : ∀ k, x3.frozen? ⟨w.heap.size + 1, k, none⟩ = false := (BX.out.bl 1 _ _ _ rfl).free
  have y1 : w.heap.size + 1 < x3.heap.size := (BX.out.bl 1 _ _ _ rfl).size
  go_wp2_with fail
  refine bodyPost_ret (v := .agg #[.int .i64 sp, .int .i64 (mx kp 0), .int .i64 (mx ki 0), .int .i64 (mx kd 0), .int .i64 (mx li 0), .int .i64 (mx st 1), .int .i64 (mx mo 0)]) (by simp [results, Try.results16, go_sem, *]) rfl ⟨rfl, ?_⟩
  exact ((((((((BX.out).set_ 1 0 rfl _).set_ 1 1 rfl _).set_ 1 2 rfl _).set_ 1 3 rfl _).set_ 1 4 rfl _).set_ 1 5 rfl _).set_ 1 6 rfl _).be
set_option maxRecDepth 100000 in
set_option maxHeartbeats 2000000 in
theorem pright_0 (sp kp ki kd li st mo : Int) (h0 : ¬ 0 ≤ kp) (w : World) :
    Calls Try.prog 14 #[.agg #[.int .i64 sp, .int .i64 kp, .int .i64 ki, .int .i64 kd, .int .i64 li, .int .i64 st, .int .i64 mo]] w fun e w' => e = .returned (.bool false) ∧ Below w.heap.size w w' := by
  go_enter Try.func14, Try.ntmps14
  go_upto_region 1 with fail
  refine wp_worldx (fun wx => Bxs w wx [(w.heap.size, 26, [.int .i64 sp, .int .i64 kp, .int .i64 ki, .int .i64 kd, .int .i64 li, .int .i64 st, .int .i64 mo])]) ((Bxs.nil_ w).alloc_ _ _ (by simp)) ?_
  rintro x1 bx
  have BX := Lib.hid bx
  clear bx
  have p0_0 : x1.cell? ⟨w.heap.size, 0, none⟩ = some (.int .i64 sp) := (BX.out.bl 0 _ _ _ rfl).val rfl
  have p0_1 : x1.cell? ⟨w.heap.size, 1, none⟩ = some (.int .i64 kp) := (BX.out.bl 0 _ _ _ rfl).val rfl
  have p0_2 : x1.cell? ⟨w.heap.size, 2, none⟩ = some (.int .i64 ki) := (BX.out.bl 0 _ _ _ rfl).val rfl
  have p0_3 : x1.cell? ⟨w.heap.size, 3, none⟩ = some (.int .i64 kd) := (BX.out.bl 0 _ _ _ rfl).val rfl
  have p0_4 : x1.cell? ⟨w.heap.size, 4, none⟩ = some (.int .i64 li) := (BX.out.bl 0 _ _ _ rfl).val rfl
  have p0_5 : x1.cell? ⟨w.heap.size, 5, none⟩ = some (.int .i64 st) := (BX.out.bl 0 _ _ _ rfl).val rfl
  have p0_6 : x1.cell? ⟨w.heap.size, 6, none⟩ = some (.int .i64 mo) := (BX.out.bl 0 _ _ _ rfl).val rfl
  have z0 : ∀ k, x1.frozen? ⟨w.heap.size, k, none⟩ = false := (BX.out.bl 0 _ _ _ rfl).free
  have y0 : w.heap.size < x1.heap.size := (BX.out.bl 0 _ _ _ rfl).size
  have e0 : decide (0 ≤ kp) = false := by simp; omega
  go_wp2_with fail
  refine bodyPost_ret (v := .bool false) (by simp [results, Try.results14, go_sem, *]) rfl ⟨rfl, BX.out.be⟩
set_option maxRecDepth 100000 in
set_option maxHeartbeats 2000000 in
theorem pright_1 (sp kp ki kd li st mo : Int) (h0 : 0 ≤ kp) (h1 : ¬ 0 ≤ ki) (w : World) :
    Calls Try.prog 14 #[.agg #[.int .i64 sp, .int .i64 kp, .int .i64 ki, .int .i64 kd, .int .i64 li, .int .i64 st, .int .i64 mo]] w fun e w' => e = .returned (.bool false) ∧ Below w.heap.size w w' := by
  go_enter Try.func14, Try.ntmps14
  go_upto_region 1 with fail
  refine wp_worldx (fun wx => Bxs w wx [(w.heap.size, 26, [.int .i64 sp, .int .i64 kp, .int .i64 ki, .int .i64 kd, .int .i64 li, .int .i64 st, .int .i64 mo])]) ((Bxs.nil_ w).alloc_ _ _ (by simp)) ?_
  rintro x1 bx
  have BX := Lib.hid bx
  clear bx
  have p0_0 : x1.cell? ⟨w.heap.size, 0, none⟩ = some (.int .i64 sp) := (BX.out.bl 0 _ _ _ rfl).val rfl
  have p0_1 : x1.cell? ⟨w.heap.size, 1, none⟩ = some (.int .i64 kp) := (BX.out.bl 0 _ _ _ rfl).val rfl
  have p0_2 : x1.cell? ⟨w.heap.size, 2, none⟩ = some (.int .i64 ki) := (BX.out.bl 0 _ _ _ rfl).val rfl
  have p0_3 : x1.cell? ⟨w.heap.size, 3, none⟩ = some (.int .i64 kd) := (BX.out.bl 0 _ _ _ rfl).val rfl
  have p0_4 : x1.cell? ⟨w.heap.size, 4, none⟩ = some (.int .i64 li) := (BX.out.bl 0 _ _ _ rfl).val rfl
  have p0_5 : x1.cell? ⟨w.heap.size, 5, none⟩ = some (.int .i64 st) := (BX.out.bl 0 _ _ _ rfl).val rfl
  have p0_6 : x1.cell? ⟨w.heap.size, 6, none⟩ = some (.int .i64 mo) := (BX.out.bl 0 _ _ _ rfl).val rfl
  have z0 : ∀ k, x1.frozen? ⟨w.heap.size, k, none⟩ = false := (BX.out.bl 0 _ _ _ rfl).free
  have y0 : w.heap.size < x1.heap.size := (BX.out.bl 0 _ _ _ rfl).size
  have e0 : decide (0 ≤ kp) = true := by simp [h0]
  have e1 : decide (0 ≤ ki) = false := by simp; omega
  go_wp2_with fail
  refine bodyPost_ret (v := .bool false) (by simp [results, Try.results14, go_sem, *]) rfl ⟨rfl, BX.out.be⟩
set_option maxRecDepth 100000 in
set_option maxHeartbeats 2000000 in
theorem pright_2 (sp kp ki kd li st mo : Int) (h0 : 0 ≤ kp) (h1 : 0 ≤ ki) (h2 : ¬ 0 ≤ kd) (w : World) :
    Calls Try.prog 14 #[.agg #[.int .i64 sp, .int .i64 kp, .int .i64 ki, .int .i64 kd, .int .i64 li, .int .i64 st, .int .i64 mo]] w fun e w' => e = .returned (.bool false) ∧ Below w.heap.size w w' := by
  go_enter Try.func14, Try.ntmps14
  go_upto_region 1 with fail
  refine wp_worldx (fun wx => Bxs w wx [(w.heap.size, 26, [.int .i64 sp, .int .i64 kp, .int .i64 ki, .int .i64 kd, .int .i64 li, .int .i64 st, .int .i64 mo])]) ((Bxs.nil_ w).alloc_ _ _ (by simp)) ?_
  rintro x1 bx
  have BX := Lib.hid bx
  clear bx
  have p0_0 : x1.cell? ⟨w.heap.size, 0, none⟩ = some (.int .i64 sp) := (BX.out.bl 0 _ _ _ rfl).val rfl
  have p0_1 : x1.cell? ⟨w.heap.size, 1, none⟩ = some (.int .i64 kp) := (BX.out.bl 0 _ _ _ rfl).val rfl
  have p0_2 : x1.cell? ⟨w.heap.size, 2, none⟩ = some (.int .i64 ki) := (BX.out.bl 0 _ _ _ rfl).val rfl
  have p0_3 : x1.cell? ⟨w.heap.size, 3, none⟩ = some (.int .i64 kd) := (BX.out.bl 0 _ _ _ rfl).val rfl
  have p0_4 : x1.cell? ⟨w.heap.size, 4, none⟩ = some (.int .i64 li) := (BX.out.bl 0 _ _ _ rfl).val rfl
  have p0_5 : x1.cell? ⟨w.heap.size, 5, none⟩ = some (.int .i64 st) := (BX.out.bl 0 _ _ _ rfl).val rfl
  have p0_6 : x1.cell? ⟨w.heap.size, 6, none⟩ = some (.int .i64 mo) := (BX.out.bl 0 _ _ _ rfl).val rfl
  have z0 : ∀ k, x1.frozen? ⟨w.heap.size, k, none⟩ = false := (BX.out.bl 0 _ _ _ rfl).free
  have y0 : w.heap.size < x1.heap.size := (BX.out.bl 0 _ _ _ rfl).size
  have e0 : decide (0 ≤ kp) = true := by simp [h0]
  have e1 : decide (0 ≤ ki) = true := by simp [h1]
  have e2 : decide (0 ≤ kd) = false := by simp; omega
  go_wp2_with fail
  refine bodyPost_ret (v := .bool false) (by simp [results, Try.results14, go_sem, *]) rfl ⟨rfl, BX.out.be⟩
set_option maxRecDepth 100000 in
set_option maxHeartbeats 2000000 in
theorem pright_3 (sp kp ki kd li st mo : Int) (h0 : 0 ≤ kp) (h1 : 0 ≤ ki) (h2 : 0 ≤ kd) (h3 : ¬ 0 ≤ li) (w : World) :
    Calls Try.prog 14 #[.agg #[.int .i64 sp, .int .i64 kp, .int .i64 ki, .int .i64 kd, .int .i64 li, .int .i64 st, .int .i64 mo]] w fun e w' => e = .returned (.bool false) ∧ Below w.heap.size w w' := by
  go_enter Try.func14, Try.ntmps14
  go_upto_region 1 with fail
  refine wp_worldx (fun wx => Bxs w wx [(w.heap.size, 26, [.int .i64 sp, .int .i64 kp, .int .i64 ki, .int .i64 kd, .int .i64 li, .int .i64 st, .int .i64 mo])]) ((Bxs.nil_ w).alloc_ _ _ (by simp)) ?_
  rintro x1 bx
  have BX := Lib.hid bx
  clear bx
  have p0_0 : x1.cell? ⟨w.heap.size, 0, none⟩ = some (.int .i64 sp) := (BX.out.bl 0 _ _ _ rfl).val rfl
  have p0_1 : x1.cell? ⟨w.heap.size, 1, none⟩ = some (.int .i64 kp) := (BX.out.bl 0 _ _ _ rfl).val rfl
  have p0_2 : x1.cell? ⟨w.heap.size, 2, none⟩ = some (.int .i64 ki) := (BX.out.bl 0 _ _ _ rfl).val rfl
  have p0_3 : x1.cell? ⟨w.heap.size, 3, none⟩ = some (.int .i64 kd) := (BX.out.bl 0 _ _ _ rfl).val rfl
  have p0_4 : x1.cell? ⟨w.heap.size, 4, none⟩ = some (.int .i64 li) := (BX.out.bl 0 _ _ _ rfl).val rfl
  have p0_5 : x1.cell? ⟨w.heap.size, 5, none⟩ = some (.int .i64 st) := (BX.out.bl 0 _ _ _ rfl).val rfl
  have p0_6 : x1.cell? ⟨w.heap.size, 6, none⟩ = some (.int .i64 mo) := (BX.out.bl 0 _ _ _ rfl).val rfl
  have z0 : ∀ k, x1.frozen? ⟨w.heap.size, k, none⟩ = false := (BX.out.bl 0 _ _ _ rfl).free
  have y0 : w.heap.size < x1.heap.size := (BX.out.bl 0 _ _ _ rfl).size
  have e0 : decide (0 ≤ kp) = true := by simp [h0]
  have e1 : decide (0 ≤ ki) = true := by simp [h1]
  have e2 : decide (0 ≤ kd) = true := by simp [h2]
  have e3 : decide (0 ≤ li) = false := by simp; omega
  go_wp2_with fail
  refine bodyPost_ret (v := .bool false) (by simp [results, Try.results14, go_sem, *]) rfl ⟨rfl, BX.out.be⟩
set_option maxRecDepth 100000 in
set_option maxHeartbeats 2000000 in
theorem pright_4 (sp kp ki kd li st mo : Int) (h0 : 0 ≤ kp) (h1 : 0 ≤ ki) (h2 : 0 ≤ kd) (h3 : 0 ≤ li) (h4 : ¬ 1 ≤ st) (w : World) :
    Calls Try.prog 14 #[.agg #[.int .i64 sp, .int .i64 kp, .int .i64 ki, .int .i64 kd, .int .i64 li, .int .i64 st, .int .i64 mo]] w fun e w' => e = .returned (.bool false) ∧ Below w.heap.size w w' := by
  go_enter Try.func14, Try.ntmps14
  go_upto_region 1 with fail
  refine wp_worldx (fun wx => Bxs w wx [(w.heap.size, 26, [.int .i64 sp, .int .i64 kp, .int .i64 ki, .int .i64 kd, .int .i64 li, .int .i64 st, .int .i64 mo])]) ((Bxs.nil_ w).alloc_ _ _ (by simp)) ?_
  rintro x1 bx
  have BX := Lib.hid bx
  clear bx
  have p0_0 : x1.cell? ⟨w.heap.size, 0, none⟩ = some (.int .i64 sp) := (BX.out.bl 0 _ _ _ rfl).val rfl
  have p0_1 : x1.cell? ⟨w.heap.size, 1, none⟩ = some (.int .i64 kp) := (BX.out.bl 0 _ _ _ rfl).val rfl
  have p0_2 : x1.cell? ⟨w.heap.size, 2, none⟩ = some (.int .i64 ki) := (BX.out.bl 0 _ _ _ rfl).val rfl
  have p0_3 : x1.cell? ⟨w.heap.size, 3, none⟩ = some (.int .i64 kd) := (BX.out.bl 0 _ _ _ rfl).val rfl
  have p0_4 : x1.cell? ⟨w.heap.size, 4, none⟩ = some (.int .i64 li) := (BX.out.bl 0 _ _ _ rfl).val rfl
  have p0_5 : x1.cell? ⟨w.heap.size, 5, none⟩ = some (.int .i64 st) := (BX.out.bl 0 _ _ _ rfl).val rfl
  have p0_6 : x1.cell? ⟨w.heap.size, 6, none⟩ = some (.int .i64 mo) := (BX.out.bl 0 _ _ _ rfl).val rfl
  have z0 : ∀ k, x1.frozen? ⟨w.heap.size, k, none⟩ = false := (BX.out.bl 0 _ _ _ rfl).free
  have y0 : w.heap.size < x1.heap.size := (BX.out.bl 0 _ _ _ rfl).size
  have e0 : decide (0 ≤ kp) = true := by simp [h0]
  have e1 : decide (0 ≤ ki) = true := by simp [h1]
  have e2 : decide (0 ≤ kd) = true := by simp [h2]
  have e3 : decide (0 ≤ li) = true := by simp [h3]
  have e4 : decide (1 ≤ st) = false := by simp; omega
  go_wp2_with fail
  refine bodyPost_ret (v := .bool false) (by simp [results, Try.results14, go_sem, *]) rfl ⟨rfl, BX.out.be⟩
set_option maxRecDepth 100000 in
set_option maxHeartbeats 2000000 in
theorem pright_5 (sp kp ki kd li st mo : Int) (h0 : 0 ≤ kp) (h1 : 0 ≤ ki) (h2 : 0 ≤ kd) (h3 : 0 ≤ li) (h4 : 1 ≤ st) (h5 : ¬ 0 ≤ mo) (w : World) :
    Calls Try.prog 14 #[.agg #[.int .i64 sp, .int .i64 kp, .int .i64 ki, .int .i64 kd, .int .i64 li, .int .i64 st, .int .i64 mo]] w fun e w' => e = .returned (.bool false) ∧ Below w.heap.size w w' := by
  go_enter Try.func14, Try.ntmps14
  go_upto_region 1 with fail
  refine wp_worldx (fun wx => Bxs w wx [(w.heap.size, 26, [.int .i64 sp, .int .i64 kp, .int .i64 ki, .int .i64 kd, .int .i64 li, .int .i64 st, .int .i64 mo])]) ((Bxs.nil_ w).alloc_ _ _ (by simp)) ?_
  rintro x1 bx
  have BX := Lib.hid bx
  clear bx
  have p0_0 : x1.cell? ⟨w.heap.size, 0, none⟩ = some (.int .i64 sp) := (BX.out.bl 0 _ _ _ rfl).val rfl
  have p0_1 : x1.cell? ⟨w.heap.size, 1, none⟩ = some (.int .i64 kp) := (BX.out.bl 0 _ _ _ rfl).val rfl
  have p0_2 : x1.cell? ⟨w.heap.size, 2, none⟩ = some (.int .i64 ki) := (BX.out.bl 0 _ _ _ rfl).val rfl
  have p0_3 : x1.cell? ⟨w.heap.size, 3, none⟩ = some (.int .i64 kd) := (BX.out.bl 0 _ _ _ rfl).val rfl
  have p0_4 : x1.cell? ⟨w.heap.size, 4, none⟩ = some (.int .i64 li) := (BX.out.bl 0 _ _ _ rfl).val rfl
  have p0_5 : x1.cell? ⟨w.heap.size, 5, none⟩ = some (.int .i64 st) := (BX.out.bl 0 _ _ _ rfl).val rfl
  have p0_6 : x1.cell? ⟨w.heap.size, 6, none⟩ = some (.int .i64 mo) := (BX.out.bl 0 _ _ _ rfl).val rfl
  have z0 : ∀ k, x1.frozen? ⟨w.heap.size, k, none⟩ = false := (BX.out.bl 0 _ _ _ rfl).free
  have y0 : w.heap.size < x1.heap.size := (BX.out.bl 0 _ _ _ rfl).size
  have e0 : decide (0 ≤ kp) = true := by simp [h0]
  have e1 : decide (0 ≤ ki) = true := by simp [h1]
  have e2 : decide (0 ≤ kd) = true := by simp [h2]
  have e3 : decide (0 ≤ li) = true := by simp [h3]
  have e4 : decide (1 ≤ st) = true := by simp [h4]
  have e5 : decide (0 ≤ mo) = false := by simp; omega
  go_wp2_with fail
  refine bodyPost_ret (v := .bool false) (by simp [results, Try.results14, go_sem, *]) rfl ⟨rfl, BX.out.be⟩
set_option maxRecDepth 100000 in
set_option maxHeartbeats 2000000 in
theorem pright_6 (sp kp ki kd li st mo : Int) (h0 : 0 ≤ kp) (h1 : 0 ≤ ki) (h2 : 0 ≤ kd) (h3 : 0 ≤ li) (h4 : 1 ≤ st) (h5 : 0 ≤ mo) (w : World) :
    Calls Try.prog 14 #[.agg #[.int .i64 sp, .int .i64 kp, .int .i64 ki, .int .i64 kd, .int .i64 li, .int .i64 st, .int .i64 mo]] w fun e w' => e = .returned (.bool true) ∧ Below w.heap.size w w' := by
  go_enter Try.func14, Try.ntmps14
  go_upto_region 1 with fail
  refine wp_worldx (fun wx => Bxs w wx [(w.heap.size, 26, [.int .i64 sp, .int .i64 kp, .int .i64 ki, .int .i64 kd, .int .i64 li, .int .i64 st, .int .i64 mo])]) ((Bxs.nil_ w).alloc_ _ _ (by simp)) ?_
  rintro x1 bx
  have BX := Lib.hid bx
  clear bx
  have p0_0 : x1.cell? ⟨w.heap.size, 0, none⟩ = some (.int .i64 sp) := (BX.out.bl 0 _ _ _ rfl).val rfl
  have p0_1 : x1.cell? ⟨w.heap.size, 1, none⟩ = some (.int .i64 kp) := (BX.out.bl 0 _ _ _ rfl).val rfl
  have p0_2 : x1.cell? ⟨w.heap.size, 2, none⟩ = some (.int .i64 ki) := (BX.out.bl 0 _ _ _ rfl).val rfl
  have p0_3 : x1.cell? ⟨w.heap.size, 3, none⟩ = some (.int .i64 kd) := (BX.out.bl 0 _ _ _ rfl).val rfl
  have p0_4 : x1.cell? ⟨w.heap.size, 4, none⟩ = some (.int .i64 li) := (BX.out.bl 0 _ _ _ rfl).val rfl
  have p0_5 : x1.cell? ⟨w.heap.size, 5, none⟩ = some (.int .i64 st) := (BX.out.bl 0 _ _ _ rfl).val rfl
  have p0_6 : x1.cell? ⟨w.heap.size, 6, none⟩ = some (.int .i64 mo) := (BX.out.bl 0 _ _ _ rfl).val rfl
  have z0 : ∀ k, x1.frozen? ⟨w.heap.size, k, none⟩ = false := (BX.out.bl 0 _ _ _ rfl).free
  have y0 : w.heap.size < x1.heap.size := (BX.out.bl 0 _ _ _ rfl).size
  have e0 : decide (0 ≤ kp) = true := by simp [h0]
  have e1 : decide (0 ≤ ki) = true := by simp [h1]
  have e2 : decide (0 ≤ kd) = true := by simp [h2]
  have e3 : decide (0 ≤ li) = true := by simp [h3]
  have e4 : decide (1 ≤ st) = true := by simp [h4]
  have e5 : decide (0 ≤ mo) = true := by simp [h5]
  go_wp2_with fail
  refine bodyPost_ret (v := .bool true) (by simp [results, Try.results14, go_sem, *]) rfl ⟨rfl, BX.out.be⟩
def rightB (kp ki kd li st mo : Int) : Bool := decide (0 ≤ kp ∧ 0 ≤ ki ∧ 0 ≤ kd ∧ 0 ≤ li ∧ 1 ≤ st ∧ 0 ≤ mo)
theorem pright_any (sp kp ki kd li st mo : Int) (w : World) :
    Calls Try.prog 14 #[.agg #[.int .i64 sp, .int .i64 kp, .int .i64 ki, .int .i64 kd, .int .i64 li, .int .i64 st, .int .i64 mo]] w fun e w' => e = .returned (.bool (rightB kp ki kd li st mo)) ∧ Below w.heap.size w w' := by
  by_cases h0 : 0 ≤ kp
  case neg => rw [show rightB kp ki kd li st mo = false from by unfold rightB; simp; omega]; exact pright_0 sp kp ki kd li st mo h0 w
  by_cases h1 : 0 ≤ ki
  case neg => rw [show rightB kp ki kd li st mo = false from by unfold rightB; simp; omega]; exact pright_1 sp kp ki kd li st mo h0 h1 w
  by_cases h2 : 0 ≤ kd
  case neg => rw [show rightB kp ki kd li st mo = false from by unfold rightB; simp; omega]; exact pright_2 sp kp ki kd li st mo h0 h1 h2 w
  by_cases h3 : 0 ≤ li
  case neg => rw [show rightB kp ki kd li st mo = false from by unfold rightB; simp; omega]; exact pright_3 sp kp ki kd li st mo h0 h1 h2 h3 w
  by_cases h4 : 1 ≤ st
  case neg => rw [show rightB kp ki kd li st mo = false from by unfold rightB; simp; omega]; exact pright_4 sp kp ki kd li st mo h0 h1 h2 h3 h4 w
  by_cases h5 : 0 ≤ mo
  case neg => rw [show rightB kp ki kd li st mo = false from by unfold rightB; simp; omega]; exact pright_5 sp kp ki kd li st mo h0 h1 h2 h3 h4 h5 w
  rw [show rightB kp ki kd li st mo = true from by unfold rightB; simp; omega]; exact pright_6 sp kp ki kd li st mo h0 h1 h2 h3 h4 h5 w
set_option maxRecDepth 100000 in
set_option maxHeartbeats 2000000 in
theorem rright_0 (sp kp ki kd li st mo : Int) (h0 : ¬ 0 ≤ kp) (w : World) :
    Calls Try.prog 15 #[.agg #[.int .i64 sp, .int .i64 kp, .int .i64 ki, .int .i64 kd, .int .i64 li, .int .i64 st, .int .i64 mo]] w fun e w' => e = .returned (.bool false) ∧ Below w.heap.size w w' := by
  go_enter Try.func15, Try.ntmps15
  go_upto_region 1 with fail
  refine wp_worldx (fun wx => Bxs w wx [(w.heap.size, 36, [.int .i64 sp, .int .i64 kp, .int .i64 ki, .int .i64 kd, .int .i64 li, .int .i64 st, .int .i64 mo])]) ((Bxs.nil_ w).alloc_ _ _ (by simp)) ?_
  rintro x1 bx
  have BX := Lib.hid bx
  clear bx
  have p0_0 : x1.cell? ⟨w.heap.size, 0, none⟩ = some (.int .i64 sp) := (BX.out.bl 0 _ _ _ rfl).val rfl
  have p0_1 : x1.cell? ⟨w.heap.size, 1, none⟩ = some (.int .i64 kp) := (BX.out.bl 0 _ _ _ rfl).val rfl
  have p0_2 : x1.cell? ⟨w.heap.size, 2, none⟩ = some (.int .i64 ki) := (BX.out.bl 0 _ _ _ rfl).val rfl
  have p0_3 : x1.cell? ⟨w.heap.size, 3, none⟩ = some (.int .i64 kd) := (BX.out.bl 0 _ _ _ rfl).val rfl
  have p0_4 : x1.cell? ⟨w.heap.size, 4, none⟩ = some (.int .i64 li) := (BX.out.bl 0 _ _ _ rfl).val rfl
  have p0_5 : x1.cell? ⟨w.heap.size, 5, none⟩ = some (.int .i64 st) := (BX.out.bl 0 _ _ _ rfl).val rfl
  have p0_6 : x1.cell? ⟨w.heap.size, 6, none⟩ = some (.int .i64 mo) := (BX.out.bl 0 _ _ _ rfl).val rfl
  have z0 : ∀ k, x1.frozen? ⟨w.heap.size, k, none⟩ = false := (BX.out.bl 0 _ _ _ rfl).free
  have y0 : w.heap.size < x1.heap.size := (BX.out.bl 0 _ _ _ rfl).size
  have e0 : decide (0 ≤ kp) = false := by simp; omega
  go_wp2_with fail
  refine bodyPost_ret (v := .bool false) (by simp [results, Try.results15, go_sem, *]) rfl ⟨rfl, BX.out.be⟩
set_option maxRecDepth 100000 in
set_option maxHeartbeats 2000000 in
theorem rright_1 (sp kp ki kd li st mo : Int) (h0 : 0 ≤ kp) (h1 : ¬ 0 ≤ ki) (w : World) :
    Calls Try.prog 15 #[.agg #[.int .i64 sp, .int .i64 kp, .int .i64 ki, .int .i64 kd, .int .i64 li, .int .i64 st, .int .i64 mo]] w fun e w' => e = .returned (.bool false) ∧ Below w.heap.size w w' := by
  go_enter Try.func15, Try.ntmps15
  go_upto_region 1 with fail
  refine wp_worldx (fun wx => Bxs w wx [(w.heap.size, 36, [.int .i64 sp, .int .i64 kp, .int .i64 ki, .int .i64 kd, .int .i64 li, .int .i64 st, .int .i64 mo])]) ((Bxs.nil_ w).alloc_ _ _ (by simp)) ?_
  rintro x1 bx
  have BX := Lib.hid bx
  clear bx
  have p0_0 : x1.cell? ⟨w.heap.size, 0, none⟩ = some (.int .i64 sp) := (BX.out.bl 0 _ _ _ rfl).val rfl
  have p0_1 : x1.cell? ⟨w.heap.size, 1, none⟩ = some (.int .i64 kp) := (BX.out.bl 0 _ _ _ rfl).val rfl
  have p0_2 : x1.cell? ⟨w.heap.size, 2, none⟩ = some (.int .i64 ki) := (BX.out.bl 0 _ _ _ rfl).val rfl
  have p0_3 : x1.cell? ⟨w.heap.size, 3, none⟩ = some (.int .i64 kd) := (BX.out.bl 0 _ _ _ rfl).val rfl
  have p0_4 : x1.cell? ⟨w.heap.size, 4, none⟩ = some (.int .i64 li) := (BX.out.bl 0 _ _ _ rfl).val rfl
  have p0_5 : x1.cell? ⟨w.heap.size, 5, none⟩ = some (.int .i64 st) := (BX.out.bl 0 _ _ _ rfl).val rfl
  have p0_6 : x1.cell? ⟨w.heap.size, 6, none⟩ = some (.int .i64 mo) := (BX.out.bl 0 _ _ _ rfl).val rfl
  have z0 : ∀ k, x1.frozen? ⟨w.heap.size, k, none⟩ = false := (BX.out.bl 0 _ _ _ rfl).free
  have y0 : w.heap.size < x1.heap.size := (BX.out.bl 0 _ _ _ rfl).size
  have e0 : decide (0 ≤ kp) = true := by simp [h0]
  have e1 : decide (0 ≤ ki) = false := by simp; omega
  go_wp2_with fail
  refine bodyPost_ret (v := .bool false) (by simp [results, Try.results15, go_sem, *]) rfl ⟨rfl, BX.out.be⟩
set_option maxRecDepth 100000 in
set_option maxHeartbeats 2000000 in
theorem rright_2 (sp kp ki kd li st mo : Int) (h0 : 0 ≤ kp) (h1 : 0 ≤ ki) (h2 : ¬ 0 ≤ kd) (w : World) :
    Calls Try.prog 15 #[.agg #[.int .i64 sp, .int .i64 kp, .int .i64 ki, .int .i64 kd, .int .i64 li, .int .i64 st, .int .i64 mo]] w fun e w' => e = .returned (.bool false) ∧ Below w.heap.size w w' := by
  go_enter Try.func15, Try.ntmps15
  go_upto_region 1 with fail
  refine wp_worldx (fun wx => Bxs w wx [(w.heap.size, 36, [.int .i64 sp, .int .i64 kp, .int .i64 ki, .int .i64 kd, .int .i64 li, .int .i64 st, .int .i64 mo])]) ((Bxs.nil_ w).alloc_ _ _ (by simp)) ?_
  rintro x1 bx
  have BX := Lib.hid bx
  clear bx
  have p0_0 : x1.cell? ⟨w.heap.size, 0, none⟩ = some (.int .i64 sp) := (BX.out.bl 0 _ _ _ rfl).val rfl
  have p0_1 : x1.cell? ⟨w.heap.size, 1, none⟩ = some (.int .i64 kp) := (BX.out.bl 0 _ _ _ rfl).val rfl
  have p0_2 : x1.cell? ⟨w.heap.size, 2, none⟩ = some (.int .i64 ki) := (BX.out.bl 0 _ _ _ rfl).val rfl
  have p0_3 : x1.cell? ⟨w.heap.size, 3, none⟩ = some (.int .i64 kd) := (BX.out.bl 0 _ _ _ rfl).val rfl
  have p0_4 : x1.cell? ⟨w.heap.size, 4, none⟩ = some (.int .i64 li) := (BX.out.bl 0 _ _ _ rfl).val rfl
  have p0_5 : x1.cell? ⟨w.heap.size, 5, none⟩ = some (.int .i64 st) := (BX.out.bl 0 _ _ _ rfl).val rfl
  have p0_6 : x1.cell? ⟨w.heap.size, 6, none⟩ = some (.int .i64 mo) := (BX.out.bl 0 _ _ _ rfl).val rfl
  have z0 : ∀ k, x1.frozen? ⟨w.heap.size, k, none⟩ = false := (BX.out.bl 0 _ _ _ rfl).free
  have y0 : w.heap.size < x1.heap.size := (BX.out.bl 0 _ _ _ rfl).size
  have e0 : decide (0 ≤ kp) = true := by simp [h0]
  have e1 : decide (0 ≤ ki) = true := by simp [h1]
  have e2 : decide (0 ≤ kd) = false := by simp; omega
  go_wp2_with fail
  refine bodyPost_ret (v := .bool false) (by simp [results, Try.results15, go_sem, *]) rfl ⟨rfl, BX.out.be⟩
set_option maxRecDepth 100000 in
set_option maxHeartbeats 2000000 in
theorem rright_3 (sp kp ki kd li st mo : Int) (h0 : 0 ≤ kp) (h1 : 0 ≤ ki) (h2 : 0 ≤ kd) (h3 : ¬ 0 ≤ li) (w : World) :
    Calls Try.prog 15 #[.agg #[.int .i64 sp, .int .i64 kp, .int .i64 ki, .int .i64 kd, .int .i64 li, .int .i64 st, .int .i64 mo]] w fun e w' => e = .returned (.bool false) ∧ Below w.heap.size w w' := by
  go_enter Try.func15, Try.ntmps15
  go_upto_region 1 with fail
  refine wp_worldx (fun wx => Bxs w wx [(w.heap.size, 36, [.int .i64 sp, .int .i64 kp, .int .i64 ki, .int .i64 kd, .int .i64 li, .int .i64 st, .int .i64 mo])]) ((Bxs.nil_ w).alloc_ _ _ (by simp)) ?_
  rintro x1 bx
  have BX := Lib.hid bx
  clear bx
  have p0_0 : x1.cell? ⟨w.heap.size, 0, none⟩ = some (.int .i64 sp) := (BX.out.bl 0 _ _ _ rfl).val rfl
  have p0_1 : x1.cell? ⟨w.heap.size, 1, none⟩ = some (.int .i64 kp) := (BX.out.bl 0 _ _ _ rfl).val rfl
  have p0_2 : x1.cell? ⟨w.heap.size, 2, none⟩ = some (.int .i64 ki) := (BX.out.bl 0 _ _ _ rfl).val rfl
  have p0_3 : x1.cell? ⟨w.heap.size, 3, none⟩ = some (.int .i64 kd) := (BX.out.bl 0 _ _ _ rfl).val rfl
  have p0_4 : x1.cell? ⟨w.heap.size, 4, none⟩ = some (.int .i64 li) := (BX.out.bl 0 _ _ _ rfl).val rfl
  have p0_5 : x1.cell? ⟨w.heap.size, 5, none⟩ = some (.int .i64 st) := (BX.out.bl 0 _ _ _ rfl).val rfl
  have p0_6 : x1.cell? ⟨w.heap.size, 6, none⟩ = some (.int .i64 mo) := (BX.out.bl 0 _ _ _ rfl).val rfl
  have z0 : ∀ k, x1.frozen? ⟨w.heap.size, k, none⟩ = false := (BX.out.bl 0 _ _ _ rfl).free
  have y0 : w.heap.size < x1.heap.size := (BX.out.bl 0 _ _ _ rfl).size
  have e0 : decide (0 ≤ kp) = true := by simp [h0]
  have e1 : decide (0 ≤ ki) = true := by simp [h1]
  have e2 : decide (0 ≤ kd) = true := by simp [h2]
  have e3 : decide (0 ≤ li) = false := by simp; omega
  go_wp2_with fail
  refine bodyPost_ret (v := .bool false) (by simp [results, Try.results15, go_sem, *]) rfl ⟨rfl, BX.out.be⟩
set_option maxRecDepth 100000 in
set_option maxHeartbeats 2000000 in
theorem rright_4 (sp kp ki kd li st mo : Int) (h0 : 0 ≤ kp) (h1 : 0 ≤ ki) (h2 : 0 ≤ kd) (h3 : 0 ≤ li) (h4 : ¬ 0 < st) (w : World) :
    Calls Try.prog 15 #[.agg #[.int .i64 sp, .int .i64 kp, .int .i64 ki, .int .i64 kd, .int .i64 li, .int .i64 st, .int .i64 mo]] w fun e w' => e = .returned (.bool false) ∧ Below w.heap.size w w' := by
  go_enter Try.func15, Try.ntmps15
  go_upto_region 1 with fail
  refine wp_worldx (fun wx => Bxs w wx [(w.heap.size, 36, [.int .i64 sp, .int .i64 kp, .int .i64 ki, .int .i64 kd, .int .i64 li, .int .i64 st, .int .i64 mo])]) ((Bxs.nil_ w).alloc_ _ _ (by simp)) ?_
  rintro x1 bx
  have BX := Lib.hid bx
  clear bx
  have p0_0 : x1.cell? ⟨w.heap.size, 0, none⟩ = some (.int .i64 sp) := (BX.out.bl 0 _ _ _ rfl).val rfl
  have p0_1 : x1.cell? ⟨w.heap.size, 1, none⟩ = some (.int .i64 kp) := (BX.out.bl 0 _ _ _ rfl).val rfl
  have p0_2 : x1.cell? ⟨w.heap.size, 2, none⟩ = some (.int .i64 ki) := (BX.out.bl 0 _ _ _ rfl).val rfl
  have p0_3 : x1.cell? ⟨w.heap.size, 3, none⟩ = some (.int .i64 kd) := (BX.out.bl 0 _ _ _ rfl).val rfl
  have p0_4 : x1.cell? ⟨w.heap.size, 4, none⟩ = some (.int .i64 li) := (BX.out.bl 0 _ _ _ rfl).val rfl
  have p0_5 : x1.cell? ⟨w.heap.size, 5, none⟩ = some (.int .i64 st) := (BX.out.bl 0 _ _ _ rfl).val rfl
  have p0_6 : x1.cell? ⟨w.heap.size, 6, none⟩ = some (.int .i64 mo) := (BX.out.bl 0 _ _ _ rfl).val rfl
  have z0 : ∀ k, x1.frozen? ⟨w.heap.size, k, none⟩ = false := (BX.out.bl 0 _ _ _ rfl).free
  have y0 : w.heap.size < x1.heap.size := (BX.out.bl 0 _ _ _ rfl).size
  have e0 : decide (0 ≤ kp) = true := by simp [h0]
  have e1 : decide (0 ≤ ki) = true := by simp [h1]
  have e2 : decide (0 ≤ kd) = true := by simp [h2]
  have e3 : decide (0 ≤ li) = true := by simp [h3]
  have e4 : decide (0 < st) = false := by simp; omega
  go_wp2_with fail
  refine bodyPost_ret (v := .bool false) (by simp [results, Try.results15, go_sem, *]) rfl ⟨rfl, BX.out.be⟩
set_option maxRecDepth 100000 in
set_option maxHeartbeats 2000000 in
theorem rright_5 (sp kp ki kd li st mo : Int) (h0 : 0 ≤ kp) (h1 : 0 ≤ ki) (h2 : 0 ≤ kd) (h3 : 0 ≤ li) (h4 : 0 < st) (h5 : ¬ 0 ≤ mo) (w : World) :
    Calls Try.prog 15 #[.agg #[.int .i64 sp, .int .i64 kp, .int .i64 ki, .int .i64 kd, .int .i64 li, .int .i64 st, .int .i64 mo]] w fun e w' => e = .returned (.bool false) ∧ Below w.heap.size w w' := by
  go_enter Try.func15, Try.ntmps15
  go_upto_region 1 with fail
  refine wp_worldx (fun wx => Bxs w wx [(w.heap.size, 36, [.int .i64 sp, .int .i64 kp, .int .i64 ki, .int .i64 kd, .int .i64 li, .int .i64 st, .int .i64 mo])]) ((Bxs.nil_ w).alloc_ _ _ (by simp)) ?_
  rintro x1 bx
  have BX := Lib.hid bx
  clear bx
  have p0_0 : x1.cell? ⟨w.heap.size, 0, none⟩ = some (.int .i64 sp) := (BX.out.bl 0 _ _ _ rfl).val rfl
  have p0_1 : x1.cell? ⟨w.heap.size, 1, none⟩ = some (.int .i64 kp) := (BX.out.bl 0 _ _ _ rfl).val rfl
  have p0_2 : x1.cell? ⟨w.heap.size, 2, none⟩ = some (.int .i64 ki) := (BX.out.bl 0 _ _ _ rfl).val rfl
  have p0_3 : x1.cell? ⟨w.heap.size, 3, none⟩ = some (.int .i64 kd) := (BX.out.bl 0 _ _ _ rfl).val rfl
  have p0_4 : x1.cell? ⟨w.heap.size, 4, none⟩ = some (.int .i64 li) := (BX.out.bl 0 _ _ _ rfl).val rfl
  have p0_5 : x1.cell? ⟨w.heap.size, 5, none⟩ = some (.int .i64 st) := (BX.out.bl 0 _ _ _ rfl).val rfl
  have p0_6 : x1.cell? ⟨w.heap.size, 6, none⟩ = some (.int .i64 mo) := (BX.out.bl 0 _ _ _ rfl).val rfl
  have z0 : ∀ k, x1.frozen? ⟨w.heap.size, k, none⟩ = false := (BX.out.bl 0 _ _ _ rfl).free
  have y0 : w.heap.size < x1.heap.size := (BX.out.bl 0 _ _ _ rfl).size
  have e0 : decide (0 ≤ kp) = true := by simp [h0]
  have e1 : decide (0 ≤ ki) = true := by simp [h1]
  have e2 : decide (0 ≤ kd) = true := by simp [h2]
  have e3 : decide (0 ≤ li) = true := by simp [h3]
  have e4 : decide (0 < st) = true := by simp [h4]
  have e5 : decide (0 ≤ mo) = false := by simp; omega
  go_wp2_with fail
  refine bodyPost_ret (v := .bool false) (by simp [results, Try.results15, go_sem, *]) rfl ⟨rfl, BX.out.be⟩
set_option maxRecDepth 100000 in
set_option maxHeartbeats 2000000 in
theorem rright_6 (sp kp ki kd li st mo : Int) (h0 : 0 ≤ kp) (h1 : 0 ≤ ki) (h2 : 0 ≤ kd) (h3 : 0 ≤ li) (h4 : 0 < st) (h5 : 0 ≤ mo) (w : World) :
    Calls Try.prog 15 #[.agg #[.int .i64 sp, .int .i64 kp, .int .i64 ki, .int .i64 kd, .int .i64 li, .int .i64 st, .int .i64 mo]] w fun e w' => e = .returned (.bool true) ∧ Below w.heap.size w w' := by
  go_enter Try.func15, Try.ntmps15
  go_upto_region 1 with fail
  refine wp_worldx (fun wx => Bxs w wx [(w.heap.size, 36, [.int .i64 sp, .int .i64 kp, .int .i64 ki, .int .i64 kd, .int .i64 li, .int .i64 st, .int .i64 mo])]) ((Bxs.nil_ w).alloc_ _ _ (by simp)) ?_
  rintro x1 bx
  have BX := Lib.hid bx
  clear bx
  have p0_0 : x1.cell? ⟨w.heap.size, 0, none⟩ = some (.int .i64 sp) := (BX.out.bl 0 _ _ _ rfl).val rfl
  have p0_1 : x1.cell? ⟨w.heap.size, 1, none⟩ = some (.int .i64 kp) := (BX.out.bl 0 _ _ _ rfl).val rfl
  have p0_2 : x1.cell? ⟨w.heap.size, 2, none⟩ = some (.int .i64 ki) := (BX.out.bl 0 _ _ _ rfl).val rfl
  have p0_3 : x1.cell? ⟨w.heap.size, 3, none⟩ = some (.int .i64 kd) := (BX.out.bl 0 _ _ _ rfl).val rfl
  have p0_4 : x1.cell? ⟨w.heap.size, 4, none⟩ = some (.int .i64 li) := (BX.out.bl 0 _ _ _ rfl).val rfl
  have p0_5 : x1.cell? ⟨w.heap.size, 5, none⟩ = some (.int .i64 st) := (BX.out.bl 0 _ _ _ rfl).val rfl
  have p0_6 : x1.cell? ⟨w.heap.size, 6, none⟩ = some (.int .i64 mo) := (BX.out.bl 0 _ _ _ rfl).val rfl
  have z0 : ∀ k, x1.frozen? ⟨w.heap.size, k, none⟩ = false := (BX.out.bl 0 _ _ _ rfl).free
  have y0 : w.heap.size < x1.heap.size := (BX.out.bl 0 _ _ _ rfl).size
  have e0 : decide (0 ≤ kp) = true := by simp [h0]
  have e1 : decide (0 ≤ ki) = true := by simp [h1]
  have e2 : decide (0 ≤ kd) = true := by simp [h2]
  have e3 : decide (0 ≤ li) = true := by simp [h3]
  have e4 : decide (0 < st) = true := by simp [h4]
  have e5 : decide (0 ≤ mo) = true := by simp [h5]
  go_wp2_with fail
  refine bodyPost_ret (v := .bool true) (by simp [results, Try.results15, go_sem, *]) rfl ⟨rfl, BX.out.be⟩
theorem rright_any (sp kp ki kd li st mo : Int) (w : World) :
    Calls Try.prog 15 #[.agg #[.int .i64 sp, .int .i64 kp, .int .i64 ki, .int .i64 kd, .int .i64 li, .int .i64 st, .int .i64 mo]] w fun e w' => e = .returned (.bool (rightB kp ki kd li st mo)) ∧ Below w.heap.size w w' := by
  by_cases h0 : 0 ≤ kp
  case neg => rw [show rightB kp ki kd li st mo = false from by unfold rightB; simp; omega]; exact rright_0 sp kp ki kd li st mo h0 w
  by_cases h1 : 0 ≤ ki
  case neg => rw [show rightB kp ki kd li st mo = false from by unfold rightB; simp; omega]; exact rright_1 sp kp ki kd li st mo h0 h1 w
  by_cases h2 : 0 ≤ kd
  case neg => rw [show rightB kp ki kd li st mo = false from by unfold rightB; simp; omega]; exact rright_2 sp kp ki kd li st mo h0 h1 h2 w
  by_cases h3 : 0 ≤ li
  case neg => rw [show rightB kp ki kd li st mo = false from by unfold rightB; simp; omega]; exact rright_3 sp kp ki kd li st mo h0 h1 h2 h3 w
  by_cases h4 : 0 < st
  case neg => rw [show rightB kp ki kd li st mo = false from by unfold rightB; simp; omega]; exact rright_4 sp kp ki kd li st mo h0 h1 h2 h3 h4 w
  by_cases h5 : 0 ≤ mo
  case neg => rw [show rightB kp ki kd li st mo = false from by unfold rightB; simp; omega]; exact rright_5 sp kp ki kd li st mo h0 h1 h2 h3 h4 h5 w
  rw [show rightB kp ki kd li st mo = true from by unfold rightB; simp; omega]; exact rright_6 sp kp ki kd li st mo h0 h1 h2 h3 h4 h5 w
set_option maxRecDepth 100000 in
set_option maxHeartbeats 2000000 in
theorem awake11 (w : World) :
    Calls Try.prog 8 #[] w fun e w' => e = .returned (.bool true) ∧ Below w.heap.size w w' := by
  go_enter Try.func8, Try.ntmps8
  go_upto_region 2 with fail
  refine wp_worldx (fun wx => Bxs w wx [(w.heap.size, 26, [.int .i64 4294967296, .int .i64 8589934592, .int .i64 0, .int .i64 0, .int .i64 0, .int .i64 100, .int .i64 1000])]) ((Bxs.nil_ w).alloc_ _ _ (by simp)) ?_
  rintro x1 bx
  have BX := Lib.hid bx
  clear bx
  have p0_0 : x1.cell? ⟨w.heap.size, 0, none⟩ = some (.int .i64 4294967296) := (BX.out.bl 0 _ _ _ rfl).val rfl
  have p0_1 : x1.cell? ⟨w.heap.size, 1, none⟩ = some (.int .i64 8589934592) := (BX.out.bl 0 _ _ _ rfl).val rfl
  have p0_2 : x1.cell? ⟨w.heap.size, 2, none⟩ = some (.int .i64 0) := (BX.out.bl 0 _ _ _ rfl).val rfl
  have p0_3 : x1.cell? ⟨w.heap.size, 3, none⟩ = some (.int .i64 0) := (BX.out.bl 0 _ _ _ rfl).val rfl
  have p0_4 : x1.cell? ⟨w.heap.size, 4, none⟩ = some (.int .i64 0) := (BX.out.bl 0 _ _ _ rfl).val rfl
  have p0_5 : x1.cell? ⟨w.heap.size, 5, none⟩ = some (.int .i64 100) := (BX.out.bl 0 _ _ _ rfl).val rfl
  have p0_6 : x1.cell? ⟨w.heap.size, 6, none⟩ = some (.int .i64 1000) := (BX.out.bl 0 _ _ _ rfl).val rfl
  have z0 : ∀ k, x1.frozen? ⟨w.heap.size, k, none⟩ = false := (BX.out.bl 0 _ _ _ rfl).free
  have y0 : w.heap.size < x1.heap.size := (BX.out.bl 0 _ _ _ rfl).size
  go_wp2_with fail
  refine (psamp_lit 0 0 0 4294967296 8589934592 0 0 0 100 1000 17179869184 0 12884901888 6 (Lib.hid (by kernel_rfl)) _ (by decide) (by decide) (by decide) (by decide) (by decide) (by decide) (by decide) (by decide) (by decide) (by decide) (by decide) (by decide) (by decide) (by decide) (by decide) (by decide) (by decide) (by decide) (by decide) (by decide) (by decide) (by decide) ).mono ?_
  rintro e x2 ⟨rfl, hb⟩
  have bx : Bxs w x2 [(w.heap.size, 26, [.int .i64 4294967296, .int .i64 8589934592, .int .i64 0, .int .i64 0, .int .i64 0, .int .i64 100, .int .i64 1000])] := (BX.out).below hb
  clear p0_0 p0_1 p0_2 p0_3 p0_4 p0_5 p0_6 z0 y0
  clear hb BX
  have BX := Lib.hid bx
  clear bx
  have p0_0 : x2.cell? ⟨w.heap.size, 0, none⟩ = some (.int .i64 4294967296) := (BX.out.bl 0 _ _ _ rfl).val rfl
  have p0_1 : x2.cell? ⟨w.heap.size, 1, none⟩ = some (.int .i64 8589934592) := (BX.out.bl 0 _ _ _ rfl).val rfl
  have p0_2 : x2.cell? ⟨w.heap.size, 2, none⟩ = some (.int .i64 0) := (BX.out.bl 0 _ _ _ rfl).val rfl
  have p0_3 : x2.cell? ⟨w.heap.size, 3, none⟩ = some (.int .i64 0) := (BX.out.bl 0 _ _ _ rfl).val rfl
  have p0_4 : x2.cell? ⟨w.heap.size, 4, none⟩ = some (.int .i64 0) := (BX.out.bl 0 _ _ _ rfl).val rfl
  have p0_5 : x2.cell? ⟨w.heap.size, 5, none⟩ = some (.int .i64 100) := (BX.out.bl 0 _ _ _ rfl).val rfl
  have p0_6 : x2.cell? ⟨w.heap.size, 6, none⟩ = some (.int .i64 1000) := (BX.out.bl 0 _ _ _ rfl).val rfl
  have z0 : ∀ k, x2.frozen? ⟨w.heap.size, k, none⟩ = false := (BX.out.bl 0 _ _ _ rfl).free
  have y0 : w.heap.size < x2.heap.size := (BX.out.bl 0 _ _ _ rfl).size
  go_upto_region 3 with fail
  clear p0_0 p0_1 p0_2 p0_3 p0_4 p0_5 p0_6 z0 y0
  refine wp_worldx (fun wx => Bxs w wx [(w.heap.size, 26, [.int .i64 4294967296, .int .i64 8589934592, .int .i64 0, .int .i64 0, .int .i64 0, .int .i64 100, .int .i64 1000]), (x2.heap.size, 24, [.int .i64 0, .int .i64 12884901888, .int .i64 6])]) ((BX.out).alloc_ _ _ (by simp)) ?_
  clear BX
  rintro x3 bx
  have BX := Lib.hid bx
  clear bx
  have p0_0 : x3.cell? ⟨w.heap.size, 0, none⟩ = some (.int .i64 4294967296) := (BX.out.bl 0 _ _ _ rfl).val rfl
  have p0_1 : x3.cell? ⟨w.heap.size, 1, none⟩ = some (.int .i64 8589934592) := (BX.out.bl 0 _ _ _ rfl).val rfl
  have p0_2 : x3.cell? ⟨w.heap.size, 2, none⟩ = some (.int .i64 0) := (BX.out.bl 0 _ _ _ rfl).val rfl
  have p0_3 : x3.cell? ⟨w.heap.size, 3, none⟩ = some (.int .i64 0) := (BX.out.bl 0 _ _ _ rfl).val rfl
  have p0_4 : x3.cell? ⟨w.heap.size, 4, none⟩ = some (.int .i64 0) := (BX.out.bl 0 _ _ _ rfl).val rfl
  have p0_5 : x3.cell? ⟨w.heap.size, 5, none⟩ = some (.int .i64 100) := (BX.out.bl 0 _ _ _ rfl).val rfl
  have p0_6 : x3.cell? ⟨w.heap.size, 6, none⟩ = some (.int .i64 1000) := (BX.out.bl 0 _ _ _ rfl).val rfl
  have z0 : ∀ k, x3.frozen? ⟨w.heap.size, k, none⟩ = false := (BX.out.bl 0 _ _ _ rfl).free
  have y0 : w.heap.size < x3.heap.size := (BX.out.bl 0 _ _ _ rfl).size
  have p1_0 : x3.cell? ⟨x2.heap.size, 0, none⟩ = some (.int .i64 0) := (BX.out.bl 1 _ _ _ rfl).val rfl
  have p1_1 : x3.cell? ⟨x2.heap.size, 1, none⟩ = some (.int .i64 12884901888) := (BX.out.bl 1 _ _ _ rfl).val rfl
  have p1_2 : x3.cell? ⟨x2.heap.size, 2, none⟩ = some (.int .i64 6) := (BX.out.bl 1 _ _ _ rfl).val rfl
  have z1 : ∀ k, x3.frozen? ⟨x2.heap.size, k, none⟩ = false := (BX.out.bl 1 _ _ _ rfl).free
  have y1 : x2.heap.size < x3.heap.size := (BX.out.bl 1 _ _ _ rfl).size
  go_wp2_with fail
  refine (psamp_lit 0 12884901888 6 4294967296 8589934592 0 0 0 100 1000 4294967296 0 0 5 (Lib.hid (by kernel_rfl)) _ (by decide) (by decide) (by decide) (by decide) (by decide) (by decide) (by decide) (by decide) (by decide) (by decide) (by decide) (by decide) (by decide) (by decide) (by decide) (by decide) (by decide) (by decide) (by decide) (by decide) (by decide) (by decide) ).mono ?_
  rintro e x4 ⟨rfl, hb⟩
  have bx : Bxs w x4 [(w.heap.size, 26, [.int .i64 4294967296, .int .i64 8589934592, .int .i64 0, .int .i64 0, .int .i64 0, .int .i64 100, .int .i64 1000]), (x2.heap.size, 24, [.int .i64 0, .int .i64 12884901888, .int .i64 6])] := (BX.out).below hb
  clear p0_0 p0_1 p0_2 p0_3 p0_4 p0_5 p0_6 z0 y0 p1_0 p1_1 p1_2 z1 y1
  clear hb BX
  have BX := Lib.hid bx
  clear bx
  have p0_0 : x4.cell? ⟨w.heap.size, 0, none⟩ = some (.int .i64 4294967296) := (BX.out.bl 0 _ _ _ rfl).val rfl
  have p0_1 : x4.cell? ⟨w.heap.size, 1, none⟩ = some (.int .i64 8589934592) := (BX.out.bl 0 _ _ _ rfl).val rfl
  have p0_2 : x4.cell? ⟨w.heap.size, 2, none⟩ = some (.int .i64 0) := (BX.out.bl 0 _ _ _ rfl).val rfl
  have p0_3 : x4.cell? ⟨w.heap.size, 3, none⟩ = some (.int .i64 0) := (BX.out.bl 0 _ _ _ rfl).val rfl
  have p0_4 : x4.cell? ⟨w.heap.size, 4, none⟩ = some (.int .i64 0) := (BX.out.bl 0 _ _ _ rfl).val rfl
  have p0_5 : x4.cell? ⟨w.heap.size, 5, none⟩ = some (.int .i64 100) := (BX.out.bl 0 _ _ _ rfl).val rfl
  have p0_6 : x4.cell? ⟨w.heap.size, 6, none⟩ = some (.int .i64 1000) := (BX.out.bl 0 _ _ _ rfl).val rfl
  have z0 : ∀ k, x4.frozen? ⟨w.heap.size, k, none⟩ = false := (BX.out.bl 0 _ _ _ rfl).free
  have y0 : w.heap.size < x4.heap.size := (BX.out.bl 0 _ _ _ rfl).size
  have p1_0 : x4.cell? ⟨x2.heap.size, 0, none⟩ = some (.int .i64 0) := (BX.out.bl 1 _ _ _ rfl).val rfl
  have p1_1 : x4.cell? ⟨x2.heap.size, 1, none⟩ = some (.int .i64 12884901888) := (BX.out.bl 1 _ _ _ rfl).val rfl
  have p1_2 : x4.cell? ⟨x2.heap.size, 2, none⟩ = some (.int .i64 6) := (BX.out.bl 1 _ _ _ rfl).val rfl
  have z1 : ∀ k, x4.frozen? ⟨x2.heap.size, k, none⟩ = false := (BX.out.bl 1 _ _ _ rfl).free
  have y1 : x2.heap.size < x4.heap.size := (BX.out.bl 1 _ _ _ rfl).size
  go_upto_region 4 with fail
  clear p0_0 p0_1 p0_2 p0_3 p0_4 p0_5 p0_6 z0 y0 p1_0 p1_1 p1_2 z1 y1
  refine wp_worldx (fun wx => Bxs w wx [(w.heap.size, 26, [.int .i64 4294967296, .int .i64 8589934592, .int .i64 0, .int .i64 0, .int .i64 0, .int .i64 100, .int .i64 1000]), (x2.heap.size, 24, [.int .i64 0, .int .i64 12884901888, .int .i64 6]), (x4.heap.size, 24, [.int .i64 0, .int .i64 0, .int .i64 5])]) ((BX.out).alloc_ _ _ (by simp)) ?_
  clear BX
  rintro x5 bx
  have BX := Lib.hid bx
  clear bx
  have p0_0 : x5.cell? ⟨w.heap.size, 0, none⟩ = some (.int .i64 4294967296) := (BX.out.bl 0 _ _ _ rfl).val rfl
  have p0_1 : x5.cell? ⟨w.heap.size, 1, none⟩ = some (.int .i64 8589934592) := (BX.out.bl 0 _ _ _ rfl).val rfl
  have p0_2 : x5.cell? ⟨w.heap.size, 2, none⟩ = some (.int .i64 0) := (BX.out.bl 0 _ _ _ rfl).val rfl
  have p0_3 : x5.cell? ⟨w.heap.size, 3, none⟩ = some (.int .i64 0) := (BX.out.bl 0 _ _ _ rfl).val rfl
  have p0_4 : x5.cell? ⟨w.heap.size, 4, none⟩ = some (.int .i64 0) := (BX.out.bl 0 _ _ _ rfl).val rfl
  have p0_5 : x5.cell? ⟨w.heap.size, 5, none⟩ = some (.int .i64 100) := (BX.out.bl 0 _ _ _ rfl).val rfl
  have p0_6 : x5.cell? ⟨w.heap.size, 6, none⟩ = some (.int .i64 1000) := (BX.out.bl 0 _ _ _ rfl).val rfl
  have z0 : ∀ k, x5.frozen? ⟨w.heap.size, k, none⟩ = false := (BX.out.bl 0 _ _ _ rfl).free
  have y0 : w.heap.size < x5.heap.size := (BX.out.bl 0 _ _ _ rfl).size
  have p1_0 : x5.cell? ⟨x2.heap.size, 0, none⟩ = some (.int .i64 0) := (BX.out.bl 1 _ _ _ rfl).val rfl
  have p1_1 : x5.cell? ⟨x2.heap.size, 1, none⟩ = some (.int .i64 12884901888) := (BX.out.bl 1 _ _ _ rfl).val rfl
  have p1_2 : x5.cell? ⟨x2.heap.size, 2, none⟩ = some (.int .i64 6) := (BX.out.bl 1 _ _ _ rfl).val rfl
  have z1 : ∀ k, x5.frozen? ⟨x2.heap.size, k, none⟩ = false := (BX.out.bl 1 _ _ _ rfl).free
  have y1 : x2.heap.size < x5.heap.size := (BX.out.bl 1 _ _ _ rfl).size
  have p2_0 : x5.cell? ⟨x4.heap.size, 0, none⟩ = some (.int .i64 0) := (BX.out.bl 2 _ _ _ rfl).val rfl
  have p2_1 : x5.cell? ⟨x4.heap.size, 1, none⟩ = some (.int .i64 0) := (BX.out.bl 2 _ _ _ rfl).val rfl
  have p2_2 : x5.cell? ⟨x4.heap.size, 2, none⟩ = some (.int .i64 5) := (BX.out.bl 2 _ _ _ rfl).val rfl
  have z2 : ∀ k, x5.frozen? ⟨x4.heap.size, k, none⟩ = false := (BX.out.bl 2 _ _ _ rfl).free
  have y2 : x4.heap.size < x5.heap.size := (BX.out.bl 2 _ _ _ rfl).size
  go_wp2_with fail
  refine (pright_6 4294967296 8589934592 0 0 0 100 1000 (by decide) (by decide) (by decide) (by decide) (by decide) (by decide) _).mono ?_
  rintro e x6 ⟨rfl, hb⟩
  have bx : Bxs w x6 [(w.heap.size, 26, [.int .i64 4294967296, .int .i64 8589934592, .int .i64 0, .int .i64 0, .int .i64 0, .int .i64 100, .int .i64 1000]), (x2.heap.size, 24, [.int .i64 0, .int .i64 12884901888, .int .i64 6]), (x4.heap.size, 24, [.int .i64 0, .int .i64 0, .int .i64 5])] := (BX.out).below hb
  clear p0_0 p0_1 p0_2 p0_3 p0_4 p0_5 p0_6 z0 y0 p1_0 p1_1 p1_2 z1 y1 p2_0 p2_1 p2_2 z2 y2
  clear hb BX
  have BX := Lib.hid bx
  clear bx
  have p0_0 : x6.cell? ⟨w.heap.size, 0, none⟩ = some (.int .i64 4294967296) := (BX.out.bl 0 _ _ _ rfl).val rfl
  have p0_1 : x6.cell? ⟨w.heap.size, 1, none⟩ = some (.int .i64 8589934592) := (BX.out.bl 0 _ _ _ rfl).val rfl
  have p0_2 : x6.cell? ⟨w.heap.size, 2, none⟩ = some (.int .i64 0) := (BX.out.bl 0 _ _ _ rfl).val rfl
  have p0_3 : x6.cell? ⟨w.heap.size, 3, none⟩ = some (.int .i64 0) := (BX.out.bl 0 _ _ _ rfl).val rfl
  have p0_4 : x6.cell? ⟨w.heap.size, 4, none⟩ = some (.int .i64 0) := (BX.out.bl 0 _ _ _ rfl).val rfl
  have p0_5 : x6.cell? ⟨w.heap.size, 5, none⟩ = some (.int .i64 100) := (BX.out.bl 0 _ _ _ rfl).val rfl
  have p0_6 : x6.cell? ⟨w.heap.size, 6, none⟩ = some (.int .i64 1000) := (BX.out.bl 0 _ _ _ rfl).val rfl
  have z0 : ∀ k, x6.frozen? ⟨w.heap.size, k, none⟩ = false := (BX.out.bl 0 _ _ _ rfl).free
  have y0 : w.heap.size < x6.heap.size := (BX.out.bl 0 _ _ _ rfl).size
  have p1_0 : x6.cell? ⟨x2.heap.size, 0, none⟩ = some (.int .i64 0) := (BX.out.bl 1 _ _ _ rfl).val rfl
  have p1_1 : x6.cell? ⟨x2.heap.size, 1, none⟩ = some (.int .i64 12884901888) := (BX.out.bl 1 _ _ _ rfl).val rfl
  have p1_2 : x6.cell? ⟨x2.heap.size, 2, none⟩ = some (.int .i64 6) := (BX.out.bl 1 _ _ _ rfl).val rfl
  have z1 : ∀ k, x6.frozen? ⟨x2.heap.size, k, none⟩ = false := (BX.out.bl 1 _ _ _ rfl).free
  have y1 : x2.heap.size < x6.heap.size := (BX.out.bl 1 _ _ _ rfl).size
  have p2_0 : x6.cell? ⟨x4.heap.size, 0, none⟩ = some (.int .i64 0) := (BX.out.bl 2 _ _ _ rfl).val rfl
  have p2_1 : x6.cell? ⟨x4.heap.size, 1, none⟩ = some (.int .i64 0) := (BX.out.bl 2 _ _ _ rfl).val rfl
  have p2_2 : x6.cell? ⟨x4.heap.size, 2, none⟩ = some (.int .i64 5) := (BX.out.bl 2 _ _ _ rfl).val rfl
  have z2 : ∀ k, x6.frozen? ⟨x4.heap.size, k, none⟩ = false := (BX.out.bl 2 _ _ _ rfl).free
  have y2 : x4.heap.size < x6.heap.size := (BX.out.bl 2 _ _ _ rfl).size
  go_wp2_with fail
  refine bodyPost_ret (v := .bool true) (by simp [results, Try.results8, go_sem, *]) rfl ⟨rfl, ?_⟩
  exact (BX.out).be
end Go.Proofs.Ytfbkimhblfpibaa
