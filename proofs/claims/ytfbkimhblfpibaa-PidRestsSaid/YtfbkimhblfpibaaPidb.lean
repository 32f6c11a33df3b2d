/- Pid: the document's sample. -/
import Derived.Test.YtfbkimhblfpibaaPid
import Derived.Deep.DeepCutAuto
import Derived.Deep.RegionHeld3
import Derived.BigQuiet
import Derived.Deep.QuietTactic
namespace Go.Proofs.Ytfbkimhblfpibaa
open Go.ChangeShapes Go.WideShapes Go.ChangeAt Go.RowKit Kn
set_option linter.unusedVariables false
set_option linter.unusedSimpArgs false
set_option maxRecDepth 100000 in
set_option maxHeartbeats 4000000 in
theorem rfall_n (su la le sp kp ki kd li st mo u d a1 a2 a3 : Int) (hc : u ≤ sp) (hd : Hid (sat (u - sp) = d)) (h1 : Hid (sat (prodN su 2147483648) = a1)) (hn : a1 < 0) (h2 : Hid (sat (le - 1) = a2)) (h3 : Hid (clampN a2 0 mo = a3)) (w : World) (su0 : -9223372036854775808 ≤ su) (su1 : su ≤ 9223372036854775807) (la0 : -9223372036854775808 ≤ la) (la1 : la ≤ 9223372036854775807) (le0 : -9223372036854775808 ≤ le) (le1 : le ≤ 9223372036854775807) (sp0 : -9223372036854775808 ≤ sp) (sp1 : sp ≤ 9223372036854775807) (kp0 : -9223372036854775808 ≤ kp) (kp1 : kp ≤ 9223372036854775807) (ki0 : -9223372036854775808 ≤ ki) (ki1 : ki ≤ 9223372036854775807) (kd0 : -9223372036854775808 ≤ kd) (kd1 : kd ≤ 9223372036854775807) (li0 : -9223372036854775808 ≤ li) (li1 : li ≤ 9223372036854775807) (st0 : -9223372036854775808 ≤ st) (st1 : st ≤ 9223372036854775807) (mo0 : -9223372036854775808 ≤ mo) (mo1 : mo ≤ 9223372036854775807) (u0 : -9223372036854775808 ≤ u) (u1 : u ≤ 9223372036854775807) (d0 : -9223372036854775808 ≤ d) (d1 : d ≤ 9223372036854775807) (a10 : -9223372036854775808 ≤ a1) (a11 : a1 ≤ 9223372036854775807) (a20 : -9223372036854775808 ≤ a2) (a21 : a2 ≤ 9223372036854775807) (a30 : -9223372036854775808 ≤ a3) (a31 : a3 ≤ 9223372036854775807) :
    Calls Try.prog 12 #[.agg #[.int .i64 su, .int .i64 la, .int .i64 le], .agg #[.int .i64 sp, .int .i64 kp, .int .i64 ki, .int .i64 kd, .int .i64 li, .int .i64 st, .int .i64 mo], .int .i64 u] w fun e w' => e = .returned (.agg #[.int .i64 0, .int .i64 d, .int .i64 a3]) ∧ Below w.heap.size w w' := by
  go_enter Try.func12, Try.ntmps12
  go_upto_region 1 with fail
  refine wp_worldx (fun wx => Bxs w wx [(w.heap.size, 30, [.int .i64 su, .int .i64 la, .int .i64 le]), (w.heap.size + 1, 36, [.int .i64 sp, .int .i64 kp, .int .i64 ki, .int .i64 kd, .int .i64 li, .int .i64 st, .int .i64 mo]), (w.heap.size + 1 + 1, 30, [.int .i64 0, .int .i64 0, .int .i64 0])]) ((((Bxs.nil_ w).alloc_ _ _ (by simp)).alloc_ _ _ (by simp)).alloc_ _ _ (by simp)) ?_
  rintro x1 bx
  have BX := Lib.hid bx
  clear bx
  have p0_0 : x1.cell? ⟨w.heap.size, 0, none⟩ = some (.int .i64 su) := (BX.out.bl 0 _ _ _ rfl).val rfl
  have p0_1 : x1.cell? ⟨w.heap.size, 1, none⟩ = some (.int .i64 la) := (BX.out.bl 0 _ _ _ rfl).val rfl
  have p0_2 : x1.cell? ⟨w.heap.size, 2, none⟩ = some (.int .i64 le) := (BX.out.bl 0 _ _ _ rfl).val rfl
  have z0 : ∀ k, x1.frozen? ⟨w.heap.size, k, none⟩ = false := (BX.out.bl 0 _ _ _ rfl).free
  have y0 : w.heap.size < x1.heap.size := (BX.out.bl 0 _ _ _ rfl).size
  have p1_0 : x1.cell? ⟨w.heap.size + 1, 0, none⟩ = some (.int .i64 sp) := (BX.out.bl 1 _ _ _ rfl).val rfl
  have p1_1 : x1.cell? ⟨w.heap.size + 1, 1, none⟩ = some (.int .i64 kp) := (BX.out.bl 1 _ _ _ rfl).val rfl
  have p1_2 : x1.cell? ⟨w.heap.size + 1, 2, none⟩ = some (.int .i64 ki) := (BX.out.bl 1 _ _ _ rfl).val rfl
  have p1_3 : x1.cell? ⟨w.heap.size + 1, 3, none⟩ = some (.int .i64 kd) := (BX.out.bl 1 _ _ _ rfl).val rfl
  have p1_4 : x1.cell? ⟨w.heap.size + 1, 4, none⟩ = some (.int .i64 li) := (BX.out.bl 1 _ _ _ rfl).val rfl
  have p1_5 : x1.cell? ⟨w.heap.size + 1, 5, none⟩ = some (.int .i64 st) := (BX.out.bl 1 _ _ _ rfl).val rfl
  have p1_6 : x1.cell? ⟨w.heap.size + 1, 6, none⟩ = some (.int .i64 mo) := (BX.out.bl 1 _ _ _ rfl).val rfl
  have z1 : ∀ k, x1.frozen? ⟨w.heap.size + 1, k, none⟩ = false := (BX.out.bl 1 _ _ _ rfl).free
  have y1 : w.heap.size + 1 < x1.heap.size := (BX.out.bl 1 _ _ _ rfl).size
  have p2_0 : x1.cell? ⟨w.heap.size + 1 + 1, 0, none⟩ = some (.int .i64 0) := (BX.out.bl 2 _ _ _ rfl).val rfl
  have p2_1 : x1.cell? ⟨w.heap.size + 1 + 1, 1, none⟩ = some (.int .i64 0) := (BX.out.bl 2 _ _ _ rfl).val rfl
  have p2_2 : x1.cell? ⟨w.heap.size + 1 + 1, 2, none⟩ = some (.int .i64 0) := (BX.out.bl 2 _ _ _ rfl).val rfl
  have z2 : ∀ k, x1.frozen? ⟨w.heap.size + 1 + 1, k, none⟩ = false := (BX.out.bl 2 _ _ _ rfl).free
  have y2 : w.heap.size + 1 + 1 < x1.heap.size := (BX.out.bl 2 _ _ _ rfl).size
  go_wp2_with fail
  refine (rsub02_any _ _ _ u0 u1 sp0 sp1).mono ?_
  rw [hd.out]
  rintro e x2 ⟨rfl, hb⟩
  have bx : Bxs w x2 [(w.heap.size, 30, [.int .i64 su, .int .i64 la, .int .i64 le]), (w.heap.size + 1, 36, [.int .i64 sp, .int .i64 kp, .int .i64 ki, .int .i64 kd, .int .i64 li, .int .i64 st, .int .i64 mo]), (w.heap.size + 1 + 1, 30, [.int .i64 0, .int .i64 0, .int .i64 0])] := (BX.out).below hb
  clear p0_0 p0_1 p0_2 z0 y0 p1_0 p1_1 p1_2 p1_3 p1_4 p1_5 p1_6 z1 y1 p2_0 p2_1 p2_2 z2 y2
  clear hb BX
  have BX := Lib.hid bx
  clear bx
  have p0_0 : x2.cell? ⟨w.heap.size, 0, none⟩ = some (.int .i64 su) := (BX.out.bl 0 _ _ _ rfl).val rfl
  have p0_1 : x2.cell? ⟨w.heap.size, 1, none⟩ = some (.int .i64 la) := (BX.out.bl 0 _ _ _ rfl).val rfl
  have p0_2 : x2.cell? ⟨w.heap.size, 2, none⟩ = some (.int .i64 le) := (BX.out.bl 0 _ _ _ rfl).val rfl
  have z0 : ∀ k, x2.frozen? ⟨w.heap.size, k, none⟩ = false := (BX.out.bl 0 _ _ _ rfl).free
  have y0 : w.heap.size < x2.heap.size := (BX.out.bl 0 _ _ _ rfl).size
  have p1_0 : x2.cell? ⟨w.heap.size + 1, 0, none⟩ = some (.int .i64 sp) := (BX.out.bl 1 _ _ _ rfl).val rfl
  have p1_1 : x2.cell? ⟨w.heap.size + 1, 1, none⟩ = some (.int .i64 kp) := (BX.out.bl 1 _ _ _ rfl).val rfl
  have p1_2 : x2.cell? ⟨w.heap.size + 1, 2, none⟩ = some (.int .i64 ki) := (BX.out.bl 1 _ _ _ rfl).val rfl
  have p1_3 : x2.cell? ⟨w.heap.size + 1, 3, none⟩ = some (.int .i64 kd) := (BX.out.bl 1 _ _ _ rfl).val rfl
  have p1_4 : x2.cell? ⟨w.heap.size + 1, 4, none⟩ = some (.int .i64 li) := (BX.out.bl 1 _ _ _ rfl).val rfl
  have p1_5 : x2.cell? ⟨w.heap.size + 1, 5, none⟩ = some (.int .i64 st) := (BX.out.bl 1 _ _ _ rfl).val rfl
  have p1_6 : x2.cell? ⟨w.heap.size + 1, 6, none⟩ = some (.int .i64 mo) := (BX.out.bl 1 _ _ _ rfl).val rfl
  have z1 : ∀ k, x2.frozen? ⟨w.heap.size + 1, k, none⟩ = false := (BX.out.bl 1 _ _ _ rfl).free
  have y1 : w.heap.size + 1 < x2.heap.size := (BX.out.bl 1 _ _ _ rfl).size
  have p2_0 : x2.cell? ⟨w.heap.size + 1 + 1, 0, none⟩ = some (.int .i64 0) := (BX.out.bl 2 _ _ _ rfl).val rfl
  have p2_1 : x2.cell? ⟨w.heap.size + 1 + 1, 1, none⟩ = some (.int .i64 0) := (BX.out.bl 2 _ _ _ rfl).val rfl
  have p2_2 : x2.cell? ⟨w.heap.size + 1 + 1, 2, none⟩ = some (.int .i64 0) := (BX.out.bl 2 _ _ _ rfl).val rfl
  have z2 : ∀ k, x2.frozen? ⟨w.heap.size + 1 + 1, k, none⟩ = false := (BX.out.bl 2 _ _ _ rfl).free
  have y2 : w.heap.size + 1 + 1 < x2.heap.size := (BX.out.bl 2 _ _ _ rfl).size
  have gz := y2
  go_upto_region 3 with fail
  clear p0_0 p0_1 p0_2 z0 y0 p1_0 p1_1 p1_2 p1_3 p1_4 p1_5 p1_6 z1 y1 p2_0 p2_1 p2_2 z2 y2
  refine wp_worldx (fun wx => Bxs w wx [(w.heap.size, 30, [.int .i64 su, .int .i64 la, .int .i64 le]), (w.heap.size + 1, 36, [.int .i64 sp, .int .i64 kp, .int .i64 ki, .int .i64 kd, .int .i64 li, .int .i64 st, .int .i64 mo]), (w.heap.size + 1 + 1, 30, [.int .i64 0, .int .i64 0, .int .i64 0]), (x2.heap.size, 30, [.int .i64 0, .int .i64 d, .int .i64 0])]) ((BX.out).alloc_ _ _ (by simp)) ?_
  clear BX
  rintro x3 bx
  have BX := Lib.hid bx
  clear bx
  have p0_0 : x3.cell? ⟨w.heap.size, 0, none⟩ = some (.int .i64 su) := (BX.out.bl 0 _ _ _ rfl).val rfl
  have p0_1 : x3.cell? ⟨w.heap.size, 1, none⟩ = some (.int .i64 la) := (BX.out.bl 0 _ _ _ rfl).val rfl
  have p0_2 : x3.cell? ⟨w.heap.size, 2, none⟩ = some (.int .i64 le) := (BX.out.bl 0 _ _ _ rfl).val rfl
  have z0 : ∀ k, x3.frozen? ⟨w.heap.size, k, none⟩ = false := (BX.out.bl 0 _ _ _ rfl).free
  have y0 : w.heap.size < x3.heap.size := (BX.out.bl 0 _ _ _ rfl).size
  have p1_0 : x3.cell? ⟨w.heap.size + 1, 0, none⟩ = some (.int .i64 sp) := (BX.out.bl 1 _ _ _ rfl).val rfl
  have p1_1 : x3.cell? ⟨w.heap.size + 1, 1, none⟩ = some (.int .i64 kp) := (BX.out.bl 1 _ _ _ rfl).val rfl
  have p1_2 : x3.cell? ⟨w.heap.size + 1, 2, none⟩ = some (.int .i64 ki) := (BX.out.bl 1 _ _ _ rfl).val rfl
  have p1_3 : x3.cell? ⟨w.heap.size + 1, 3, none⟩ = some (.int .i64 kd) := (BX.out.bl 1 _ _ _ rfl).val rfl
  have p1_4 : x3.cell? ⟨w.heap.size + 1, 4, none⟩ = some (.int .i64 li) := (BX.out.bl 1 _ _ _ rfl).val rfl
  have p1_5 : x3.cell? ⟨w.heap.size + 1, 5, none⟩ = some (.int .i64 st) := (BX.out.bl 1 _ _ _ rfl).val rfl
  have p1_6 : x3.cell? ⟨w.heap.size + 1, 6, none⟩ = some (.int .i64 mo) := (BX.out.bl 1 _ _ _ rfl).val rfl
  have z1 : ∀ k, x3.frozen? ⟨w.heap.size + 1, k, none⟩ = false := (BX.out.bl 1 _ _ _ rfl).free
  have y1 : w.heap.size + 1 < x3.heap.size := (BX.out.bl 1 _ _ _ rfl).size
  have p2_0 : x3.cell? ⟨w.heap.size + 1 + 1, 0, none⟩ = some (.int .i64 0) := (BX.out.bl 2 _ _ _ rfl).val rfl
  have p2_1 : x3.cell? ⟨w.heap.size + 1 + 1, 1, none⟩ = some (.int .i64 0) := (BX.out.bl 2 _ _ _ rfl).val rfl
  have p2_2 : x3.cell? ⟨w.heap.size + 1 + 1, 2, none⟩ = some (.int .i64 0) := (BX.out.bl 2 _ _ _ rfl).val rfl
  have z2 : ∀ k, x3.frozen? ⟨w.heap.size + 1 + 1, k, none⟩ = false := (BX.out.bl 2 _ _ _ rfl).free
  have y2 : w.heap.size + 1 + 1 < x3.heap.size := (BX.out.bl 2 _ _ _ rfl).size
  have p3_0 : x3.cell? ⟨x2.heap.size, 0, none⟩ = some (.int .i64 0) := (BX.out.bl 3 _ _ _ rfl).val rfl
  have p3_1 : x3.cell? ⟨x2.heap.size, 1, none⟩ = some (.int .i64 d) := (BX.out.bl 3 _ _ _ rfl).val rfl
  have p3_2 : x3.cell? ⟨x2.heap.size, 2, none⟩ = some (.int .i64 0) := (BX.out.bl 3 _ _ _ rfl).val rfl
  have z3 : ∀ k, x3.frozen? ⟨x2.heap.size, k, none⟩ = false := (BX.out.bl 3 _ _ _ rfl).free
  have y3 : x2.heap.size < x3.heap.size := (BX.out.bl 3 _ _ _ rfl).size
  go_wp2_with fail
  refine (rof02_any _ _ _ su0 su1 (by omega) (by omega)).mono ?_
  rw [h1.out]
  rintro e x4 ⟨rfl, hb⟩
  have bx : Bxs w x4 [(w.heap.size, 30, [.int .i64 su, .int .i64 la, .int .i64 le]), (w.heap.size + 1, 36, [.int .i64 sp, .int .i64 kp, .int .i64 ki, .int .i64 kd, .int .i64 li, .int .i64 st, .int .i64 mo]), (w.heap.size + 1 + 1, 30, [.int .i64 0, .int .i64 0, .int .i64 0]), (x2.heap.size, 30, [.int .i64 0, .int .i64 d, .int .i64 0])] := (BX.out).below hb
  clear p0_0 p0_1 p0_2 z0 y0 p1_0 p1_1 p1_2 p1_3 p1_4 p1_5 p1_6 z1 y1 p2_0 p2_1 p2_2 z2 y2 p3_0 p3_1 p3_2 z3 y3
  clear hb BX
  have BX := Lib.hid bx
  clear bx
  have p0_0 : x4.cell? ⟨w.heap.size, 0, none⟩ = some (.int .i64 su) := (BX.out.bl 0 _ _ _ rfl).val rfl
  have p0_1 : x4.cell? ⟨w.heap.size, 1, none⟩ = some (.int .i64 la) := (BX.out.bl 0 _ _ _ rfl).val rfl
  have p0_2 : x4.cell? ⟨w.heap.size, 2, none⟩ = some (.int .i64 le) := (BX.out.bl 0 _ _ _ rfl).val rfl
  have z0 : ∀ k, x4.frozen? ⟨w.heap.size, k, none⟩ = false := (BX.out.bl 0 _ _ _ rfl).free
  have y0 : w.heap.size < x4.heap.size := (BX.out.bl 0 _ _ _ rfl).size
  have p1_0 : x4.cell? ⟨w.heap.size + 1, 0, none⟩ = some (.int .i64 sp) := (BX.out.bl 1 _ _ _ rfl).val rfl
  have p1_1 : x4.cell? ⟨w.heap.size + 1, 1, none⟩ = some (.int .i64 kp) := (BX.out.bl 1 _ _ _ rfl).val rfl
  have p1_2 : x4.cell? ⟨w.heap.size + 1, 2, none⟩ = some (.int .i64 ki) := (BX.out.bl 1 _ _ _ rfl).val rfl
  have p1_3 : x4.cell? ⟨w.heap.size + 1, 3, none⟩ = some (.int .i64 kd) := (BX.out.bl 1 _ _ _ rfl).val rfl
  have p1_4 : x4.cell? ⟨w.heap.size + 1, 4, none⟩ = some (.int .i64 li) := (BX.out.bl 1 _ _ _ rfl).val rfl
  have p1_5 : x4.cell? ⟨w.heap.size + 1, 5, none⟩ = some (.int .i64 st) := (BX.out.bl 1 _ _ _ rfl).val rfl
  have p1_6 : x4.cell? ⟨w.heap.size + 1, 6, none⟩ = some (.int .i64 mo) := (BX.out.bl 1 _ _ _ rfl).val rfl
  have z1 : ∀ k, x4.frozen? ⟨w.heap.size + 1, k, none⟩ = false := (BX.out.bl 1 _ _ _ rfl).free
  have y1 : w.heap.size + 1 < x4.heap.size := (BX.out.bl 1 _ _ _ rfl).size
  have p2_0 : x4.cell? ⟨w.heap.size + 1 + 1, 0, none⟩ = some (.int .i64 0) := (BX.out.bl 2 _ _ _ rfl).val rfl
  have p2_1 : x4.cell? ⟨w.heap.size + 1 + 1, 1, none⟩ = some (.int .i64 0) := (BX.out.bl 2 _ _ _ rfl).val rfl
  have p2_2 : x4.cell? ⟨w.heap.size + 1 + 1, 2, none⟩ = some (.int .i64 0) := (BX.out.bl 2 _ _ _ rfl).val rfl
  have z2 : ∀ k, x4.frozen? ⟨w.heap.size + 1 + 1, k, none⟩ = false := (BX.out.bl 2 _ _ _ rfl).free
  have y2 : w.heap.size + 1 + 1 < x4.heap.size := (BX.out.bl 2 _ _ _ rfl).size
  have p3_0 : x4.cell? ⟨x2.heap.size, 0, none⟩ = some (.int .i64 0) := (BX.out.bl 3 _ _ _ rfl).val rfl
  have p3_1 : x4.cell? ⟨x2.heap.size, 1, none⟩ = some (.int .i64 d) := (BX.out.bl 3 _ _ _ rfl).val rfl
  have p3_2 : x4.cell? ⟨x2.heap.size, 2, none⟩ = some (.int .i64 0) := (BX.out.bl 3 _ _ _ rfl).val rfl
  have z3 : ∀ k, x4.frozen? ⟨x2.heap.size, k, none⟩ = false := (BX.out.bl 3 _ _ _ rfl).free
  have y3 : x2.heap.size < x4.heap.size := (BX.out.bl 3 _ _ _ rfl).size
  go_upto_region 5 with fail
  clear p0_0 p0_1 p0_2 z0 y0 p1_0 p1_1 p1_2 p1_3 p1_4 p1_5 p1_6 z1 y1 p2_0 p2_1 p2_2 z2 y2 p3_0 p3_1 p3_2 z3 y3
  refine wp_worldx (fun wx => Bxs w wx [(w.heap.size, 30, [.int .i64 su, .int .i64 la, .int .i64 le]), (w.heap.size + 1, 36, [.int .i64 sp, .int .i64 kp, .int .i64 ki, .int .i64 kd, .int .i64 li, .int .i64 st, .int .i64 mo]), (w.heap.size + 1 + 1, 30, [.int .i64 0, .int .i64 0, .int .i64 0]), (x2.heap.size, 30, [.int .i64 a1, .int .i64 d, .int .i64 0])]) ((BX.out).set_ 3 0 rfl _) ?_
  clear BX
  rintro x5 bx
  have BX := Lib.hid bx
  clear bx
  have p0_0 : x5.cell? ⟨w.heap.size, 0, none⟩ = some (.int .i64 su) := (BX.out.bl 0 _ _ _ rfl).val rfl
  have p0_1 : x5.cell? ⟨w.heap.size, 1, none⟩ = some (.int .i64 la) := (BX.out.bl 0 _ _ _ rfl).val rfl
  have p0_2 : x5.cell? ⟨w.heap.size, 2, none⟩ = some (.int .i64 le) := (BX.out.bl 0 _ _ _ rfl).val rfl
  have z0 : ∀ k, x5.frozen? ⟨w.heap.size, k, none⟩ = false := (BX.out.bl 0 _ _ _ rfl).free
  have y0 : w.heap.size < x5.heap.size := (BX.out.bl 0 _ _ _ rfl).size
  have p1_0 : x5.cell? ⟨w.heap.size + 1, 0, none⟩ = some (.int .i64 sp) := (BX.out.bl 1 _ _ _ rfl).val rfl
  have p1_1 : x5.cell? ⟨w.heap.size + 1, 1, none⟩ = some (.int .i64 kp) := (BX.out.bl 1 _ _ _ rfl).val rfl
  have p1_2 : x5.cell? ⟨w.heap.size + 1, 2, none⟩ = some (.int .i64 ki) := (BX.out.bl 1 _ _ _ rfl).val rfl
  have p1_3 : x5.cell? ⟨w.heap.size + 1, 3, none⟩ = some (.int .i64 kd) := (BX.out.bl 1 _ _ _ rfl).val rfl
  have p1_4 : x5.cell? ⟨w.heap.size + 1, 4, none⟩ = some (.int .i64 li) := (BX.out.bl 1 _ _ _ rfl).val rfl
  have p1_5 : x5.cell? ⟨w.heap.size + 1, 5, none⟩ = some (.int .i64 st) := (BX.out.bl 1 _ _ _ rfl).val rfl
  have p1_6 : x5.cell? ⟨w.heap.size + 1, 6, none⟩ = some (.int .i64 mo) := (BX.out.bl 1 _ _ _ rfl).val rfl
  have z1 : ∀ k, x5.frozen? ⟨w.heap.size + 1, k, none⟩ = false := (BX.out.bl 1 _ _ _ rfl).free
  have y1 : w.heap.size + 1 < x5.heap.size := (BX.out.bl 1 _ _ _ rfl).size
  have p2_0 : x5.cell? ⟨w.heap.size + 1 + 1, 0, none⟩ = some (.int .i64 0) := (BX.out.bl 2 _ _ _ rfl).val rfl
  have p2_1 : x5.cell? ⟨w.heap.size + 1 + 1, 1, none⟩ = some (.int .i64 0) := (BX.out.bl 2 _ _ _ rfl).val rfl
  have p2_2 : x5.cell? ⟨w.heap.size + 1 + 1, 2, none⟩ = some (.int .i64 0) := (BX.out.bl 2 _ _ _ rfl).val rfl
  have z2 : ∀ k, x5.frozen? ⟨w.heap.size + 1 + 1, k, none⟩ = false := (BX.out.bl 2 _ _ _ rfl).free
  have y2 : w.heap.size + 1 + 1 < x5.heap.size := (BX.out.bl 2 _ _ _ rfl).size
  have p3_0 : x5.cell? ⟨x2.heap.size, 0, none⟩ = some (.int .i64 a1) := (BX.out.bl 3 _ _ _ rfl).val rfl
  have p3_1 : x5.cell? ⟨x2.heap.size, 1, none⟩ = some (.int .i64 d) := (BX.out.bl 3 _ _ _ rfl).val rfl
  have p3_2 : x5.cell? ⟨x2.heap.size, 2, none⟩ = some (.int .i64 0) := (BX.out.bl 3 _ _ _ rfl).val rfl
  have z3 : ∀ k, x5.frozen? ⟨x2.heap.size, k, none⟩ = false := (BX.out.bl 3 _ _ _ rfl).free
  have y3 : x2.heap.size < x5.heap.size := (BX.out.bl 3 _ _ _ rfl).size
  go_upto_region 7 with fail
  clear p0_0 p0_1 p0_2 z0 y0 p1_0 p1_1 p1_2 p1_3 p1_4 p1_5 p1_6 z1 y1 p2_0 p2_1 p2_2 z2 y2 p3_0 p3_1 p3_2 z3 y3
  refine wp_worldx (fun wx => Bxs w wx [(w.heap.size, 30, [.int .i64 su, .int .i64 la, .int .i64 le]), (w.heap.size + 1, 36, [.int .i64 sp, .int .i64 kp, .int .i64 ki, .int .i64 kd, .int .i64 li, .int .i64 st, .int .i64 mo]), (w.heap.size + 1 + 1, 30, [.int .i64 0, .int .i64 0, .int .i64 0]), (x2.heap.size, 30, [.int .i64 0, .int .i64 d, .int .i64 0])]) ((BX.out).set_ 3 0 rfl _) ?_
  clear BX
  rintro x6 bx
  have BX := Lib.hid bx
  clear bx
  have p0_0 : x6.cell? ⟨w.heap.size, 0, none⟩ = some (.int .i64 su) := (BX.out.bl 0 _ _ _ rfl).val rfl
  have p0_1 : x6.cell? ⟨w.heap.size, 1, none⟩ = some (.int .i64 la) := (BX.out.bl 0 _ _ _ rfl).val rfl
  have p0_2 : x6.cell? ⟨w.heap.size, 2, none⟩ = some (.int .i64 le) := (BX.out.bl 0 _ _ _ rfl).val rfl
  have z0 : ∀ k, x6.frozen? ⟨w.heap.size, k, none⟩ = false := (BX.out.bl 0 _ _ _ rfl).free
  have y0 : w.heap.size < x6.heap.size := (BX.out.bl 0 _ _ _ rfl).size
  have p1_0 : x6.cell? ⟨w.heap.size + 1, 0, none⟩ = some (.int .i64 sp) := (BX.out.bl 1 _ _ _ rfl).val rfl
  have p1_1 : x6.cell? ⟨w.heap.size + 1, 1, none⟩ = some (.int .i64 kp) := (BX.out.bl 1 _ _ _ rfl).val rfl
  have p1_2 : x6.cell? ⟨w.heap.size + 1, 2, none⟩ = some (.int .i64 ki) := (BX.out.bl 1 _ _ _ rfl).val rfl
  have p1_3 : x6.cell? ⟨w.heap.size + 1, 3, none⟩ = some (.int .i64 kd) := (BX.out.bl 1 _ _ _ rfl).val rfl
  have p1_4 : x6.cell? ⟨w.heap.size + 1, 4, none⟩ = some (.int .i64 li) := (BX.out.bl 1 _ _ _ rfl).val rfl
  have p1_5 : x6.cell? ⟨w.heap.size + 1, 5, none⟩ = some (.int .i64 st) := (BX.out.bl 1 _ _ _ rfl).val rfl
  have p1_6 : x6.cell? ⟨w.heap.size + 1, 6, none⟩ = some (.int .i64 mo) := (BX.out.bl 1 _ _ _ rfl).val rfl
  have z1 : ∀ k, x6.frozen? ⟨w.heap.size + 1, k, none⟩ = false := (BX.out.bl 1 _ _ _ rfl).free
  have y1 : w.heap.size + 1 < x6.heap.size := (BX.out.bl 1 _ _ _ rfl).size
  have p2_0 : x6.cell? ⟨w.heap.size + 1 + 1, 0, none⟩ = some (.int .i64 0) := (BX.out.bl 2 _ _ _ rfl).val rfl
  have p2_1 : x6.cell? ⟨w.heap.size + 1 + 1, 1, none⟩ = some (.int .i64 0) := (BX.out.bl 2 _ _ _ rfl).val rfl
  have p2_2 : x6.cell? ⟨w.heap.size + 1 + 1, 2, none⟩ = some (.int .i64 0) := (BX.out.bl 2 _ _ _ rfl).val rfl
  have z2 : ∀ k, x6.frozen? ⟨w.heap.size + 1 + 1, k, none⟩ = false := (BX.out.bl 2 _ _ _ rfl).free
  have y2 : w.heap.size + 1 + 1 < x6.heap.size := (BX.out.bl 2 _ _ _ rfl).size
  have p3_0 : x6.cell? ⟨x2.heap.size, 0, none⟩ = some (.int .i64 0) := (BX.out.bl 3 _ _ _ rfl).val rfl
  have p3_1 : x6.cell? ⟨x2.heap.size, 1, none⟩ = some (.int .i64 d) := (BX.out.bl 3 _ _ _ rfl).val rfl
  have p3_2 : x6.cell? ⟨x2.heap.size, 2, none⟩ = some (.int .i64 0) := (BX.out.bl 3 _ _ _ rfl).val rfl
  have z3 : ∀ k, x6.frozen? ⟨x2.heap.size, k, none⟩ = false := (BX.out.bl 3 _ _ _ rfl).free
  have y3 : x2.heap.size < x6.heap.size := (BX.out.bl 3 _ _ _ rfl).size
  go_wp2_with fail
  go_region_held3 (fun w' => w'.cell? ⟨w.heap.size, 2, none⟩ = some (.int .i64 le) ∧ w'.cell? ⟨w.heap.size + 1, 6, none⟩ = some (.int .i64 mo)) (repeat (first | with_reducible assumption | refine ⟨?_, ?_⟩ | with_reducible refine kdrew ?_ | with_reducible refine kalloc ?_ _ | with_reducible refine kother ?_ (by simp; try omega))) (first | (go_at_call 21; refine (rsub02_any _ _ _ (by omega) (by omega) (by omega) (by omega)).mono ?_; (rw [h2.out]); rintro e wn ⟨rfl, hbn⟩; have bx : Bxs w wn [(w.heap.size, 30, [.int .i64 su, .int .i64 la, .int .i64 le]), (w.heap.size + 1, 36, [.int .i64 sp, .int .i64 kp, .int .i64 ki, .int .i64 kd, .int .i64 li, .int .i64 st, .int .i64 mo]), (w.heap.size + 1 + 1, 30, [.int .i64 0, .int .i64 0, .int .i64 0]), (x2.heap.size, 30, [.int .i64 0, .int .i64 d, .int .i64 0])] := (by first | exact BX.out.below hbn | exact BX.out.drew_.below hbn | exact (BX.out.drewN_ _).below hbn); clear hbn BX p0_0 p0_1 p0_2 z0 y0 p1_0 p1_1 p1_2 p1_3 p1_4 p1_5 p1_6 z1 y1 p2_0 p2_1 p2_2 z2 y2 p3_0 p3_1 p3_2 z3 y3; have BX := Lib.hid bx; clear bx; have p0_0 : wn.cell? ⟨w.heap.size, 0, none⟩ = some (.int .i64 su) := (BX.out.bl 0 _ _ _ rfl).val rfl; have p0_1 : wn.cell? ⟨w.heap.size, 1, none⟩ = some (.int .i64 la) := (BX.out.bl 0 _ _ _ rfl).val rfl; have p0_2 : wn.cell? ⟨w.heap.size, 2, none⟩ = some (.int .i64 le) := (BX.out.bl 0 _ _ _ rfl).val rfl; have z0 : ∀ k, wn.frozen? ⟨w.heap.size, k, none⟩ = false := (BX.out.bl 0 _ _ _ rfl).free; have y0 : w.heap.size < wn.heap.size := (BX.out.bl 0 _ _ _ rfl).size; have p1_0 : wn.cell? ⟨w.heap.size + 1, 0, none⟩ = some (.int .i64 sp) := (BX.out.bl 1 _ _ _ rfl).val rfl; have p1_1 : wn.cell? ⟨w.heap.size + 1, 1, none⟩ = some (.int .i64 kp) := (BX.out.bl 1 _ _ _ rfl).val rfl; have p1_2 : wn.cell? ⟨w.heap.size + 1, 2, none⟩ = some (.int .i64 ki) := (BX.out.bl 1 _ _ _ rfl).val rfl; have p1_3 : wn.cell? ⟨w.heap.size + 1, 3, none⟩ = some (.int .i64 kd) := (BX.out.bl 1 _ _ _ rfl).val rfl; have p1_4 : wn.cell? ⟨w.heap.size + 1, 4, none⟩ = some (.int .i64 li) := (BX.out.bl 1 _ _ _ rfl).val rfl; have p1_5 : wn.cell? ⟨w.heap.size + 1, 5, none⟩ = some (.int .i64 st) := (BX.out.bl 1 _ _ _ rfl).val rfl; have p1_6 : wn.cell? ⟨w.heap.size + 1, 6, none⟩ = some (.int .i64 mo) := (BX.out.bl 1 _ _ _ rfl).val rfl; have z1 : ∀ k, wn.frozen? ⟨w.heap.size + 1, k, none⟩ = false := (BX.out.bl 1 _ _ _ rfl).free; have y1 : w.heap.size + 1 < wn.heap.size := (BX.out.bl 1 _ _ _ rfl).size; have p2_0 : wn.cell? ⟨w.heap.size + 1 + 1, 0, none⟩ = some (.int .i64 0) := (BX.out.bl 2 _ _ _ rfl).val rfl; have p2_1 : wn.cell? ⟨w.heap.size + 1 + 1, 1, none⟩ = some (.int .i64 0) := (BX.out.bl 2 _ _ _ rfl).val rfl; have p2_2 : wn.cell? ⟨w.heap.size + 1 + 1, 2, none⟩ = some (.int .i64 0) := (BX.out.bl 2 _ _ _ rfl).val rfl; have z2 : ∀ k, wn.frozen? ⟨w.heap.size + 1 + 1, k, none⟩ = false := (BX.out.bl 2 _ _ _ rfl).free; have y2 : w.heap.size + 1 + 1 < wn.heap.size := (BX.out.bl 2 _ _ _ rfl).size; have p3_0 : wn.cell? ⟨x2.heap.size, 0, none⟩ = some (.int .i64 0) := (BX.out.bl 3 _ _ _ rfl).val rfl; have p3_1 : wn.cell? ⟨x2.heap.size, 1, none⟩ = some (.int .i64 d) := (BX.out.bl 3 _ _ _ rfl).val rfl; have p3_2 : wn.cell? ⟨x2.heap.size, 2, none⟩ = some (.int .i64 0) := (BX.out.bl 3 _ _ _ rfl).val rfl; have z3 : ∀ k, wn.frozen? ⟨x2.heap.size, k, none⟩ = false := (BX.out.bl 3 _ _ _ rfl).free; have y3 : x2.heap.size < wn.heap.size := (BX.out.bl 3 _ _ _ rfl).size) | (go_at_call 23; refine (rclamp_any _ _ _ _).mono ?_; (rw [h3.out]); rintro e wn ⟨rfl, rfl⟩))
  all_goals (go_wp2_with fail; refine bodyPost_ret (v := .agg #[.int .i64 0, .int .i64 d, .int .i64 a3]) (by simp [results, Try.results12, go_sem, *]) rfl ⟨rfl, ?_⟩; first | exact (((((BX.out).set_ 3 2 rfl _).set_ 2 0 rfl _).set_ 2 1 rfl _).set_ 2 2 rfl _).be | exact (((((BX.out.drew_).set_ 3 2 rfl _).set_ 2 0 rfl _).set_ 2 1 rfl _).set_ 2 2 rfl _).be | exact ((((((BX.out.drewN_ _)).set_ 3 2 rfl _).set_ 2 0 rfl _).set_ 2 1 rfl _).set_ 2 2 rfl _).be)
set_option maxRecDepth 100000 in
set_option maxHeartbeats 4000000 in
theorem rfall_p (su la le sp kp ki kd li st mo u d a1 a2 a3 : Int) (hc : u ≤ sp) (hd : Hid (sat (u - sp) = d)) (h1 : Hid (sat (prodN su 2147483648) = a1)) (hn : ¬ a1 < 0) (h2 : Hid (sat (le - 1) = a2)) (h3 : Hid (clampN a2 0 mo = a3)) (w : World) (su0 : -9223372036854775808 ≤ su) (su1 : su ≤ 9223372036854775807) (la0 : -9223372036854775808 ≤ la) (la1 : la ≤ 9223372036854775807) (le0 : -9223372036854775808 ≤ le) (le1 : le ≤ 9223372036854775807) (sp0 : -9223372036854775808 ≤ sp) (sp1 : sp ≤ 9223372036854775807) (kp0 : -9223372036854775808 ≤ kp) (kp1 : kp ≤ 9223372036854775807) (ki0 : -9223372036854775808 ≤ ki) (ki1 : ki ≤ 9223372036854775807) (kd0 : -9223372036854775808 ≤ kd) (kd1 : kd ≤ 9223372036854775807) (li0 : -9223372036854775808 ≤ li) (li1 : li ≤ 9223372036854775807) (st0 : -9223372036854775808 ≤ st) (st1 : st ≤ 9223372036854775807) (mo0 : -9223372036854775808 ≤ mo) (mo1 : mo ≤ 9223372036854775807) (u0 : -9223372036854775808 ≤ u) (u1 : u ≤ 9223372036854775807) (d0 : -9223372036854775808 ≤ d) (d1 : d ≤ 9223372036854775807) (a10 : -9223372036854775808 ≤ a1) (a11 : a1 ≤ 9223372036854775807) (a20 : -9223372036854775808 ≤ a2) (a21 : a2 ≤ 9223372036854775807) (a30 : -9223372036854775808 ≤ a3) (a31 : a3 ≤ 9223372036854775807) :
    Calls Try.prog 12 #[.agg #[.int .i64 su, .int .i64 la, .int .i64 le], .agg #[.int .i64 sp, .int .i64 kp, .int .i64 ki, .int .i64 kd, .int .i64 li, .int .i64 st, .int .i64 mo], .int .i64 u] w fun e w' => e = .returned (.agg #[.int .i64 a1, .int .i64 d, .int .i64 a3]) ∧ Below w.heap.size w w' := by
  go_enter Try.func12, Try.ntmps12
  go_upto_region 1 with fail
  refine wp_worldx (fun wx => Bxs w wx [(w.heap.size, 30, [.int .i64 su, .int .i64 la, .int .i64 le]), (w.heap.size + 1, 36, [.int .i64 sp, .int .i64 kp, .int .i64 ki, .int .i64 kd, .int .i64 li, .int .i64 st, .int .i64 mo]), (w.heap.size + 1 + 1, 30, [.int .i64 0, .int .i64 0, .int .i64 0])]) ((((Bxs.nil_ w).alloc_ _ _ (by simp)).alloc_ _ _ (by simp)).alloc_ _ _ (by simp)) ?_
  rintro x1 bx
  have BX := Lib.hid bx
  clear bx
  have p0_0 : x1.cell? ⟨w.heap.size, 0, none⟩ = some (.int .i64 su) := (BX.out.bl 0 _ _ _ rfl).val rfl
  have p0_1 : x1.cell? ⟨w.heap.size, 1, none⟩ = some (.int .i64 la) := (BX.out.bl 0 _ _ _ rfl).val rfl
  have p0_2 : x1.cell? ⟨w.heap.size, 2, none⟩ = some (.int .i64 le) := (BX.out.bl 0 _ _ _ rfl).val rfl
  have z0 : ∀ k, x1.frozen? ⟨w.heap.size, k, none⟩ = false := (BX.out.bl 0 _ _ _ rfl).free
  have y0 : w.heap.size < x1.heap.size := (BX.out.bl 0 _ _ _ rfl).size
  have p1_0 : x1.cell? ⟨w.heap.size + 1, 0, none⟩ = some (.int .i64 sp) := (BX.out.bl 1 _ _ _ rfl).val rfl
  have p1_1 : x1.cell? ⟨w.heap.size + 1, 1, none⟩ = some (.int .i64 kp) := (BX.out.bl 1 _ _ _ rfl).val rfl
  have p1_2 : x1.cell? ⟨w.heap.size + 1, 2, none⟩ = some (.int .i64 ki) := (BX.out.bl 1 _ _ _ rfl).val rfl
  have p1_3 : x1.cell? ⟨w.heap.size + 1, 3, none⟩ = some (.int .i64 kd) := (BX.out.bl 1 _ _ _ rfl).val rfl
  have p1_4 : x1.cell? ⟨w.heap.size + 1, 4, none⟩ = some (.int .i64 li) := (BX.out.bl 1 _ _ _ rfl).val rfl
  have p1_5 : x1.cell? ⟨w.heap.size + 1, 5, none⟩ = some (.int .i64 st) := (BX.out.bl 1 _ _ _ rfl).val rfl
  have p1_6 : x1.cell? ⟨w.heap.size + 1, 6, none⟩ = some (.int .i64 mo) := (BX.out.bl 1 _ _ _ rfl).val rfl
  have z1 : ∀ k, x1.frozen? ⟨w.heap.size + 1, k, none⟩ = false := (BX.out.bl 1 _ _ _ rfl).free
  have y1 : w.heap.size + 1 < x1.heap.size := (BX.out.bl 1 _ _ _ rfl).size
  have p2_0 : x1.cell? ⟨w.heap.size + 1 + 1, 0, none⟩ = some (.int .i64 0) := (BX.out.bl 2 _ _ _ rfl).val rfl
  have p2_1 : x1.cell? ⟨w.heap.size + 1 + 1, 1, none⟩ = some (.int .i64 0) := (BX.out.bl 2 _ _ _ rfl).val rfl
  have p2_2 : x1.cell? ⟨w.heap.size + 1 + 1, 2, none⟩ = some (.int .i64 0) := (BX.out.bl 2 _ _ _ rfl).val rfl
  have z2 : ∀ k, x1.frozen? ⟨w.heap.size + 1 + 1, k, none⟩ = false := (BX.out.bl 2 _ _ _ rfl).free
  have y2 : w.heap.size + 1 + 1 < x1.heap.size := (BX.out.bl 2 _ _ _ rfl).size
  go_wp2_with fail
  refine (rsub02_any _ _ _ u0 u1 sp0 sp1).mono ?_
  rw [hd.out]
  rintro e x2 ⟨rfl, hb⟩
  have bx : Bxs w x2 [(w.heap.size, 30, [.int .i64 su, .int .i64 la, .int .i64 le]), (w.heap.size + 1, 36, [.int .i64 sp, .int .i64 kp, .int .i64 ki, .int .i64 kd, .int .i64 li, .int .i64 st, .int .i64 mo]), (w.heap.size + 1 + 1, 30, [.int .i64 0, .int .i64 0, .int .i64 0])] := (BX.out).below hb
  clear p0_0 p0_1 p0_2 z0 y0 p1_0 p1_1 p1_2 p1_3 p1_4 p1_5 p1_6 z1 y1 p2_0 p2_1 p2_2 z2 y2
  clear hb BX
  have BX := Lib.hid bx
  clear bx
  have p0_0 : x2.cell? ⟨w.heap.size, 0, none⟩ = some (.int .i64 su) := (BX.out.bl 0 _ _ _ rfl).val rfl
  have p0_1 : x2.cell? ⟨w.heap.size, 1, none⟩ = some (.int .i64 la) := (BX.out.bl 0 _ _ _ rfl).val rfl
  have p0_2 : x2.cell? ⟨w.heap.size, 2, none⟩ = some (.int .i64 le) := (BX.out.bl 0 _ _ _ rfl).val rfl
  have z0 : ∀ k, x2.frozen? ⟨w.heap.size, k, none⟩ = false := (BX.out.bl 0 _ _ _ rfl).free
  have y0 : w.heap.size < x2.heap.size := (BX.out.bl 0 _ _ _ rfl).size
  have p1_0 : x2.cell? ⟨w.heap.size + 1, 0, none⟩ = some (.int .i64 sp) := (BX.out.bl 1 _ _ _ rfl).val rfl
  have p1_1 : x2.cell? ⟨w.heap.size + 1, 1, none⟩ = some (.int .i64 kp) := (BX.out.bl 1 _ _ _ rfl).val rfl
  have p1_2 : x2.cell? ⟨w.heap.size + 1, 2, none⟩ = some (.int .i64 ki) := (BX.out.bl 1 _ _ _ rfl).val rfl
  have p1_3 : x2.cell? ⟨w.heap.size + 1, 3, none⟩ = some (.int .i64 kd) := (BX.out.bl 1 _ _ _ rfl).val rfl
  have p1_4 : x2.cell? ⟨w.heap.size + 1, 4, none⟩ = some (.int .i64 li) := (BX.out.bl 1 _ _ _ rfl).val rfl
  have p1_5 : x2.cell? ⟨w.heap.size + 1, 5, none⟩ = some (.int .i64 st) := (BX.out.bl 1 _ _ _ rfl).val rfl
  have p1_6 : x2.cell? ⟨w.heap.size + 1, 6, none⟩ = some (.int .i64 mo) := (BX.out.bl 1 _ _ _ rfl).val rfl
  have z1 : ∀ k, x2.frozen? ⟨w.heap.size + 1, k, none⟩ = false := (BX.out.bl 1 _ _ _ rfl).free
  have y1 : w.heap.size + 1 < x2.heap.size := (BX.out.bl 1 _ _ _ rfl).size
  have p2_0 : x2.cell? ⟨w.heap.size + 1 + 1, 0, none⟩ = some (.int .i64 0) := (BX.out.bl 2 _ _ _ rfl).val rfl
  have p2_1 : x2.cell? ⟨w.heap.size + 1 + 1, 1, none⟩ = some (.int .i64 0) := (BX.out.bl 2 _ _ _ rfl).val rfl
  have p2_2 : x2.cell? ⟨w.heap.size + 1 + 1, 2, none⟩ = some (.int .i64 0) := (BX.out.bl 2 _ _ _ rfl).val rfl
  have z2 : ∀ k, x2.frozen? ⟨w.heap.size + 1 + 1, k, none⟩ = false := (BX.out.bl 2 _ _ _ rfl).free
  have y2 : w.heap.size + 1 + 1 < x2.heap.size := (BX.out.bl 2 _ _ _ rfl).size
  have gz := y2
  go_upto_region 3 with fail
  clear p0_0 p0_1 p0_2 z0 y0 p1_0 p1_1 p1_2 p1_3 p1_4 p1_5 p1_6 z1 y1 p2_0 p2_1 p2_2 z2 y2
  refine wp_worldx (fun wx => Bxs w wx [(w.heap.size, 30, [.int .i64 su, .int .i64 la, .int .i64 le]), (w.heap.size + 1, 36, [.int .i64 sp, .int .i64 kp, .int .i64 ki, .int .i64 kd, .int .i64 li, .int .i64 st, .int .i64 mo]), (w.heap.size + 1 + 1, 30, [.int .i64 0, .int .i64 0, .int .i64 0]), (x2.heap.size, 30, [.int .i64 0, .int .i64 d, .int .i64 0])]) ((BX.out).alloc_ _ _ (by simp)) ?_
  clear BX
  rintro x3 bx
  have BX := Lib.hid bx
  clear bx
  have p0_0 : x3.cell? ⟨w.heap.size, 0, none⟩ = some (.int .i64 su) := (BX.out.bl 0 _ _ _ rfl).val rfl
  have p0_1 : x3.cell? ⟨w.heap.size, 1, none⟩ = some (.int .i64 la) := (BX.out.bl 0 _ _ _ rfl).val rfl
  have p0_2 : x3.cell? ⟨w.heap.size, 2, none⟩ = some (.int .i64 le) := (BX.out.bl 0 _ _ _ rfl).val rfl
  have z0 : ∀ k, x3.frozen? ⟨w.heap.size, k, none⟩ = false := (BX.out.bl 0 _ _ _ rfl).free
  have y0 : w.heap.size < x3.heap.size := (BX.out.bl 0 _ _ _ rfl).size
  have p1_0 : x3.cell? ⟨w.heap.size + 1, 0, none⟩ = some (.int .i64 sp) := (BX.out.bl 1 _ _ _ rfl).val rfl
  have p1_1 : x3.cell? ⟨w.heap.size + 1, 1, none⟩ = some (.int .i64 kp) := (BX.out.bl 1 _ _ _ rfl).val rfl
  have p1_2 : x3.cell? ⟨w.heap.size + 1, 2, none⟩ = some (.int .i64 ki) := (BX.out.bl 1 _ _ _ rfl).val rfl
  have p1_3 : x3.cell? ⟨w.heap.size + 1, 3, none⟩ = some (.int .i64 kd) := (BX.out.bl 1 _ _ _ rfl).val rfl
  have p1_4 : x3.cell? ⟨w.heap.size + 1, 4, none⟩ = some (.int .i64 li) := (BX.out.bl 1 _ _ _ rfl).val rfl
  have p1_5 : x3.cell? ⟨w.heap.size + 1, 5, none⟩ = some (.int .i64 st) := (BX.out.bl 1 _ _ _ rfl).val rfl
  have p1_6 : x3.cell? ⟨w.heap.size + 1, 6, none⟩ = some (.int .i64 mo) := (BX.out.bl 1 _ _ _ rfl).val rfl
  have z1 : ∀ k, x3.frozen? ⟨w.heap.size + 1, k, none⟩ = false := (BX.out.bl 1 _ _ _ rfl).free
  have y1 : w.heap.size + 1 < x3.heap.size := (BX.out.bl 1 _ _ _ rfl).size
  have p2_0 : x3.cell? ⟨w.heap.size + 1 + 1, 0, none⟩ = some (.int .i64 0) := (BX.out.bl 2 _ _ _ rfl).val rfl
  have p2_1 : x3.cell? ⟨w.heap.size + 1 + 1, 1, none⟩ = some (.int .i64 0) := (BX.out.bl 2 _ _ _ rfl).val rfl
  have p2_2 : x3.cell? ⟨w.heap.size + 1 + 1, 2, none⟩ = some (.int .i64 0) := (BX.out.bl 2 _ _ _ rfl).val rfl
  have z2 : ∀ k, x3.frozen? ⟨w.heap.size + 1 + 1, k, none⟩ = false := (BX.out.bl 2 _ _ _ rfl).free
  have y2 : w.heap.size + 1 + 1 < x3.heap.size := (BX.out.bl 2 _ _ _ rfl).size
  have p3_0 : x3.cell? ⟨x2.heap.size, 0, none⟩ = some (.int .i64 0) := (BX.out.bl 3 _ _ _ rfl).val rfl
  have p3_1 : x3.cell? ⟨x2.heap.size, 1, none⟩ = some (.int .i64 d) := (BX.out.bl 3 _ _ _ rfl).val rfl
  have p3_2 : x3.cell? ⟨x2.heap.size, 2, none⟩ = some (.int .i64 0) := (BX.out.bl 3 _ _ _ rfl).val rfl
  have z3 : ∀ k, x3.frozen? ⟨x2.heap.size, k, none⟩ = false := (BX.out.bl 3 _ _ _ rfl).free
  have y3 : x2.heap.size < x3.heap.size := (BX.out.bl 3 _ _ _ rfl).size
  go_wp2_with fail
  refine (rof02_any _ _ _ su0 su1 (by omega) (by omega)).mono ?_
  rw [h1.out]
  rintro e x4 ⟨rfl, hb⟩
  have bx : Bxs w x4 [(w.heap.size, 30, [.int .i64 su, .int .i64 la, .int .i64 le]), (w.heap.size + 1, 36, [.int .i64 sp, .int .i64 kp, .int .i64 ki, .int .i64 kd, .int .i64 li, .int .i64 st, .int .i64 mo]), (w.heap.size + 1 + 1, 30, [.int .i64 0, .int .i64 0, .int .i64 0]), (x2.heap.size, 30, [.int .i64 0, .int .i64 d, .int .i64 0])] := (BX.out).below hb
  clear p0_0 p0_1 p0_2 z0 y0 p1_0 p1_1 p1_2 p1_3 p1_4 p1_5 p1_6 z1 y1 p2_0 p2_1 p2_2 z2 y2 p3_0 p3_1 p3_2 z3 y3
  clear hb BX
  have BX := Lib.hid bx
  clear bx
  have p0_0 : x4.cell? ⟨w.heap.size, 0, none⟩ = some (.int .i64 su) := (BX.out.bl 0 _ _ _ rfl).val rfl
  have p0_1 : x4.cell? ⟨w.heap.size, 1, none⟩ = some (.int .i64 la) := (BX.out.bl 0 _ _ _ rfl).val rfl
  have p0_2 : x4.cell? ⟨w.heap.size, 2, none⟩ = some (.int .i64 le) := (BX.out.bl 0 _ _ _ rfl).val rfl
  have z0 : ∀ k, x4.frozen? ⟨w.heap.size, k, none⟩ = false := (BX.out.bl 0 _ _ _ rfl).free
  have y0 : w.heap.size < x4.heap.size := (BX.out.bl 0 _ _ _ rfl).size
  have p1_0 : x4.cell? ⟨w.heap.size + 1, 0, none⟩ = some (.int .i64 sp) := (BX.out.bl 1 _ _ _ rfl).val rfl
  have p1_1 : x4.cell? ⟨w.heap.size + 1, 1, none⟩ = some (.int .i64 kp) := (BX.out.bl 1 _ _ _ rfl).val rfl
  have p1_2 : x4.cell? ⟨w.heap.size + 1, 2, none⟩ = some (.int .i64 ki) := (BX.out.bl 1 _ _ _ rfl).val rfl
  have p1_3 : x4.cell? ⟨w.heap.size + 1, 3, none⟩ = some (.int .i64 kd) := (BX.out.bl 1 _ _ _ rfl).val rfl
  have p1_4 : x4.cell? ⟨w.heap.size + 1, 4, none⟩ = some (.int .i64 li) := (BX.out.bl 1 _ _ _ rfl).val rfl
  have p1_5 : x4.cell? ⟨w.heap.size + 1, 5, none⟩ = some (.int .i64 st) := (BX.out.bl 1 _ _ _ rfl).val rfl
  have p1_6 : x4.cell? ⟨w.heap.size + 1, 6, none⟩ = some (.int .i64 mo) := (BX.out.bl 1 _ _ _ rfl).val rfl
  have z1 : ∀ k, x4.frozen? ⟨w.heap.size + 1, k, none⟩ = false := (BX.out.bl 1 _ _ _ rfl).free
  have y1 : w.heap.size + 1 < x4.heap.size := (BX.out.bl 1 _ _ _ rfl).size
  have p2_0 : x4.cell? ⟨w.heap.size + 1 + 1, 0, none⟩ = some (.int .i64 0) := (BX.out.bl 2 _ _ _ rfl).val rfl
  have p2_1 : x4.cell? ⟨w.heap.size + 1 + 1, 1, none⟩ = some (.int .i64 0) := (BX.out.bl 2 _ _ _ rfl).val rfl
  have p2_2 : x4.cell? ⟨w.heap.size + 1 + 1, 2, none⟩ = some (.int .i64 0) := (BX.out.bl 2 _ _ _ rfl).val rfl
  have z2 : ∀ k, x4.frozen? ⟨w.heap.size + 1 + 1, k, none⟩ = false := (BX.out.bl 2 _ _ _ rfl).free
  have y2 : w.heap.size + 1 + 1 < x4.heap.size := (BX.out.bl 2 _ _ _ rfl).size
  have p3_0 : x4.cell? ⟨x2.heap.size, 0, none⟩ = some (.int .i64 0) := (BX.out.bl 3 _ _ _ rfl).val rfl
  have p3_1 : x4.cell? ⟨x2.heap.size, 1, none⟩ = some (.int .i64 d) := (BX.out.bl 3 _ _ _ rfl).val rfl
  have p3_2 : x4.cell? ⟨x2.heap.size, 2, none⟩ = some (.int .i64 0) := (BX.out.bl 3 _ _ _ rfl).val rfl
  have z3 : ∀ k, x4.frozen? ⟨x2.heap.size, k, none⟩ = false := (BX.out.bl 3 _ _ _ rfl).free
  have y3 : x2.heap.size < x4.heap.size := (BX.out.bl 3 _ _ _ rfl).size
  go_upto_region 5 with fail
  clear p0_0 p0_1 p0_2 z0 y0 p1_0 p1_1 p1_2 p1_3 p1_4 p1_5 p1_6 z1 y1 p2_0 p2_1 p2_2 z2 y2 p3_0 p3_1 p3_2 z3 y3
  refine wp_worldx (fun wx => Bxs w wx [(w.heap.size, 30, [.int .i64 su, .int .i64 la, .int .i64 le]), (w.heap.size + 1, 36, [.int .i64 sp, .int .i64 kp, .int .i64 ki, .int .i64 kd, .int .i64 li, .int .i64 st, .int .i64 mo]), (w.heap.size + 1 + 1, 30, [.int .i64 0, .int .i64 0, .int .i64 0]), (x2.heap.size, 30, [.int .i64 a1, .int .i64 d, .int .i64 0])]) ((BX.out).set_ 3 0 rfl _) ?_
  clear BX
  rintro x5 bx
  have BX := Lib.hid bx
  clear bx
  have p0_0 : x5.cell? ⟨w.heap.size, 0, none⟩ = some (.int .i64 su) := (BX.out.bl 0 _ _ _ rfl).val rfl
  have p0_1 : x5.cell? ⟨w.heap.size, 1, none⟩ = some (.int .i64 la) := (BX.out.bl 0 _ _ _ rfl).val rfl
  have p0_2 : x5.cell? ⟨w.heap.size, 2, none⟩ = some (.int .i64 le) := (BX.out.bl 0 _ _ _ rfl).val rfl
  have z0 : ∀ k, x5.frozen? ⟨w.heap.size, k, none⟩ = false := (BX.out.bl 0 _ _ _ rfl).free
  have y0 : w.heap.size < x5.heap.size := (BX.out.bl 0 _ _ _ rfl).size
  have p1_0 : x5.cell? ⟨w.heap.size + 1, 0, none⟩ = some (.int .i64 sp) := (BX.out.bl 1 _ _ _ rfl).val rfl
  have p1_1 : x5.cell? ⟨w.heap.size + 1, 1, none⟩ = some (.int .i64 kp) := (BX.out.bl 1 _ _ _ rfl).val rfl
  have p1_2 : x5.cell? ⟨w.heap.size + 1, 2, none⟩ = some (.int .i64 ki) := (BX.out.bl 1 _ _ _ rfl).val rfl
  have p1_3 : x5.cell? ⟨w.heap.size + 1, 3, none⟩ = some (.int .i64 kd) := (BX.out.bl 1 _ _ _ rfl).val rfl
  have p1_4 : x5.cell? ⟨w.heap.size + 1, 4, none⟩ = some (.int .i64 li) := (BX.out.bl 1 _ _ _ rfl).val rfl
  have p1_5 : x5.cell? ⟨w.heap.size + 1, 5, none⟩ = some (.int .i64 st) := (BX.out.bl 1 _ _ _ rfl).val rfl
  have p1_6 : x5.cell? ⟨w.heap.size + 1, 6, none⟩ = some (.int .i64 mo) := (BX.out.bl 1 _ _ _ rfl).val rfl
  have z1 : ∀ k, x5.frozen? ⟨w.heap.size + 1, k, none⟩ = false := (BX.out.bl 1 _ _ _ rfl).free
  have y1 : w.heap.size + 1 < x5.heap.size := (BX.out.bl 1 _ _ _ rfl).size
  have p2_0 : x5.cell? ⟨w.heap.size + 1 + 1, 0, none⟩ = some (.int .i64 0) := (BX.out.bl 2 _ _ _ rfl).val rfl
  have p2_1 : x5.cell? ⟨w.heap.size + 1 + 1, 1, none⟩ = some (.int .i64 0) := (BX.out.bl 2 _ _ _ rfl).val rfl
  have p2_2 : x5.cell? ⟨w.heap.size + 1 + 1, 2, none⟩ = some (.int .i64 0) := (BX.out.bl 2 _ _ _ rfl).val rfl
  have z2 : ∀ k, x5.frozen? ⟨w.heap.size + 1 + 1, k, none⟩ = false := (BX.out.bl 2 _ _ _ rfl).free
  have y2 : w.heap.size + 1 + 1 < x5.heap.size := (BX.out.bl 2 _ _ _ rfl).size
  have p3_0 : x5.cell? ⟨x2.heap.size, 0, none⟩ = some (.int .i64 a1) := (BX.out.bl 3 _ _ _ rfl).val rfl
  have p3_1 : x5.cell? ⟨x2.heap.size, 1, none⟩ = some (.int .i64 d) := (BX.out.bl 3 _ _ _ rfl).val rfl
  have p3_2 : x5.cell? ⟨x2.heap.size, 2, none⟩ = some (.int .i64 0) := (BX.out.bl 3 _ _ _ rfl).val rfl
  have z3 : ∀ k, x5.frozen? ⟨x2.heap.size, k, none⟩ = false := (BX.out.bl 3 _ _ _ rfl).free
  have y3 : x2.heap.size < x5.heap.size := (BX.out.bl 3 _ _ _ rfl).size
  go_wp2_with fail
  go_region_held3 (fun w' => w'.cell? ⟨w.heap.size, 2, none⟩ = some (.int .i64 le) ∧ w'.cell? ⟨w.heap.size + 1, 6, none⟩ = some (.int .i64 mo)) (repeat (first | with_reducible assumption | refine ⟨?_, ?_⟩ | with_reducible refine kdrew ?_ | with_reducible refine kalloc ?_ _ | with_reducible refine kother ?_ (by simp; try omega))) (first | (go_at_call 21; refine (rsub02_any _ _ _ (by omega) (by omega) (by omega) (by omega)).mono ?_; (rw [h2.out]); rintro e wn ⟨rfl, hbn⟩; have bx : Bxs w wn [(w.heap.size, 30, [.int .i64 su, .int .i64 la, .int .i64 le]), (w.heap.size + 1, 36, [.int .i64 sp, .int .i64 kp, .int .i64 ki, .int .i64 kd, .int .i64 li, .int .i64 st, .int .i64 mo]), (w.heap.size + 1 + 1, 30, [.int .i64 0, .int .i64 0, .int .i64 0]), (x2.heap.size, 30, [.int .i64 a1, .int .i64 d, .int .i64 0])] := (by first | exact BX.out.below hbn | exact BX.out.drew_.below hbn | exact (BX.out.drewN_ _).below hbn); clear hbn BX p0_0 p0_1 p0_2 z0 y0 p1_0 p1_1 p1_2 p1_3 p1_4 p1_5 p1_6 z1 y1 p2_0 p2_1 p2_2 z2 y2 p3_0 p3_1 p3_2 z3 y3; have BX := Lib.hid bx; clear bx; have p0_0 : wn.cell? ⟨w.heap.size, 0, none⟩ = some (.int .i64 su) := (BX.out.bl 0 _ _ _ rfl).val rfl; have p0_1 : wn.cell? ⟨w.heap.size, 1, none⟩ = some (.int .i64 la) := (BX.out.bl 0 _ _ _ rfl).val rfl; have p0_2 : wn.cell? ⟨w.heap.size, 2, none⟩ = some (.int .i64 le) := (BX.out.bl 0 _ _ _ rfl).val rfl; have z0 : ∀ k, wn.frozen? ⟨w.heap.size, k, none⟩ = false := (BX.out.bl 0 _ _ _ rfl).free; have y0 : w.heap.size < wn.heap.size := (BX.out.bl 0 _ _ _ rfl).size; have p1_0 : wn.cell? ⟨w.heap.size + 1, 0, none⟩ = some (.int .i64 sp) := (BX.out.bl 1 _ _ _ rfl).val rfl; have p1_1 : wn.cell? ⟨w.heap.size + 1, 1, none⟩ = some (.int .i64 kp) := (BX.out.bl 1 _ _ _ rfl).val rfl; have p1_2 : wn.cell? ⟨w.heap.size + 1, 2, none⟩ = some (.int .i64 ki) := (BX.out.bl 1 _ _ _ rfl).val rfl; have p1_3 : wn.cell? ⟨w.heap.size + 1, 3, none⟩ = some (.int .i64 kd) := (BX.out.bl 1 _ _ _ rfl).val rfl; have p1_4 : wn.cell? ⟨w.heap.size + 1, 4, none⟩ = some (.int .i64 li) := (BX.out.bl 1 _ _ _ rfl).val rfl; have p1_5 : wn.cell? ⟨w.heap.size + 1, 5, none⟩ = some (.int .i64 st) := (BX.out.bl 1 _ _ _ rfl).val rfl; have p1_6 : wn.cell? ⟨w.heap.size + 1, 6, none⟩ = some (.int .i64 mo) := (BX.out.bl 1 _ _ _ rfl).val rfl; have z1 : ∀ k, wn.frozen? ⟨w.heap.size + 1, k, none⟩ = false := (BX.out.bl 1 _ _ _ rfl).free; have y1 : w.heap.size + 1 < wn.heap.size := (BX.out.bl 1 _ _ _ rfl).size; have p2_0 : wn.cell? ⟨w.heap.size + 1 + 1, 0, none⟩ = some (.int .i64 0) := (BX.out.bl 2 _ _ _ rfl).val rfl; have p2_1 : wn.cell? ⟨w.heap.size + 1 + 1, 1, none⟩ = some (.int .i64 0) := (BX.out.bl 2 _ _ _ rfl).val rfl; have p2_2 : wn.cell? ⟨w.heap.size + 1 + 1, 2, none⟩ = some (.int .i64 0) := (BX.out.bl 2 _ _ _ rfl).val rfl; have z2 : ∀ k, wn.frozen? ⟨w.heap.size + 1 + 1, k, none⟩ = false := (BX.out.bl 2 _ _ _ rfl).free; have y2 : w.heap.size + 1 + 1 < wn.heap.size := (BX.out.bl 2 _ _ _ rfl).size; have p3_0 : wn.cell? ⟨x2.heap.size, 0, none⟩ = some (.int .i64 a1) := (BX.out.bl 3 _ _ _ rfl).val rfl; have p3_1 : wn.cell? ⟨x2.heap.size, 1, none⟩ = some (.int .i64 d) := (BX.out.bl 3 _ _ _ rfl).val rfl; have p3_2 : wn.cell? ⟨x2.heap.size, 2, none⟩ = some (.int .i64 0) := (BX.out.bl 3 _ _ _ rfl).val rfl; have z3 : ∀ k, wn.frozen? ⟨x2.heap.size, k, none⟩ = false := (BX.out.bl 3 _ _ _ rfl).free; have y3 : x2.heap.size < wn.heap.size := (BX.out.bl 3 _ _ _ rfl).size) | (go_at_call 23; refine (rclamp_any _ _ _ _).mono ?_; (rw [h3.out]); rintro e wn ⟨rfl, rfl⟩))
  all_goals (go_wp2_with fail; refine bodyPost_ret (v := .agg #[.int .i64 a1, .int .i64 d, .int .i64 a3]) (by simp [results, Try.results12, go_sem, *]) rfl ⟨rfl, ?_⟩; first | exact (((((BX.out).set_ 3 2 rfl _).set_ 2 0 rfl _).set_ 2 1 rfl _).set_ 2 2 rfl _).be | exact (((((BX.out.drew_).set_ 3 2 rfl _).set_ 2 0 rfl _).set_ 2 1 rfl _).set_ 2 2 rfl _).be | exact ((((((BX.out.drewN_ _)).set_ 3 2 rfl _).set_ 2 0 rfl _).set_ 2 1 rfl _).set_ 2 2 rfl _).be)
set_option maxRecDepth 100000 in
set_option maxHeartbeats 4000000 in
theorem rrise_mo (su la le sp kp ki kd li st mo u d a1 a2 a3 a4 a5 a6 a7 a8 f m : Int) (hc : ¬ u ≤ sp) (hd : Hid (sat (u - sp) = d)) (h1 : Hid (sat (prodN ki d) = a1)) (h2 : Hid (sat (su + a1) = a2)) (h3 : Hid (clampN a2 0 li = a3)) (h4 : Hid (sat (prodN kp d) = a4)) (h5 : Hid (sat (a4 + a3) = a5)) (h6 : Hid (sat (d - la) = a6)) (h7 : Hid (sat (prodN kd a6) = a7)) (h8 : Hid (sat (a5 + a7) = a8)) (hf : Hid (a8 / 4294967296 = f)) (hm : Hid (sat (le + st) = m)) (hg : le < f) (ho : m < f) (w : World) (su0 : -9223372036854775808 ≤ su) (su1 : su ≤ 9223372036854775807) (la0 : -9223372036854775808 ≤ la) (la1 : la ≤ 9223372036854775807) (le0 : -9223372036854775808 ≤ le) (le1 : le ≤ 9223372036854775807) (sp0 : -9223372036854775808 ≤ sp) (sp1 : sp ≤ 9223372036854775807) (kp0 : -9223372036854775808 ≤ kp) (kp1 : kp ≤ 9223372036854775807) (ki0 : -9223372036854775808 ≤ ki) (ki1 : ki ≤ 9223372036854775807) (kd0 : -9223372036854775808 ≤ kd) (kd1 : kd ≤ 9223372036854775807) (li0 : -9223372036854775808 ≤ li) (li1 : li ≤ 9223372036854775807) (st0 : -9223372036854775808 ≤ st) (st1 : st ≤ 9223372036854775807) (mo0 : -9223372036854775808 ≤ mo) (mo1 : mo ≤ 9223372036854775807) (u0 : -9223372036854775808 ≤ u) (u1 : u ≤ 9223372036854775807) (d0 : -9223372036854775808 ≤ d) (d1 : d ≤ 9223372036854775807) (b10 : -9223372036854775808 ≤ a1) (b11 : a1 ≤ 9223372036854775807) (b20 : -9223372036854775808 ≤ a2) (b21 : a2 ≤ 9223372036854775807) (b30 : -9223372036854775808 ≤ a3) (b31 : a3 ≤ 9223372036854775807) (b40 : -9223372036854775808 ≤ a4) (b41 : a4 ≤ 9223372036854775807) (b50 : -9223372036854775808 ≤ a5) (b51 : a5 ≤ 9223372036854775807) (b60 : -9223372036854775808 ≤ a6) (b61 : a6 ≤ 9223372036854775807) (b70 : -9223372036854775808 ≤ a7) (b71 : a7 ≤ 9223372036854775807) (b80 : -9223372036854775808 ≤ a8) (b81 : a8 ≤ 9223372036854775807) :
    Calls Try.prog 12 #[.agg #[.int .i64 su, .int .i64 la, .int .i64 le], .agg #[.int .i64 sp, .int .i64 kp, .int .i64 ki, .int .i64 kd, .int .i64 li, .int .i64 st, .int .i64 mo], .int .i64 u] w fun e w' => e = .returned (.agg #[.int .i64 a3, .int .i64 d, .int .i64 (clampN m 0 mo)]) ∧ Below w.heap.size w w' := by
  go_enter Try.func12, Try.ntmps12
  go_upto_region 1 with fail
  refine wp_worldx (fun wx => Bxs w wx [(w.heap.size, 30, [.int .i64 su, .int .i64 la, .int .i64 le]), (w.heap.size + 1, 36, [.int .i64 sp, .int .i64 kp, .int .i64 ki, .int .i64 kd, .int .i64 li, .int .i64 st, .int .i64 mo]), (w.heap.size + 1 + 1, 30, [.int .i64 0, .int .i64 0, .int .i64 0])]) ((((Bxs.nil_ w).alloc_ _ _ (by simp)).alloc_ _ _ (by simp)).alloc_ _ _ (by simp)) ?_
  rintro x1 bx
  have BX := Lib.hid bx
  clear bx
  have p0_0 : x1.cell? ⟨w.heap.size, 0, none⟩ = some (.int .i64 su) := (BX.out.bl 0 _ _ _ rfl).val rfl
  have p0_1 : x1.cell? ⟨w.heap.size, 1, none⟩ = some (.int .i64 la) := (BX.out.bl 0 _ _ _ rfl).val rfl
  have p0_2 : x1.cell? ⟨w.heap.size, 2, none⟩ = some (.int .i64 le) := (BX.out.bl 0 _ _ _ rfl).val rfl
  have z0 : ∀ k, x1.frozen? ⟨w.heap.size, k, none⟩ = false := (BX.out.bl 0 _ _ _ rfl).free
  have y0 : w.heap.size < x1.heap.size := (BX.out.bl 0 _ _ _ rfl).size
  have p1_0 : x1.cell? ⟨w.heap.size + 1, 0, none⟩ = some (.int .i64 sp) := (BX.out.bl 1 _ _ _ rfl).val rfl
  have p1_1 : x1.cell? ⟨w.heap.size + 1, 1, none⟩ = some (.int .i64 kp) := (BX.out.bl 1 _ _ _ rfl).val rfl
  have p1_2 : x1.cell? ⟨w.heap.size + 1, 2, none⟩ = some (.int .i64 ki) := (BX.out.bl 1 _ _ _ rfl).val rfl
  have p1_3 : x1.cell? ⟨w.heap.size + 1, 3, none⟩ = some (.int .i64 kd) := (BX.out.bl 1 _ _ _ rfl).val rfl
  have p1_4 : x1.cell? ⟨w.heap.size + 1, 4, none⟩ = some (.int .i64 li) := (BX.out.bl 1 _ _ _ rfl).val rfl
  have p1_5 : x1.cell? ⟨w.heap.size + 1, 5, none⟩ = some (.int .i64 st) := (BX.out.bl 1 _ _ _ rfl).val rfl
  have p1_6 : x1.cell? ⟨w.heap.size + 1, 6, none⟩ = some (.int .i64 mo) := (BX.out.bl 1 _ _ _ rfl).val rfl
  have z1 : ∀ k, x1.frozen? ⟨w.heap.size + 1, k, none⟩ = false := (BX.out.bl 1 _ _ _ rfl).free
  have y1 : w.heap.size + 1 < x1.heap.size := (BX.out.bl 1 _ _ _ rfl).size
  have p2_0 : x1.cell? ⟨w.heap.size + 1 + 1, 0, none⟩ = some (.int .i64 0) := (BX.out.bl 2 _ _ _ rfl).val rfl
  have p2_1 : x1.cell? ⟨w.heap.size + 1 + 1, 1, none⟩ = some (.int .i64 0) := (BX.out.bl 2 _ _ _ rfl).val rfl
  have p2_2 : x1.cell? ⟨w.heap.size + 1 + 1, 2, none⟩ = some (.int .i64 0) := (BX.out.bl 2 _ _ _ rfl).val rfl
  have z2 : ∀ k, x1.frozen? ⟨w.heap.size + 1 + 1, k, none⟩ = false := (BX.out.bl 2 _ _ _ rfl).free
  have y2 : w.heap.size + 1 + 1 < x1.heap.size := (BX.out.bl 2 _ _ _ rfl).size
  go_wp2_with fail
  refine (rsub02_any _ _ _ u0 u1 sp0 sp1).mono ?_
  rw [hd.out]
  rintro e x2 ⟨rfl, hb⟩
  have bx : Bxs w x2 [(w.heap.size, 30, [.int .i64 su, .int .i64 la, .int .i64 le]), (w.heap.size + 1, 36, [.int .i64 sp, .int .i64 kp, .int .i64 ki, .int .i64 kd, .int .i64 li, .int .i64 st, .int .i64 mo]), (w.heap.size + 1 + 1, 30, [.int .i64 0, .int .i64 0, .int .i64 0])] := (BX.out).below hb
  clear p0_0 p0_1 p0_2 z0 y0 p1_0 p1_1 p1_2 p1_3 p1_4 p1_5 p1_6 z1 y1 p2_0 p2_1 p2_2 z2 y2
  clear hb BX
  have BX := Lib.hid bx
  clear bx
  have p0_0 : x2.cell? ⟨w.heap.size, 0, none⟩ = some (.int .i64 su) := (BX.out.bl 0 _ _ _ rfl).val rfl
  have p0_1 : x2.cell? ⟨w.heap.size, 1, none⟩ = some (.int .i64 la) := (BX.out.bl 0 _ _ _ rfl).val rfl
  have p0_2 : x2.cell? ⟨w.heap.size, 2, none⟩ = some (.int .i64 le) := (BX.out.bl 0 _ _ _ rfl).val rfl
  have z0 : ∀ k, x2.frozen? ⟨w.heap.size, k, none⟩ = false := (BX.out.bl 0 _ _ _ rfl).free
  have y0 : w.heap.size < x2.heap.size := (BX.out.bl 0 _ _ _ rfl).size
  have p1_0 : x2.cell? ⟨w.heap.size + 1, 0, none⟩ = some (.int .i64 sp) := (BX.out.bl 1 _ _ _ rfl).val rfl
  have p1_1 : x2.cell? ⟨w.heap.size + 1, 1, none⟩ = some (.int .i64 kp) := (BX.out.bl 1 _ _ _ rfl).val rfl
  have p1_2 : x2.cell? ⟨w.heap.size + 1, 2, none⟩ = some (.int .i64 ki) := (BX.out.bl 1 _ _ _ rfl).val rfl
  have p1_3 : x2.cell? ⟨w.heap.size + 1, 3, none⟩ = some (.int .i64 kd) := (BX.out.bl 1 _ _ _ rfl).val rfl
  have p1_4 : x2.cell? ⟨w.heap.size + 1, 4, none⟩ = some (.int .i64 li) := (BX.out.bl 1 _ _ _ rfl).val rfl
  have p1_5 : x2.cell? ⟨w.heap.size + 1, 5, none⟩ = some (.int .i64 st) := (BX.out.bl 1 _ _ _ rfl).val rfl
  have p1_6 : x2.cell? ⟨w.heap.size + 1, 6, none⟩ = some (.int .i64 mo) := (BX.out.bl 1 _ _ _ rfl).val rfl
  have z1 : ∀ k, x2.frozen? ⟨w.heap.size + 1, k, none⟩ = false := (BX.out.bl 1 _ _ _ rfl).free
  have y1 : w.heap.size + 1 < x2.heap.size := (BX.out.bl 1 _ _ _ rfl).size
  have p2_0 : x2.cell? ⟨w.heap.size + 1 + 1, 0, none⟩ = some (.int .i64 0) := (BX.out.bl 2 _ _ _ rfl).val rfl
  have p2_1 : x2.cell? ⟨w.heap.size + 1 + 1, 1, none⟩ = some (.int .i64 0) := (BX.out.bl 2 _ _ _ rfl).val rfl
  have p2_2 : x2.cell? ⟨w.heap.size + 1 + 1, 2, none⟩ = some (.int .i64 0) := (BX.out.bl 2 _ _ _ rfl).val rfl
  have z2 : ∀ k, x2.frozen? ⟨w.heap.size + 1 + 1, k, none⟩ = false := (BX.out.bl 2 _ _ _ rfl).free
  have y2 : w.heap.size + 1 + 1 < x2.heap.size := (BX.out.bl 2 _ _ _ rfl).size
  have gz := y2
  go_upto_region 3 with fail
  clear p0_0 p0_1 p0_2 z0 y0 p1_0 p1_1 p1_2 p1_3 p1_4 p1_5 p1_6 z1 y1 p2_0 p2_1 p2_2 z2 y2
  refine wp_worldx (fun wx => Bxs w wx [(w.heap.size, 30, [.int .i64 su, .int .i64 la, .int .i64 le]), (w.heap.size + 1, 36, [.int .i64 sp, .int .i64 kp, .int .i64 ki, .int .i64 kd, .int .i64 li, .int .i64 st, .int .i64 mo]), (w.heap.size + 1 + 1, 30, [.int .i64 0, .int .i64 0, .int .i64 0]), (x2.heap.size, 30, [.int .i64 0, .int .i64 d, .int .i64 0])]) ((BX.out).alloc_ _ _ (by simp)) ?_
  clear BX
  rintro x3 bx
  have BX := Lib.hid bx
  clear bx
  have p0_0 : x3.cell? ⟨w.heap.size, 0, none⟩ = some (.int .i64 su) := (BX.out.bl 0 _ _ _ rfl).val rfl
  have p0_1 : x3.cell? ⟨w.heap.size, 1, none⟩ = some (.int .i64 la) := (BX.out.bl 0 _ _ _ rfl).val rfl
  have p0_2 : x3.cell? ⟨w.heap.size, 2, none⟩ = some (.int .i64 le) := (BX.out.bl 0 _ _ _ rfl).val rfl
  have z0 : ∀ k, x3.frozen? ⟨w.heap.size, k, none⟩ = false := (BX.out.bl 0 _ _ _ rfl).free
  have y0 : w.heap.size < x3.heap.size := (BX.out.bl 0 _ _ _ rfl).size
  have p1_0 : x3.cell? ⟨w.heap.size + 1, 0, none⟩ = some (.int .i64 sp) := (BX.out.bl 1 _ _ _ rfl).val rfl
  have p1_1 : x3.cell? ⟨w.heap.size + 1, 1, none⟩ = some (.int .i64 kp) := (BX.out.bl 1 _ _ _ rfl).val rfl
  have p1_2 : x3.cell? ⟨w.heap.size + 1, 2, none⟩ = some (.int .i64 ki) := (BX.out.bl 1 _ _ _ rfl).val rfl
  have p1_3 : x3.cell? ⟨w.heap.size + 1, 3, none⟩ = some (.int .i64 kd) := (BX.out.bl 1 _ _ _ rfl).val rfl
  have p1_4 : x3.cell? ⟨w.heap.size + 1, 4, none⟩ = some (.int .i64 li) := (BX.out.bl 1 _ _ _ rfl).val rfl
  have p1_5 : x3.cell? ⟨w.heap.size + 1, 5, none⟩ = some (.int .i64 st) := (BX.out.bl 1 _ _ _ rfl).val rfl
  have p1_6 : x3.cell? ⟨w.heap.size + 1, 6, none⟩ = some (.int .i64 mo) := (BX.out.bl 1 _ _ _ rfl).val rfl
  have z1 : ∀ k, x3.frozen? ⟨w.heap.size + 1, k, none⟩ = false := (BX.out.bl 1 _ _ _ rfl).free
  have y1 : w.heap.size + 1 < x3.heap.size := (BX.out.bl 1 _ _ _ rfl).size
  have p2_0 : x3.cell? ⟨w.heap.size + 1 + 1, 0, none⟩ = some (.int .i64 0) := (BX.out.bl 2 _ _ _ rfl).val rfl
  have p2_1 : x3.cell? ⟨w.heap.size + 1 + 1, 1, none⟩ = some (.int .i64 0) := (BX.out.bl 2 _ _ _ rfl).val rfl
  have p2_2 : x3.cell? ⟨w.heap.size + 1 + 1, 2, none⟩ = some (.int .i64 0) := (BX.out.bl 2 _ _ _ rfl).val rfl
  have z2 : ∀ k, x3.frozen? ⟨w.heap.size + 1 + 1, k, none⟩ = false := (BX.out.bl 2 _ _ _ rfl).free
  have y2 : w.heap.size + 1 + 1 < x3.heap.size := (BX.out.bl 2 _ _ _ rfl).size
  have p3_0 : x3.cell? ⟨x2.heap.size, 0, none⟩ = some (.int .i64 0) := (BX.out.bl 3 _ _ _ rfl).val rfl
  have p3_1 : x3.cell? ⟨x2.heap.size, 1, none⟩ = some (.int .i64 d) := (BX.out.bl 3 _ _ _ rfl).val rfl
  have p3_2 : x3.cell? ⟨x2.heap.size, 2, none⟩ = some (.int .i64 0) := (BX.out.bl 3 _ _ _ rfl).val rfl
  have z3 : ∀ k, x3.frozen? ⟨x2.heap.size, k, none⟩ = false := (BX.out.bl 3 _ _ _ rfl).free
  have y3 : x2.heap.size < x3.heap.size := (BX.out.bl 3 _ _ _ rfl).size
  go_upto_region 9 with fail
  go_cut [] (fun  wx =>  Bxs w wx [(w.heap.size, 30, [.int .i64 su, .int .i64 la, .int .i64 le]), (w.heap.size + 1, 36, [.int .i64 sp, .int .i64 kp, .int .i64 ki, .int .i64 kd, .int .i64 li, .int .i64 st, .int .i64 mo]), (w.heap.size + 1 + 1, 30, [.int .i64 0, .int .i64 0, .int .i64 0]), (x2.heap.size, 30, [.int .i64 a3, .int .i64 d, .int .i64 0])])
  case first =>
    go_region_held3 (fun w' => w'.cell? ⟨w.heap.size, 0, none⟩ = some (.int .i64 su) ∧ w'.cell? ⟨w.heap.size + 1, 2, none⟩ = some (.int .i64 ki) ∧ w'.cell? ⟨w.heap.size + 1, 4, none⟩ = some (.int .i64 li)) (repeat (first | with_reducible assumption | refine ⟨?_, ?_⟩ | with_reducible refine kdrew ?_ | with_reducible refine kalloc ?_ _ | with_reducible refine kother ?_ (by simp; try omega))) (first | (go_at_call 22; refine (rof02_any _ _ _ (by omega) (by omega) (by omega) (by omega)).mono ?_; (rw [h1.out]); rintro e wn ⟨rfl, hbn⟩; have bx : Bxs w wn [(w.heap.size, 30, [.int .i64 su, .int .i64 la, .int .i64 le]), (w.heap.size + 1, 36, [.int .i64 sp, .int .i64 kp, .int .i64 ki, .int .i64 kd, .int .i64 li, .int .i64 st, .int .i64 mo]), (w.heap.size + 1 + 1, 30, [.int .i64 0, .int .i64 0, .int .i64 0]), (x2.heap.size, 30, [.int .i64 0, .int .i64 d, .int .i64 0])] := (by first | exact BX.out.below hbn | exact BX.out.drew_.below hbn | exact (BX.out.drewN_ _).below hbn); clear hbn BX p0_0 p0_1 p0_2 z0 y0 p1_0 p1_1 p1_2 p1_3 p1_4 p1_5 p1_6 z1 y1 p2_0 p2_1 p2_2 z2 y2 p3_0 p3_1 p3_2 z3 y3; have BX := Lib.hid bx; clear bx; have p0_0 : wn.cell? ⟨w.heap.size, 0, none⟩ = some (.int .i64 su) := (BX.out.bl 0 _ _ _ rfl).val rfl; have p0_1 : wn.cell? ⟨w.heap.size, 1, none⟩ = some (.int .i64 la) := (BX.out.bl 0 _ _ _ rfl).val rfl; have p0_2 : wn.cell? ⟨w.heap.size, 2, none⟩ = some (.int .i64 le) := (BX.out.bl 0 _ _ _ rfl).val rfl; have z0 : ∀ k, wn.frozen? ⟨w.heap.size, k, none⟩ = false := (BX.out.bl 0 _ _ _ rfl).free; have y0 : w.heap.size < wn.heap.size := (BX.out.bl 0 _ _ _ rfl).size; have p1_0 : wn.cell? ⟨w.heap.size + 1, 0, none⟩ = some (.int .i64 sp) := (BX.out.bl 1 _ _ _ rfl).val rfl; have p1_1 : wn.cell? ⟨w.heap.size + 1, 1, none⟩ = some (.int .i64 kp) := (BX.out.bl 1 _ _ _ rfl).val rfl; have p1_2 : wn.cell? ⟨w.heap.size + 1, 2, none⟩ = some (.int .i64 ki) := (BX.out.bl 1 _ _ _ rfl).val rfl; have p1_3 : wn.cell? ⟨w.heap.size + 1, 3, none⟩ = some (.int .i64 kd) := (BX.out.bl 1 _ _ _ rfl).val rfl; have p1_4 : wn.cell? ⟨w.heap.size + 1, 4, none⟩ = some (.int .i64 li) := (BX.out.bl 1 _ _ _ rfl).val rfl; have p1_5 : wn.cell? ⟨w.heap.size + 1, 5, none⟩ = some (.int .i64 st) := (BX.out.bl 1 _ _ _ rfl).val rfl; have p1_6 : wn.cell? ⟨w.heap.size + 1, 6, none⟩ = some (.int .i64 mo) := (BX.out.bl 1 _ _ _ rfl).val rfl; have z1 : ∀ k, wn.frozen? ⟨w.heap.size + 1, k, none⟩ = false := (BX.out.bl 1 _ _ _ rfl).free; have y1 : w.heap.size + 1 < wn.heap.size := (BX.out.bl 1 _ _ _ rfl).size; have p2_0 : wn.cell? ⟨w.heap.size + 1 + 1, 0, none⟩ = some (.int .i64 0) := (BX.out.bl 2 _ _ _ rfl).val rfl; have p2_1 : wn.cell? ⟨w.heap.size + 1 + 1, 1, none⟩ = some (.int .i64 0) := (BX.out.bl 2 _ _ _ rfl).val rfl; have p2_2 : wn.cell? ⟨w.heap.size + 1 + 1, 2, none⟩ = some (.int .i64 0) := (BX.out.bl 2 _ _ _ rfl).val rfl; have z2 : ∀ k, wn.frozen? ⟨w.heap.size + 1 + 1, k, none⟩ = false := (BX.out.bl 2 _ _ _ rfl).free; have y2 : w.heap.size + 1 + 1 < wn.heap.size := (BX.out.bl 2 _ _ _ rfl).size; have p3_0 : wn.cell? ⟨x2.heap.size, 0, none⟩ = some (.int .i64 0) := (BX.out.bl 3 _ _ _ rfl).val rfl; have p3_1 : wn.cell? ⟨x2.heap.size, 1, none⟩ = some (.int .i64 d) := (BX.out.bl 3 _ _ _ rfl).val rfl; have p3_2 : wn.cell? ⟨x2.heap.size, 2, none⟩ = some (.int .i64 0) := (BX.out.bl 3 _ _ _ rfl).val rfl; have z3 : ∀ k, wn.frozen? ⟨x2.heap.size, k, none⟩ = false := (BX.out.bl 3 _ _ _ rfl).free; have y3 : x2.heap.size < wn.heap.size := (BX.out.bl 3 _ _ _ rfl).size) | (go_at_call 24; refine (radd02_any _ _ _ (by omega) (by omega) (by omega) (by omega)).mono ?_; (rw [h2.out]); rintro e wn ⟨rfl, hbn⟩; have bx : Bxs w wn [(w.heap.size, 30, [.int .i64 su, .int .i64 la, .int .i64 le]), (w.heap.size + 1, 36, [.int .i64 sp, .int .i64 kp, .int .i64 ki, .int .i64 kd, .int .i64 li, .int .i64 st, .int .i64 mo]), (w.heap.size + 1 + 1, 30, [.int .i64 0, .int .i64 0, .int .i64 0]), (x2.heap.size, 30, [.int .i64 0, .int .i64 d, .int .i64 0])] := (by first | exact BX.out.below hbn | exact BX.out.drew_.below hbn | exact (BX.out.drewN_ _).below hbn); clear hbn BX p0_0 p0_1 p0_2 z0 y0 p1_0 p1_1 p1_2 p1_3 p1_4 p1_5 p1_6 z1 y1 p2_0 p2_1 p2_2 z2 y2 p3_0 p3_1 p3_2 z3 y3; have BX := Lib.hid bx; clear bx; have p0_0 : wn.cell? ⟨w.heap.size, 0, none⟩ = some (.int .i64 su) := (BX.out.bl 0 _ _ _ rfl).val rfl; have p0_1 : wn.cell? ⟨w.heap.size, 1, none⟩ = some (.int .i64 la) := (BX.out.bl 0 _ _ _ rfl).val rfl; have p0_2 : wn.cell? ⟨w.heap.size, 2, none⟩ = some (.int .i64 le) := (BX.out.bl 0 _ _ _ rfl).val rfl; have z0 : ∀ k, wn.frozen? ⟨w.heap.size, k, none⟩ = false := (BX.out.bl 0 _ _ _ rfl).free; have y0 : w.heap.size < wn.heap.size := (BX.out.bl 0 _ _ _ rfl).size; have p1_0 : wn.cell? ⟨w.heap.size + 1, 0, none⟩ = some (.int .i64 sp) := (BX.out.bl 1 _ _ _ rfl).val rfl; have p1_1 : wn.cell? ⟨w.heap.size + 1, 1, none⟩ = some (.int .i64 kp) := (BX.out.bl 1 _ _ _ rfl).val rfl; have p1_2 : wn.cell? ⟨w.heap.size + 1, 2, none⟩ = some (.int .i64 ki) := (BX.out.bl 1 _ _ _ rfl).val rfl; have p1_3 : wn.cell? ⟨w.heap.size + 1, 3, none⟩ = some (.int .i64 kd) := (BX.out.bl 1 _ _ _ rfl).val rfl; have p1_4 : wn.cell? ⟨w.heap.size + 1, 4, none⟩ = some (.int .i64 li) := (BX.out.bl 1 _ _ _ rfl).val rfl; have p1_5 : wn.cell? ⟨w.heap.size + 1, 5, none⟩ = some (.int .i64 st) := (BX.out.bl 1 _ _ _ rfl).val rfl; have p1_6 : wn.cell? ⟨w.heap.size + 1, 6, none⟩ = some (.int .i64 mo) := (BX.out.bl 1 _ _ _ rfl).val rfl; have z1 : ∀ k, wn.frozen? ⟨w.heap.size + 1, k, none⟩ = false := (BX.out.bl 1 _ _ _ rfl).free; have y1 : w.heap.size + 1 < wn.heap.size := (BX.out.bl 1 _ _ _ rfl).size; have p2_0 : wn.cell? ⟨w.heap.size + 1 + 1, 0, none⟩ = some (.int .i64 0) := (BX.out.bl 2 _ _ _ rfl).val rfl; have p2_1 : wn.cell? ⟨w.heap.size + 1 + 1, 1, none⟩ = some (.int .i64 0) := (BX.out.bl 2 _ _ _ rfl).val rfl; have p2_2 : wn.cell? ⟨w.heap.size + 1 + 1, 2, none⟩ = some (.int .i64 0) := (BX.out.bl 2 _ _ _ rfl).val rfl; have z2 : ∀ k, wn.frozen? ⟨w.heap.size + 1 + 1, k, none⟩ = false := (BX.out.bl 2 _ _ _ rfl).free; have y2 : w.heap.size + 1 + 1 < wn.heap.size := (BX.out.bl 2 _ _ _ rfl).size; have p3_0 : wn.cell? ⟨x2.heap.size, 0, none⟩ = some (.int .i64 0) := (BX.out.bl 3 _ _ _ rfl).val rfl; have p3_1 : wn.cell? ⟨x2.heap.size, 1, none⟩ = some (.int .i64 d) := (BX.out.bl 3 _ _ _ rfl).val rfl; have p3_2 : wn.cell? ⟨x2.heap.size, 2, none⟩ = some (.int .i64 0) := (BX.out.bl 3 _ _ _ rfl).val rfl; have z3 : ∀ k, wn.frozen? ⟨x2.heap.size, k, none⟩ = false := (BX.out.bl 3 _ _ _ rfl).free; have y3 : x2.heap.size < wn.heap.size := (BX.out.bl 3 _ _ _ rfl).size) | (go_at_call 23; refine (rclamp_any _ _ _ _).mono ?_; (rw [h3.out]); rintro e wn ⟨rfl, rfl⟩))
    all_goals (go_wp2_with fail; go_meet; exact (by first | exact (BX.out).set_ 3 0 rfl _ | exact (BX.out.drew_).set_ 3 0 rfl _ | exact ((BX.out.drewN_ _)).set_ 3 0 rfl _ | exact ((BX.out).set_ 3 0 rfl _).drew_))
  case rest =>
    clear p0_0 p0_1 p0_2 z0 y0 p1_0 p1_1 p1_2 p1_3 p1_4 p1_5 p1_6 z1 y1 p2_0 p2_1 p2_2 z2 y2 p3_0 p3_1 p3_2 z3 y3
    have bx := hcut
    clear hcut BX
    have hx := bx
    clear bx
    go_upto_region 10 with fail
    have bx := hx
    clear hx
    have BX := Lib.hid bx
    clear bx
    have p0_0 : wc.cell? ⟨w.heap.size, 0, none⟩ = some (.int .i64 su) := (BX.out.bl 0 _ _ _ rfl).val rfl
    have p0_1 : wc.cell? ⟨w.heap.size, 1, none⟩ = some (.int .i64 la) := (BX.out.bl 0 _ _ _ rfl).val rfl
    have p0_2 : wc.cell? ⟨w.heap.size, 2, none⟩ = some (.int .i64 le) := (BX.out.bl 0 _ _ _ rfl).val rfl
    have z0 : ∀ k, wc.frozen? ⟨w.heap.size, k, none⟩ = false := (BX.out.bl 0 _ _ _ rfl).free
    have y0 : w.heap.size < wc.heap.size := (BX.out.bl 0 _ _ _ rfl).size
    have p1_0 : wc.cell? ⟨w.heap.size + 1, 0, none⟩ = some (.int .i64 sp) := (BX.out.bl 1 _ _ _ rfl).val rfl
    have p1_1 : wc.cell? ⟨w.heap.size + 1, 1, none⟩ = some (.int .i64 kp) := (BX.out.bl 1 _ _ _ rfl).val rfl
    have p1_2 : wc.cell? ⟨w.heap.size + 1, 2, none⟩ = some (.int .i64 ki) := (BX.out.bl 1 _ _ _ rfl).val rfl
    have p1_3 : wc.cell? ⟨w.heap.size + 1, 3, none⟩ = some (.int .i64 kd) := (BX.out.bl 1 _ _ _ rfl).val rfl
    have p1_4 : wc.cell? ⟨w.heap.size + 1, 4, none⟩ = some (.int .i64 li) := (BX.out.bl 1 _ _ _ rfl).val rfl
    have p1_5 : wc.cell? ⟨w.heap.size + 1, 5, none⟩ = some (.int .i64 st) := (BX.out.bl 1 _ _ _ rfl).val rfl
    have p1_6 : wc.cell? ⟨w.heap.size + 1, 6, none⟩ = some (.int .i64 mo) := (BX.out.bl 1 _ _ _ rfl).val rfl
    have z1 : ∀ k, wc.frozen? ⟨w.heap.size + 1, k, none⟩ = false := (BX.out.bl 1 _ _ _ rfl).free
    have y1 : w.heap.size + 1 < wc.heap.size := (BX.out.bl 1 _ _ _ rfl).size
    have p2_0 : wc.cell? ⟨w.heap.size + 1 + 1, 0, none⟩ = some (.int .i64 0) := (BX.out.bl 2 _ _ _ rfl).val rfl
    have p2_1 : wc.cell? ⟨w.heap.size + 1 + 1, 1, none⟩ = some (.int .i64 0) := (BX.out.bl 2 _ _ _ rfl).val rfl
    have p2_2 : wc.cell? ⟨w.heap.size + 1 + 1, 2, none⟩ = some (.int .i64 0) := (BX.out.bl 2 _ _ _ rfl).val rfl
    have z2 : ∀ k, wc.frozen? ⟨w.heap.size + 1 + 1, k, none⟩ = false := (BX.out.bl 2 _ _ _ rfl).free
    have y2 : w.heap.size + 1 + 1 < wc.heap.size := (BX.out.bl 2 _ _ _ rfl).size
    have p3_0 : wc.cell? ⟨x2.heap.size, 0, none⟩ = some (.int .i64 a3) := (BX.out.bl 3 _ _ _ rfl).val rfl
    have p3_1 : wc.cell? ⟨x2.heap.size, 1, none⟩ = some (.int .i64 d) := (BX.out.bl 3 _ _ _ rfl).val rfl
    have p3_2 : wc.cell? ⟨x2.heap.size, 2, none⟩ = some (.int .i64 0) := (BX.out.bl 3 _ _ _ rfl).val rfl
    have z3 : ∀ k, wc.frozen? ⟨x2.heap.size, k, none⟩ = false := (BX.out.bl 3 _ _ _ rfl).free
    have y3 : x2.heap.size < wc.heap.size := (BX.out.bl 3 _ _ _ rfl).size
    go_cut [9] (fun s9 wx => s9 = .int .i64 a8 ∧ Bxs w wx [(w.heap.size, 30, [.int .i64 su, .int .i64 la, .int .i64 le]), (w.heap.size + 1, 36, [.int .i64 sp, .int .i64 kp, .int .i64 ki, .int .i64 kd, .int .i64 li, .int .i64 st, .int .i64 mo]), (w.heap.size + 1 + 1, 30, [.int .i64 0, .int .i64 0, .int .i64 0]), (x2.heap.size, 30, [.int .i64 a3, .int .i64 d, .int .i64 0])])
    case first =>
      go_region_held3 (fun w' => w'.cell? ⟨w.heap.size + 1, 1, none⟩ = some (.int .i64 kp) ∧ w'.cell? ⟨x2.heap.size, 0, none⟩ = some (.int .i64 a3) ∧ w'.cell? ⟨w.heap.size + 1, 3, none⟩ = some (.int .i64 kd) ∧ w'.cell? ⟨w.heap.size, 1, none⟩ = some (.int .i64 la)) (repeat (first | with_reducible assumption | refine ⟨?_, ?_⟩ | with_reducible refine kdrew ?_ | with_reducible refine kalloc ?_ _ | with_reducible refine kother ?_ (by simp; try omega))) (first | (go_at_call 22; refine (rof02_any _ _ _ (by omega) (by omega) (by omega) (by omega)).mono ?_; (first | rw [h4.out] | rw [h7.out]); rintro e wn ⟨rfl, hbn⟩; have bx : Bxs w wn [(w.heap.size, 30, [.int .i64 su, .int .i64 la, .int .i64 le]), (w.heap.size + 1, 36, [.int .i64 sp, .int .i64 kp, .int .i64 ki, .int .i64 kd, .int .i64 li, .int .i64 st, .int .i64 mo]), (w.heap.size + 1 + 1, 30, [.int .i64 0, .int .i64 0, .int .i64 0]), (x2.heap.size, 30, [.int .i64 a3, .int .i64 d, .int .i64 0])] := (by first | exact BX.out.below hbn | exact BX.out.drew_.below hbn | exact (BX.out.drewN_ _).below hbn); clear hbn BX p0_0 p0_1 p0_2 z0 y0 p1_0 p1_1 p1_2 p1_3 p1_4 p1_5 p1_6 z1 y1 p2_0 p2_1 p2_2 z2 y2 p3_0 p3_1 p3_2 z3 y3; have BX := Lib.hid bx; clear bx; have p0_0 : wn.cell? ⟨w.heap.size, 0, none⟩ = some (.int .i64 su) := (BX.out.bl 0 _ _ _ rfl).val rfl; have p0_1 : wn.cell? ⟨w.heap.size, 1, none⟩ = some (.int .i64 la) := (BX.out.bl 0 _ _ _ rfl).val rfl; have p0_2 : wn.cell? ⟨w.heap.size, 2, none⟩ = some (.int .i64 le) := (BX.out.bl 0 _ _ _ rfl).val rfl; have z0 : ∀ k, wn.frozen? ⟨w.heap.size, k, none⟩ = false := (BX.out.bl 0 _ _ _ rfl).free; have y0 : w.heap.size < wn.heap.size := (BX.out.bl 0 _ _ _ rfl).size; have p1_0 : wn.cell? ⟨w.heap.size + 1, 0, none⟩ = some (.int .i64 sp) := (BX.out.bl 1 _ _ _ rfl).val rfl; have p1_1 : wn.cell? ⟨w.heap.size + 1, 1, none⟩ = some (.int .i64 kp) := (BX.out.bl 1 _ _ _ rfl).val rfl; have p1_2 : wn.cell? ⟨w.heap.size + 1, 2, none⟩ = some (.int .i64 ki) := (BX.out.bl 1 _ _ _ rfl).val rfl; have p1_3 : wn.cell? ⟨w.heap.size + 1, 3, none⟩ = some (.int .i64 kd) := (BX.out.bl 1 _ _ _ rfl).val rfl; have p1_4 : wn.cell? ⟨w.heap.size + 1, 4, none⟩ = some (.int .i64 li) := (BX.out.bl 1 _ _ _ rfl).val rfl; have p1_5 : wn.cell? ⟨w.heap.size + 1, 5, none⟩ = some (.int .i64 st) := (BX.out.bl 1 _ _ _ rfl).val rfl; have p1_6 : wn.cell? ⟨w.heap.size + 1, 6, none⟩ = some (.int .i64 mo) := (BX.out.bl 1 _ _ _ rfl).val rfl; have z1 : ∀ k, wn.frozen? ⟨w.heap.size + 1, k, none⟩ = false := (BX.out.bl 1 _ _ _ rfl).free; have y1 : w.heap.size + 1 < wn.heap.size := (BX.out.bl 1 _ _ _ rfl).size; have p2_0 : wn.cell? ⟨w.heap.size + 1 + 1, 0, none⟩ = some (.int .i64 0) := (BX.out.bl 2 _ _ _ rfl).val rfl; have p2_1 : wn.cell? ⟨w.heap.size + 1 + 1, 1, none⟩ = some (.int .i64 0) := (BX.out.bl 2 _ _ _ rfl).val rfl; have p2_2 : wn.cell? ⟨w.heap.size + 1 + 1, 2, none⟩ = some (.int .i64 0) := (BX.out.bl 2 _ _ _ rfl).val rfl; have z2 : ∀ k, wn.frozen? ⟨w.heap.size + 1 + 1, k, none⟩ = false := (BX.out.bl 2 _ _ _ rfl).free; have y2 : w.heap.size + 1 + 1 < wn.heap.size := (BX.out.bl 2 _ _ _ rfl).size; have p3_0 : wn.cell? ⟨x2.heap.size, 0, none⟩ = some (.int .i64 a3) := (BX.out.bl 3 _ _ _ rfl).val rfl; have p3_1 : wn.cell? ⟨x2.heap.size, 1, none⟩ = some (.int .i64 d) := (BX.out.bl 3 _ _ _ rfl).val rfl; have p3_2 : wn.cell? ⟨x2.heap.size, 2, none⟩ = some (.int .i64 0) := (BX.out.bl 3 _ _ _ rfl).val rfl; have z3 : ∀ k, wn.frozen? ⟨x2.heap.size, k, none⟩ = false := (BX.out.bl 3 _ _ _ rfl).free; have y3 : x2.heap.size < wn.heap.size := (BX.out.bl 3 _ _ _ rfl).size) | (go_at_call 24; refine (radd02_any _ _ _ (by omega) (by omega) (by omega) (by omega)).mono ?_; (first | rw [h5.out] | rw [h8.out]); rintro e wn ⟨rfl, hbn⟩; have bx : Bxs w wn [(w.heap.size, 30, [.int .i64 su, .int .i64 la, .int .i64 le]), (w.heap.size + 1, 36, [.int .i64 sp, .int .i64 kp, .int .i64 ki, .int .i64 kd, .int .i64 li, .int .i64 st, .int .i64 mo]), (w.heap.size + 1 + 1, 30, [.int .i64 0, .int .i64 0, .int .i64 0]), (x2.heap.size, 30, [.int .i64 a3, .int .i64 d, .int .i64 0])] := (by first | exact BX.out.below hbn | exact BX.out.drew_.below hbn | exact (BX.out.drewN_ _).below hbn); clear hbn BX p0_0 p0_1 p0_2 z0 y0 p1_0 p1_1 p1_2 p1_3 p1_4 p1_5 p1_6 z1 y1 p2_0 p2_1 p2_2 z2 y2 p3_0 p3_1 p3_2 z3 y3; have BX := Lib.hid bx; clear bx; have p0_0 : wn.cell? ⟨w.heap.size, 0, none⟩ = some (.int .i64 su) := (BX.out.bl 0 _ _ _ rfl).val rfl; have p0_1 : wn.cell? ⟨w.heap.size, 1, none⟩ = some (.int .i64 la) := (BX.out.bl 0 _ _ _ rfl).val rfl; have p0_2 : wn.cell? ⟨w.heap.size, 2, none⟩ = some (.int .i64 le) := (BX.out.bl 0 _ _ _ rfl).val rfl; have z0 : ∀ k, wn.frozen? ⟨w.heap.size, k, none⟩ = false := (BX.out.bl 0 _ _ _ rfl).free; have y0 : w.heap.size < wn.heap.size := (BX.out.bl 0 _ _ _ rfl).size; have p1_0 : wn.cell? ⟨w.heap.size + 1, 0, none⟩ = some (.int .i64 sp) := (BX.out.bl 1 _ _ _ rfl).val rfl; have p1_1 : wn.cell? ⟨w.heap.size + 1, 1, none⟩ = some (.int .i64 kp) := (BX.out.bl 1 _ _ _ rfl).val rfl; have p1_2 : wn.cell? ⟨w.heap.size + 1, 2, none⟩ = some (.int .i64 ki) := (BX.out.bl 1 _ _ _ rfl).val rfl; have p1_3 : wn.cell? ⟨w.heap.size + 1, 3, none⟩ = some (.int .i64 kd) := (BX.out.bl 1 _ _ _ rfl).val rfl; have p1_4 : wn.cell? ⟨w.heap.size + 1, 4, none⟩ = some (.int .i64 li) := (BX.out.bl 1 _ _ _ rfl).val rfl; have p1_5 : wn.cell? ⟨w.heap.size + 1, 5, none⟩ = some (.int .i64 st) := (BX.out.bl 1 _ _ _ rfl).val rfl; have p1_6 : wn.cell? ⟨w.heap.size + 1, 6, none⟩ = some (.int .i64 mo) := (BX.out.bl 1 _ _ _ rfl).val rfl; have z1 : ∀ k, wn.frozen? ⟨w.heap.size + 1, k, none⟩ = false := (BX.out.bl 1 _ _ _ rfl).free; have y1 : w.heap.size + 1 < wn.heap.size := (BX.out.bl 1 _ _ _ rfl).size; have p2_0 : wn.cell? ⟨w.heap.size + 1 + 1, 0, none⟩ = some (.int .i64 0) := (BX.out.bl 2 _ _ _ rfl).val rfl; have p2_1 : wn.cell? ⟨w.heap.size + 1 + 1, 1, none⟩ = some (.int .i64 0) := (BX.out.bl 2 _ _ _ rfl).val rfl; have p2_2 : wn.cell? ⟨w.heap.size + 1 + 1, 2, none⟩ = some (.int .i64 0) := (BX.out.bl 2 _ _ _ rfl).val rfl; have z2 : ∀ k, wn.frozen? ⟨w.heap.size + 1 + 1, k, none⟩ = false := (BX.out.bl 2 _ _ _ rfl).free; have y2 : w.heap.size + 1 + 1 < wn.heap.size := (BX.out.bl 2 _ _ _ rfl).size; have p3_0 : wn.cell? ⟨x2.heap.size, 0, none⟩ = some (.int .i64 a3) := (BX.out.bl 3 _ _ _ rfl).val rfl; have p3_1 : wn.cell? ⟨x2.heap.size, 1, none⟩ = some (.int .i64 d) := (BX.out.bl 3 _ _ _ rfl).val rfl; have p3_2 : wn.cell? ⟨x2.heap.size, 2, none⟩ = some (.int .i64 0) := (BX.out.bl 3 _ _ _ rfl).val rfl; have z3 : ∀ k, wn.frozen? ⟨x2.heap.size, k, none⟩ = false := (BX.out.bl 3 _ _ _ rfl).free; have y3 : x2.heap.size < wn.heap.size := (BX.out.bl 3 _ _ _ rfl).size) | (go_at_call 21; refine (rsub02_any _ _ _ (by omega) (by omega) (by omega) (by omega)).mono ?_; (rw [h6.out]); rintro e wn ⟨rfl, hbn⟩; have bx : Bxs w wn [(w.heap.size, 30, [.int .i64 su, .int .i64 la, .int .i64 le]), (w.heap.size + 1, 36, [.int .i64 sp, .int .i64 kp, .int .i64 ki, .int .i64 kd, .int .i64 li, .int .i64 st, .int .i64 mo]), (w.heap.size + 1 + 1, 30, [.int .i64 0, .int .i64 0, .int .i64 0]), (x2.heap.size, 30, [.int .i64 a3, .int .i64 d, .int .i64 0])] := (by first | exact BX.out.below hbn | exact BX.out.drew_.below hbn | exact (BX.out.drewN_ _).below hbn); clear hbn BX p0_0 p0_1 p0_2 z0 y0 p1_0 p1_1 p1_2 p1_3 p1_4 p1_5 p1_6 z1 y1 p2_0 p2_1 p2_2 z2 y2 p3_0 p3_1 p3_2 z3 y3; have BX := Lib.hid bx; clear bx; have p0_0 : wn.cell? ⟨w.heap.size, 0, none⟩ = some (.int .i64 su) := (BX.out.bl 0 _ _ _ rfl).val rfl; have p0_1 : wn.cell? ⟨w.heap.size, 1, none⟩ = some (.int .i64 la) := (BX.out.bl 0 _ _ _ rfl).val rfl; have p0_2 : wn.cell? ⟨w.heap.size, 2, none⟩ = some (.int .i64 le) := (BX.out.bl 0 _ _ _ rfl).val rfl; have z0 : ∀ k, wn.frozen? ⟨w.heap.size, k, none⟩ = false := (BX.out.bl 0 _ _ _ rfl).free; have y0 : w.heap.size < wn.heap.size := (BX.out.bl 0 _ _ _ rfl).size; have p1_0 : wn.cell? ⟨w.heap.size + 1, 0, none⟩ = some (.int .i64 sp) := (BX.out.bl 1 _ _ _ rfl).val rfl; have p1_1 : wn.cell? ⟨w.heap.size + 1, 1, none⟩ = some (.int .i64 kp) := (BX.out.bl 1 _ _ _ rfl).val rfl; have p1_2 : wn.cell? ⟨w.heap.size + 1, 2, none⟩ = some (.int .i64 ki) := (BX.out.bl 1 _ _ _ rfl).val rfl; have p1_3 : wn.cell? ⟨w.heap.size + 1, 3, none⟩ = some (.int .i64 kd) := (BX.out.bl 1 _ _ _ rfl).val rfl; have p1_4 : wn.cell? ⟨w.heap.size + 1, 4, none⟩ = some (.int .i64 li) := (BX.out.bl 1 _ _ _ rfl).val rfl; have p1_5 : wn.cell? ⟨w.heap.size + 1, 5, none⟩ = some (.int .i64 st) := (BX.out.bl 1 _ _ _ rfl).val rfl; have p1_6 : wn.cell? ⟨w.heap.size + 1, 6, none⟩ = some (.int .i64 mo) := (BX.out.bl 1 _ _ _ rfl).val rfl; have z1 : ∀ k, wn.frozen? ⟨w.heap.size + 1, k, none⟩ = false := (BX.out.bl 1 _ _ _ rfl).free; have y1 : w.heap.size + 1 < wn.heap.size := (BX.out.bl 1 _ _ _ rfl).size; have p2_0 : wn.cell? ⟨w.heap.size + 1 + 1, 0, none⟩ = some (.int .i64 0) := (BX.out.bl 2 _ _ _ rfl).val rfl; have p2_1 : wn.cell? ⟨w.heap.size + 1 + 1, 1, none⟩ = some (.int .i64 0) := (BX.out.bl 2 _ _ _ rfl).val rfl; have p2_2 : wn.cell? ⟨w.heap.size + 1 + 1, 2, none⟩ = some (.int .i64 0) := (BX.out.bl 2 _ _ _ rfl).val rfl; have z2 : ∀ k, wn.frozen? ⟨w.heap.size + 1 + 1, k, none⟩ = false := (BX.out.bl 2 _ _ _ rfl).free; have y2 : w.heap.size + 1 + 1 < wn.heap.size := (BX.out.bl 2 _ _ _ rfl).size; have p3_0 : wn.cell? ⟨x2.heap.size, 0, none⟩ = some (.int .i64 a3) := (BX.out.bl 3 _ _ _ rfl).val rfl; have p3_1 : wn.cell? ⟨x2.heap.size, 1, none⟩ = some (.int .i64 d) := (BX.out.bl 3 _ _ _ rfl).val rfl; have p3_2 : wn.cell? ⟨x2.heap.size, 2, none⟩ = some (.int .i64 0) := (BX.out.bl 3 _ _ _ rfl).val rfl; have z3 : ∀ k, wn.frozen? ⟨x2.heap.size, k, none⟩ = false := (BX.out.bl 3 _ _ _ rfl).free; have y3 : x2.heap.size < wn.heap.size := (BX.out.bl 3 _ _ _ rfl).size))
      all_goals (go_wp2_with fail; go_meet; exact ⟨rfl, (by first | exact BX.out | exact BX.out.drew_ | exact (BX.out.drewN_ _) | exact (BX.out).drew_)⟩)
    case rest =>
      clear p0_0 p0_1 p0_2 z0 y0 p1_0 p1_1 p1_2 p1_3 p1_4 p1_5 p1_6 z1 y1 p2_0 p2_1 p2_2 z2 y2 p3_0 p3_1 p3_2 z3 y3
      clear BX
      obtain ⟨rfl, bx⟩ := hcut
      have BX := Lib.hid bx
      clear bx
      have p0_0 : wc.cell? ⟨w.heap.size, 0, none⟩ = some (.int .i64 su) := (BX.out.bl 0 _ _ _ rfl).val rfl
      have p0_1 : wc.cell? ⟨w.heap.size, 1, none⟩ = some (.int .i64 la) := (BX.out.bl 0 _ _ _ rfl).val rfl
      have p0_2 : wc.cell? ⟨w.heap.size, 2, none⟩ = some (.int .i64 le) := (BX.out.bl 0 _ _ _ rfl).val rfl
      have z0 : ∀ k, wc.frozen? ⟨w.heap.size, k, none⟩ = false := (BX.out.bl 0 _ _ _ rfl).free
      have y0 : w.heap.size < wc.heap.size := (BX.out.bl 0 _ _ _ rfl).size
      have p1_0 : wc.cell? ⟨w.heap.size + 1, 0, none⟩ = some (.int .i64 sp) := (BX.out.bl 1 _ _ _ rfl).val rfl
      have p1_1 : wc.cell? ⟨w.heap.size + 1, 1, none⟩ = some (.int .i64 kp) := (BX.out.bl 1 _ _ _ rfl).val rfl
      have p1_2 : wc.cell? ⟨w.heap.size + 1, 2, none⟩ = some (.int .i64 ki) := (BX.out.bl 1 _ _ _ rfl).val rfl
      have p1_3 : wc.cell? ⟨w.heap.size + 1, 3, none⟩ = some (.int .i64 kd) := (BX.out.bl 1 _ _ _ rfl).val rfl
      have p1_4 : wc.cell? ⟨w.heap.size + 1, 4, none⟩ = some (.int .i64 li) := (BX.out.bl 1 _ _ _ rfl).val rfl
      have p1_5 : wc.cell? ⟨w.heap.size + 1, 5, none⟩ = some (.int .i64 st) := (BX.out.bl 1 _ _ _ rfl).val rfl
      have p1_6 : wc.cell? ⟨w.heap.size + 1, 6, none⟩ = some (.int .i64 mo) := (BX.out.bl 1 _ _ _ rfl).val rfl
      have z1 : ∀ k, wc.frozen? ⟨w.heap.size + 1, k, none⟩ = false := (BX.out.bl 1 _ _ _ rfl).free
      have y1 : w.heap.size + 1 < wc.heap.size := (BX.out.bl 1 _ _ _ rfl).size
      have p2_0 : wc.cell? ⟨w.heap.size + 1 + 1, 0, none⟩ = some (.int .i64 0) := (BX.out.bl 2 _ _ _ rfl).val rfl
      have p2_1 : wc.cell? ⟨w.heap.size + 1 + 1, 1, none⟩ = some (.int .i64 0) := (BX.out.bl 2 _ _ _ rfl).val rfl
      have p2_2 : wc.cell? ⟨w.heap.size + 1 + 1, 2, none⟩ = some (.int .i64 0) := (BX.out.bl 2 _ _ _ rfl).val rfl
      have z2 : ∀ k, wc.frozen? ⟨w.heap.size + 1 + 1, k, none⟩ = false := (BX.out.bl 2 _ _ _ rfl).free
      have y2 : w.heap.size + 1 + 1 < wc.heap.size := (BX.out.bl 2 _ _ _ rfl).size
      have p3_0 : wc.cell? ⟨x2.heap.size, 0, none⟩ = some (.int .i64 a3) := (BX.out.bl 3 _ _ _ rfl).val rfl
      have p3_1 : wc.cell? ⟨x2.heap.size, 1, none⟩ = some (.int .i64 d) := (BX.out.bl 3 _ _ _ rfl).val rfl
      have p3_2 : wc.cell? ⟨x2.heap.size, 2, none⟩ = some (.int .i64 0) := (BX.out.bl 3 _ _ _ rfl).val rfl
      have z3 : ∀ k, wc.frozen? ⟨x2.heap.size, k, none⟩ = false := (BX.out.bl 3 _ _ _ rfl).free
      have y3 : x2.heap.size < wc.heap.size := (BX.out.bl 3 _ _ _ rfl).size
      go_upto_region 12 with fail
      clear p0_0 p0_1 p0_2 z0 y0 p1_0 p1_1 p1_2 p1_3 p1_4 p1_5 p1_6 z1 y1 p2_0 p2_1 p2_2 z2 y2 p3_0 p3_1 p3_2 z3 y3
      refine wp_worldx (fun wx => Bxs w wx [(w.heap.size, 30, [.int .i64 su, .int .i64 la, .int .i64 le]), (w.heap.size + 1, 36, [.int .i64 sp, .int .i64 kp, .int .i64 ki, .int .i64 kd, .int .i64 li, .int .i64 st, .int .i64 mo]), (w.heap.size + 1 + 1, 30, [.int .i64 0, .int .i64 0, .int .i64 0]), (x2.heap.size, 30, [.int .i64 a3, .int .i64 d, .int .i64 le])]) ((BX.out).set_ 3 2 rfl _) ?_
      clear BX
      rintro x4 bx
      have BX := Lib.hid bx
      clear bx
      have p0_0 : x4.cell? ⟨w.heap.size, 0, none⟩ = some (.int .i64 su) := (BX.out.bl 0 _ _ _ rfl).val rfl
      have p0_1 : x4.cell? ⟨w.heap.size, 1, none⟩ = some (.int .i64 la) := (BX.out.bl 0 _ _ _ rfl).val rfl
      have p0_2 : x4.cell? ⟨w.heap.size, 2, none⟩ = some (.int .i64 le) := (BX.out.bl 0 _ _ _ rfl).val rfl
      have z0 : ∀ k, x4.frozen? ⟨w.heap.size, k, none⟩ = false := (BX.out.bl 0 _ _ _ rfl).free
      have y0 : w.heap.size < x4.heap.size := (BX.out.bl 0 _ _ _ rfl).size
      have p1_0 : x4.cell? ⟨w.heap.size + 1, 0, none⟩ = some (.int .i64 sp) := (BX.out.bl 1 _ _ _ rfl).val rfl
      have p1_1 : x4.cell? ⟨w.heap.size + 1, 1, none⟩ = some (.int .i64 kp) := (BX.out.bl 1 _ _ _ rfl).val rfl
      have p1_2 : x4.cell? ⟨w.heap.size + 1, 2, none⟩ = some (.int .i64 ki) := (BX.out.bl 1 _ _ _ rfl).val rfl
      have p1_3 : x4.cell? ⟨w.heap.size + 1, 3, none⟩ = some (.int .i64 kd) := (BX.out.bl 1 _ _ _ rfl).val rfl
      have p1_4 : x4.cell? ⟨w.heap.size + 1, 4, none⟩ = some (.int .i64 li) := (BX.out.bl 1 _ _ _ rfl).val rfl
      have p1_5 : x4.cell? ⟨w.heap.size + 1, 5, none⟩ = some (.int .i64 st) := (BX.out.bl 1 _ _ _ rfl).val rfl
      have p1_6 : x4.cell? ⟨w.heap.size + 1, 6, none⟩ = some (.int .i64 mo) := (BX.out.bl 1 _ _ _ rfl).val rfl
      have z1 : ∀ k, x4.frozen? ⟨w.heap.size + 1, k, none⟩ = false := (BX.out.bl 1 _ _ _ rfl).free
      have y1 : w.heap.size + 1 < x4.heap.size := (BX.out.bl 1 _ _ _ rfl).size
      have p2_0 : x4.cell? ⟨w.heap.size + 1 + 1, 0, none⟩ = some (.int .i64 0) := (BX.out.bl 2 _ _ _ rfl).val rfl
      have p2_1 : x4.cell? ⟨w.heap.size + 1 + 1, 1, none⟩ = some (.int .i64 0) := (BX.out.bl 2 _ _ _ rfl).val rfl
      have p2_2 : x4.cell? ⟨w.heap.size + 1 + 1, 2, none⟩ = some (.int .i64 0) := (BX.out.bl 2 _ _ _ rfl).val rfl
      have z2 : ∀ k, x4.frozen? ⟨w.heap.size + 1 + 1, k, none⟩ = false := (BX.out.bl 2 _ _ _ rfl).free
      have y2 : w.heap.size + 1 + 1 < x4.heap.size := (BX.out.bl 2 _ _ _ rfl).size
      have p3_0 : x4.cell? ⟨x2.heap.size, 0, none⟩ = some (.int .i64 a3) := (BX.out.bl 3 _ _ _ rfl).val rfl
      have p3_1 : x4.cell? ⟨x2.heap.size, 1, none⟩ = some (.int .i64 d) := (BX.out.bl 3 _ _ _ rfl).val rfl
      have p3_2 : x4.cell? ⟨x2.heap.size, 2, none⟩ = some (.int .i64 le) := (BX.out.bl 3 _ _ _ rfl).val rfl
      have z3 : ∀ k, x4.frozen? ⟨x2.heap.size, k, none⟩ = false := (BX.out.bl 3 _ _ _ rfl).free
      have y3 : x2.heap.size < x4.heap.size := (BX.out.bl 3 _ _ _ rfl).size
      go_wp2_with fail
      refine (rfloor02_any _ _ b80 b81).mono ?_
      rw [hf.out]
      rintro e x5 ⟨rfl, hb⟩
      have bx : Bxs w x5 [(w.heap.size, 30, [.int .i64 su, .int .i64 la, .int .i64 le]), (w.heap.size + 1, 36, [.int .i64 sp, .int .i64 kp, .int .i64 ki, .int .i64 kd, .int .i64 li, .int .i64 st, .int .i64 mo]), (w.heap.size + 1 + 1, 30, [.int .i64 0, .int .i64 0, .int .i64 0]), (x2.heap.size, 30, [.int .i64 a3, .int .i64 d, .int .i64 le])] := (BX.out).below hb
      clear p0_0 p0_1 p0_2 z0 y0 p1_0 p1_1 p1_2 p1_3 p1_4 p1_5 p1_6 z1 y1 p2_0 p2_1 p2_2 z2 y2 p3_0 p3_1 p3_2 z3 y3
      clear hb BX
      have BX := Lib.hid bx
      clear bx
      have p0_0 : x5.cell? ⟨w.heap.size, 0, none⟩ = some (.int .i64 su) := (BX.out.bl 0 _ _ _ rfl).val rfl
      have p0_1 : x5.cell? ⟨w.heap.size, 1, none⟩ = some (.int .i64 la) := (BX.out.bl 0 _ _ _ rfl).val rfl
      have p0_2 : x5.cell? ⟨w.heap.size, 2, none⟩ = some (.int .i64 le) := (BX.out.bl 0 _ _ _ rfl).val rfl
      have z0 : ∀ k, x5.frozen? ⟨w.heap.size, k, none⟩ = false := (BX.out.bl 0 _ _ _ rfl).free
      have y0 : w.heap.size < x5.heap.size := (BX.out.bl 0 _ _ _ rfl).size
      have p1_0 : x5.cell? ⟨w.heap.size + 1, 0, none⟩ = some (.int .i64 sp) := (BX.out.bl 1 _ _ _ rfl).val rfl
      have p1_1 : x5.cell? ⟨w.heap.size + 1, 1, none⟩ = some (.int .i64 kp) := (BX.out.bl 1 _ _ _ rfl).val rfl
      have p1_2 : x5.cell? ⟨w.heap.size + 1, 2, none⟩ = some (.int .i64 ki) := (BX.out.bl 1 _ _ _ rfl).val rfl
      have p1_3 : x5.cell? ⟨w.heap.size + 1, 3, none⟩ = some (.int .i64 kd) := (BX.out.bl 1 _ _ _ rfl).val rfl
      have p1_4 : x5.cell? ⟨w.heap.size + 1, 4, none⟩ = some (.int .i64 li) := (BX.out.bl 1 _ _ _ rfl).val rfl
      have p1_5 : x5.cell? ⟨w.heap.size + 1, 5, none⟩ = some (.int .i64 st) := (BX.out.bl 1 _ _ _ rfl).val rfl
      have p1_6 : x5.cell? ⟨w.heap.size + 1, 6, none⟩ = some (.int .i64 mo) := (BX.out.bl 1 _ _ _ rfl).val rfl
      have z1 : ∀ k, x5.frozen? ⟨w.heap.size + 1, k, none⟩ = false := (BX.out.bl 1 _ _ _ rfl).free
      have y1 : w.heap.size + 1 < x5.heap.size := (BX.out.bl 1 _ _ _ rfl).size
      have p2_0 : x5.cell? ⟨w.heap.size + 1 + 1, 0, none⟩ = some (.int .i64 0) := (BX.out.bl 2 _ _ _ rfl).val rfl
      have p2_1 : x5.cell? ⟨w.heap.size + 1 + 1, 1, none⟩ = some (.int .i64 0) := (BX.out.bl 2 _ _ _ rfl).val rfl
      have p2_2 : x5.cell? ⟨w.heap.size + 1 + 1, 2, none⟩ = some (.int .i64 0) := (BX.out.bl 2 _ _ _ rfl).val rfl
      have z2 : ∀ k, x5.frozen? ⟨w.heap.size + 1 + 1, k, none⟩ = false := (BX.out.bl 2 _ _ _ rfl).free
      have y2 : w.heap.size + 1 + 1 < x5.heap.size := (BX.out.bl 2 _ _ _ rfl).size
      have p3_0 : x5.cell? ⟨x2.heap.size, 0, none⟩ = some (.int .i64 a3) := (BX.out.bl 3 _ _ _ rfl).val rfl
      have p3_1 : x5.cell? ⟨x2.heap.size, 1, none⟩ = some (.int .i64 d) := (BX.out.bl 3 _ _ _ rfl).val rfl
      have p3_2 : x5.cell? ⟨x2.heap.size, 2, none⟩ = some (.int .i64 le) := (BX.out.bl 3 _ _ _ rfl).val rfl
      have z3 : ∀ k, x5.frozen? ⟨x2.heap.size, k, none⟩ = false := (BX.out.bl 3 _ _ _ rfl).free
      have y3 : x2.heap.size < x5.heap.size := (BX.out.bl 3 _ _ _ rfl).size
      go_upto_region 15 with fail
      clear p0_0 p0_1 p0_2 z0 y0 p1_0 p1_1 p1_2 p1_3 p1_4 p1_5 p1_6 z1 y1 p2_0 p2_1 p2_2 z2 y2 p3_0 p3_1 p3_2 z3 y3
      refine wp_worldx (fun wx => Bxs w wx [(w.heap.size, 30, [.int .i64 su, .int .i64 la, .int .i64 le]), (w.heap.size + 1, 36, [.int .i64 sp, .int .i64 kp, .int .i64 ki, .int .i64 kd, .int .i64 li, .int .i64 st, .int .i64 mo]), (w.heap.size + 1 + 1, 30, [.int .i64 0, .int .i64 0, .int .i64 0]), (x2.heap.size, 30, [.int .i64 a3, .int .i64 d, .int .i64 f])]) ((BX.out).set_ 3 2 rfl _) ?_
      clear BX
      rintro x6 bx
      have BX := Lib.hid bx
      clear bx
      have p0_0 : x6.cell? ⟨w.heap.size, 0, none⟩ = some (.int .i64 su) := (BX.out.bl 0 _ _ _ rfl).val rfl
      have p0_1 : x6.cell? ⟨w.heap.size, 1, none⟩ = some (.int .i64 la) := (BX.out.bl 0 _ _ _ rfl).val rfl
      have p0_2 : x6.cell? ⟨w.heap.size, 2, none⟩ = some (.int .i64 le) := (BX.out.bl 0 _ _ _ rfl).val rfl
      have z0 : ∀ k, x6.frozen? ⟨w.heap.size, k, none⟩ = false := (BX.out.bl 0 _ _ _ rfl).free
      have y0 : w.heap.size < x6.heap.size := (BX.out.bl 0 _ _ _ rfl).size
      have p1_0 : x6.cell? ⟨w.heap.size + 1, 0, none⟩ = some (.int .i64 sp) := (BX.out.bl 1 _ _ _ rfl).val rfl
      have p1_1 : x6.cell? ⟨w.heap.size + 1, 1, none⟩ = some (.int .i64 kp) := (BX.out.bl 1 _ _ _ rfl).val rfl
      have p1_2 : x6.cell? ⟨w.heap.size + 1, 2, none⟩ = some (.int .i64 ki) := (BX.out.bl 1 _ _ _ rfl).val rfl
      have p1_3 : x6.cell? ⟨w.heap.size + 1, 3, none⟩ = some (.int .i64 kd) := (BX.out.bl 1 _ _ _ rfl).val rfl
      have p1_4 : x6.cell? ⟨w.heap.size + 1, 4, none⟩ = some (.int .i64 li) := (BX.out.bl 1 _ _ _ rfl).val rfl
      have p1_5 : x6.cell? ⟨w.heap.size + 1, 5, none⟩ = some (.int .i64 st) := (BX.out.bl 1 _ _ _ rfl).val rfl
      have p1_6 : x6.cell? ⟨w.heap.size + 1, 6, none⟩ = some (.int .i64 mo) := (BX.out.bl 1 _ _ _ rfl).val rfl
      have z1 : ∀ k, x6.frozen? ⟨w.heap.size + 1, k, none⟩ = false := (BX.out.bl 1 _ _ _ rfl).free
      have y1 : w.heap.size + 1 < x6.heap.size := (BX.out.bl 1 _ _ _ rfl).size
      have p2_0 : x6.cell? ⟨w.heap.size + 1 + 1, 0, none⟩ = some (.int .i64 0) := (BX.out.bl 2 _ _ _ rfl).val rfl
      have p2_1 : x6.cell? ⟨w.heap.size + 1 + 1, 1, none⟩ = some (.int .i64 0) := (BX.out.bl 2 _ _ _ rfl).val rfl
      have p2_2 : x6.cell? ⟨w.heap.size + 1 + 1, 2, none⟩ = some (.int .i64 0) := (BX.out.bl 2 _ _ _ rfl).val rfl
      have z2 : ∀ k, x6.frozen? ⟨w.heap.size + 1 + 1, k, none⟩ = false := (BX.out.bl 2 _ _ _ rfl).free
      have y2 : w.heap.size + 1 + 1 < x6.heap.size := (BX.out.bl 2 _ _ _ rfl).size
      have p3_0 : x6.cell? ⟨x2.heap.size, 0, none⟩ = some (.int .i64 a3) := (BX.out.bl 3 _ _ _ rfl).val rfl
      have p3_1 : x6.cell? ⟨x2.heap.size, 1, none⟩ = some (.int .i64 d) := (BX.out.bl 3 _ _ _ rfl).val rfl
      have p3_2 : x6.cell? ⟨x2.heap.size, 2, none⟩ = some (.int .i64 f) := (BX.out.bl 3 _ _ _ rfl).val rfl
      have z3 : ∀ k, x6.frozen? ⟨x2.heap.size, k, none⟩ = false := (BX.out.bl 3 _ _ _ rfl).free
      have y3 : x2.heap.size < x6.heap.size := (BX.out.bl 3 _ _ _ rfl).size
      go_wp2_with fail
      refine (radd02_any _ _ _ le0 le1 st0 st1).mono ?_
      rw [hm.out]
      rintro e x7 ⟨rfl, hb⟩
      have bx : Bxs w x7 [(w.heap.size, 30, [.int .i64 su, .int .i64 la, .int .i64 le]), (w.heap.size + 1, 36, [.int .i64 sp, .int .i64 kp, .int .i64 ki, .int .i64 kd, .int .i64 li, .int .i64 st, .int .i64 mo]), (w.heap.size + 1 + 1, 30, [.int .i64 0, .int .i64 0, .int .i64 0]), (x2.heap.size, 30, [.int .i64 a3, .int .i64 d, .int .i64 f])] := (BX.out).below hb
      clear p0_0 p0_1 p0_2 z0 y0 p1_0 p1_1 p1_2 p1_3 p1_4 p1_5 p1_6 z1 y1 p2_0 p2_1 p2_2 z2 y2 p3_0 p3_1 p3_2 z3 y3
      clear hb BX
      have BX := Lib.hid bx
      clear bx
      have p0_0 : x7.cell? ⟨w.heap.size, 0, none⟩ = some (.int .i64 su) := (BX.out.bl 0 _ _ _ rfl).val rfl
      have p0_1 : x7.cell? ⟨w.heap.size, 1, none⟩ = some (.int .i64 la) := (BX.out.bl 0 _ _ _ rfl).val rfl
      have p0_2 : x7.cell? ⟨w.heap.size, 2, none⟩ = some (.int .i64 le) := (BX.out.bl 0 _ _ _ rfl).val rfl
      have z0 : ∀ k, x7.frozen? ⟨w.heap.size, k, none⟩ = false := (BX.out.bl 0 _ _ _ rfl).free
      have y0 : w.heap.size < x7.heap.size := (BX.out.bl 0 _ _ _ rfl).size
      have p1_0 : x7.cell? ⟨w.heap.size + 1, 0, none⟩ = some (.int .i64 sp) := (BX.out.bl 1 _ _ _ rfl).val rfl
      have p1_1 : x7.cell? ⟨w.heap.size + 1, 1, none⟩ = some (.int .i64 kp) := (BX.out.bl 1 _ _ _ rfl).val rfl
      have p1_2 : x7.cell? ⟨w.heap.size + 1, 2, none⟩ = some (.int .i64 ki) := (BX.out.bl 1 _ _ _ rfl).val rfl
      have p1_3 : x7.cell? ⟨w.heap.size + 1, 3, none⟩ = some (.int .i64 kd) := (BX.out.bl 1 _ _ _ rfl).val rfl
      have p1_4 : x7.cell? ⟨w.heap.size + 1, 4, none⟩ = some (.int .i64 li) := (BX.out.bl 1 _ _ _ rfl).val rfl
      have p1_5 : x7.cell? ⟨w.heap.size + 1, 5, none⟩ = some (.int .i64 st) := (BX.out.bl 1 _ _ _ rfl).val rfl
      have p1_6 : x7.cell? ⟨w.heap.size + 1, 6, none⟩ = some (.int .i64 mo) := (BX.out.bl 1 _ _ _ rfl).val rfl
      have z1 : ∀ k, x7.frozen? ⟨w.heap.size + 1, k, none⟩ = false := (BX.out.bl 1 _ _ _ rfl).free
      have y1 : w.heap.size + 1 < x7.heap.size := (BX.out.bl 1 _ _ _ rfl).size
      have p2_0 : x7.cell? ⟨w.heap.size + 1 + 1, 0, none⟩ = some (.int .i64 0) := (BX.out.bl 2 _ _ _ rfl).val rfl
      have p2_1 : x7.cell? ⟨w.heap.size + 1 + 1, 1, none⟩ = some (.int .i64 0) := (BX.out.bl 2 _ _ _ rfl).val rfl
      have p2_2 : x7.cell? ⟨w.heap.size + 1 + 1, 2, none⟩ = some (.int .i64 0) := (BX.out.bl 2 _ _ _ rfl).val rfl
      have z2 : ∀ k, x7.frozen? ⟨w.heap.size + 1 + 1, k, none⟩ = false := (BX.out.bl 2 _ _ _ rfl).free
      have y2 : w.heap.size + 1 + 1 < x7.heap.size := (BX.out.bl 2 _ _ _ rfl).size
      have p3_0 : x7.cell? ⟨x2.heap.size, 0, none⟩ = some (.int .i64 a3) := (BX.out.bl 3 _ _ _ rfl).val rfl
      have p3_1 : x7.cell? ⟨x2.heap.size, 1, none⟩ = some (.int .i64 d) := (BX.out.bl 3 _ _ _ rfl).val rfl
      have p3_2 : x7.cell? ⟨x2.heap.size, 2, none⟩ = some (.int .i64 f) := (BX.out.bl 3 _ _ _ rfl).val rfl
      have z3 : ∀ k, x7.frozen? ⟨x2.heap.size, k, none⟩ = false := (BX.out.bl 3 _ _ _ rfl).free
      have y3 : x2.heap.size < x7.heap.size := (BX.out.bl 3 _ _ _ rfl).size
      go_upto_region 18 with fail
      clear p0_0 p0_1 p0_2 z0 y0 p1_0 p1_1 p1_2 p1_3 p1_4 p1_5 p1_6 z1 y1 p2_0 p2_1 p2_2 z2 y2 p3_0 p3_1 p3_2 z3 y3
      refine wp_worldx (fun wx => Bxs w wx [(w.heap.size, 30, [.int .i64 su, .int .i64 la, .int .i64 le]), (w.heap.size + 1, 36, [.int .i64 sp, .int .i64 kp, .int .i64 ki, .int .i64 kd, .int .i64 li, .int .i64 st, .int .i64 mo]), (w.heap.size + 1 + 1, 30, [.int .i64 0, .int .i64 0, .int .i64 0]), (x2.heap.size, 30, [.int .i64 a3, .int .i64 d, .int .i64 m])]) ((BX.out).set_ 3 2 rfl _) ?_
      clear BX
      rintro x8 bx
      have BX := Lib.hid bx
      clear bx
      have p0_0 : x8.cell? ⟨w.heap.size, 0, none⟩ = some (.int .i64 su) := (BX.out.bl 0 _ _ _ rfl).val rfl
      have p0_1 : x8.cell? ⟨w.heap.size, 1, none⟩ = some (.int .i64 la) := (BX.out.bl 0 _ _ _ rfl).val rfl
      have p0_2 : x8.cell? ⟨w.heap.size, 2, none⟩ = some (.int .i64 le) := (BX.out.bl 0 _ _ _ rfl).val rfl
      have z0 : ∀ k, x8.frozen? ⟨w.heap.size, k, none⟩ = false := (BX.out.bl 0 _ _ _ rfl).free
      have y0 : w.heap.size < x8.heap.size := (BX.out.bl 0 _ _ _ rfl).size
      have p1_0 : x8.cell? ⟨w.heap.size + 1, 0, none⟩ = some (.int .i64 sp) := (BX.out.bl 1 _ _ _ rfl).val rfl
      have p1_1 : x8.cell? ⟨w.heap.size + 1, 1, none⟩ = some (.int .i64 kp) := (BX.out.bl 1 _ _ _ rfl).val rfl
      have p1_2 : x8.cell? ⟨w.heap.size + 1, 2, none⟩ = some (.int .i64 ki) := (BX.out.bl 1 _ _ _ rfl).val rfl
      have p1_3 : x8.cell? ⟨w.heap.size + 1, 3, none⟩ = some (.int .i64 kd) := (BX.out.bl 1 _ _ _ rfl).val rfl
      have p1_4 : x8.cell? ⟨w.heap.size + 1, 4, none⟩ = some (.int .i64 li) := (BX.out.bl 1 _ _ _ rfl).val rfl
      have p1_5 : x8.cell? ⟨w.heap.size + 1, 5, none⟩ = some (.int .i64 st) := (BX.out.bl 1 _ _ _ rfl).val rfl
      have p1_6 : x8.cell? ⟨w.heap.size + 1, 6, none⟩ = some (.int .i64 mo) := (BX.out.bl 1 _ _ _ rfl).val rfl
      have z1 : ∀ k, x8.frozen? ⟨w.heap.size + 1, k, none⟩ = false := (BX.out.bl 1 _ _ _ rfl).free
      have y1 : w.heap.size + 1 < x8.heap.size := (BX.out.bl 1 _ _ _ rfl).size
      have p2_0 : x8.cell? ⟨w.heap.size + 1 + 1, 0, none⟩ = some (.int .i64 0) := (BX.out.bl 2 _ _ _ rfl).val rfl
      have p2_1 : x8.cell? ⟨w.heap.size + 1 + 1, 1, none⟩ = some (.int .i64 0) := (BX.out.bl 2 _ _ _ rfl).val rfl
      have p2_2 : x8.cell? ⟨w.heap.size + 1 + 1, 2, none⟩ = some (.int .i64 0) := (BX.out.bl 2 _ _ _ rfl).val rfl
      have z2 : ∀ k, x8.frozen? ⟨w.heap.size + 1 + 1, k, none⟩ = false := (BX.out.bl 2 _ _ _ rfl).free
      have y2 : w.heap.size + 1 + 1 < x8.heap.size := (BX.out.bl 2 _ _ _ rfl).size
      have p3_0 : x8.cell? ⟨x2.heap.size, 0, none⟩ = some (.int .i64 a3) := (BX.out.bl 3 _ _ _ rfl).val rfl
      have p3_1 : x8.cell? ⟨x2.heap.size, 1, none⟩ = some (.int .i64 d) := (BX.out.bl 3 _ _ _ rfl).val rfl
      have p3_2 : x8.cell? ⟨x2.heap.size, 2, none⟩ = some (.int .i64 m) := (BX.out.bl 3 _ _ _ rfl).val rfl
      have z3 : ∀ k, x8.frozen? ⟨x2.heap.size, k, none⟩ = false := (BX.out.bl 3 _ _ _ rfl).free
      have y3 : x2.heap.size < x8.heap.size := (BX.out.bl 3 _ _ _ rfl).size
      go_wp2_with fail
      refine (rclamp_any _ _ _ _).mono ?_
      rintro e x9 ⟨rfl, rfl⟩
      go_wp2_with fail
      refine bodyPost_ret (v := .agg #[.int .i64 a3, .int .i64 d, .int .i64 (clampN m 0 mo)]) (by simp [results, Try.results12, go_sem, *]) rfl ⟨rfl, ?_⟩
      exact (((((BX.out).set_ 3 2 rfl _).set_ 2 0 rfl _).set_ 2 1 rfl _).set_ 2 2 rfl _).be
set_option maxRecDepth 100000 in
set_option maxHeartbeats 4000000 in
theorem rrise_mp (su la le sp kp ki kd li st mo u d a1 a2 a3 a4 a5 a6 a7 a8 f m : Int) (hc : ¬ u ≤ sp) (hd : Hid (sat (u - sp) = d)) (h1 : Hid (sat (prodN ki d) = a1)) (h2 : Hid (sat (su + a1) = a2)) (h3 : Hid (clampN a2 0 li = a3)) (h4 : Hid (sat (prodN kp d) = a4)) (h5 : Hid (sat (a4 + a3) = a5)) (h6 : Hid (sat (d - la) = a6)) (h7 : Hid (sat (prodN kd a6) = a7)) (h8 : Hid (sat (a5 + a7) = a8)) (hf : Hid (a8 / 4294967296 = f)) (hm : Hid (sat (le + st) = m)) (hg : le < f) (ho : ¬ m < f) (w : World) (su0 : -9223372036854775808 ≤ su) (su1 : su ≤ 9223372036854775807) (la0 : -9223372036854775808 ≤ la) (la1 : la ≤ 9223372036854775807) (le0 : -9223372036854775808 ≤ le) (le1 : le ≤ 9223372036854775807) (sp0 : -9223372036854775808 ≤ sp) (sp1 : sp ≤ 9223372036854775807) (kp0 : -9223372036854775808 ≤ kp) (kp1 : kp ≤ 9223372036854775807) (ki0 : -9223372036854775808 ≤ ki) (ki1 : ki ≤ 9223372036854775807) (kd0 : -9223372036854775808 ≤ kd) (kd1 : kd ≤ 9223372036854775807) (li0 : -9223372036854775808 ≤ li) (li1 : li ≤ 9223372036854775807) (st0 : -9223372036854775808 ≤ st) (st1 : st ≤ 9223372036854775807) (mo0 : -9223372036854775808 ≤ mo) (mo1 : mo ≤ 9223372036854775807) (u0 : -9223372036854775808 ≤ u) (u1 : u ≤ 9223372036854775807) (d0 : -9223372036854775808 ≤ d) (d1 : d ≤ 9223372036854775807) (b10 : -9223372036854775808 ≤ a1) (b11 : a1 ≤ 9223372036854775807) (b20 : -9223372036854775808 ≤ a2) (b21 : a2 ≤ 9223372036854775807) (b30 : -9223372036854775808 ≤ a3) (b31 : a3 ≤ 9223372036854775807) (b40 : -9223372036854775808 ≤ a4) (b41 : a4 ≤ 9223372036854775807) (b50 : -9223372036854775808 ≤ a5) (b51 : a5 ≤ 9223372036854775807) (b60 : -9223372036854775808 ≤ a6) (b61 : a6 ≤ 9223372036854775807) (b70 : -9223372036854775808 ≤ a7) (b71 : a7 ≤ 9223372036854775807) (b80 : -9223372036854775808 ≤ a8) (b81 : a8 ≤ 9223372036854775807) :
    Calls Try.prog 12 #[.agg #[.int .i64 su, .int .i64 la, .int .i64 le], .agg #[.int .i64 sp, .int .i64 kp, .int .i64 ki, .int .i64 kd, .int .i64 li, .int .i64 st, .int .i64 mo], .int .i64 u] w fun e w' => e = .returned (.agg #[.int .i64 a3, .int .i64 d, .int .i64 (clampN f 0 mo)]) ∧ Below w.heap.size w w' := by
  go_enter Try.func12, Try.ntmps12
  go_upto_region 1 with fail
  refine wp_worldx (fun wx => Bxs w wx [(w.heap.size, 30, [.int .i64 su, .int .i64 la, .int .i64 le]), (w.heap.size + 1, 36, [.int .i64 sp, .int .i64 kp, .int .i64 ki, .int .i64 kd, .int .i64 li, .int .i64 st, .int .i64 mo]), (w.heap.size + 1 + 1, 30, [.int .i64 0, .int .i64 0, .int .i64 0])]) ((((Bxs.nil_ w).alloc_ _ _ (by simp)).alloc_ _ _ (by simp)).alloc_ _ _ (by simp)) ?_
  rintro x1 bx
  have BX := Lib.hid bx
  clear bx
  have p0_0 : x1.cell? ⟨w.heap.size, 0, none⟩ = some (.int .i64 su) := (BX.out.bl 0 _ _ _ rfl).val rfl
  have p0_1 : x1.cell? ⟨w.heap.size, 1, none⟩ = some (.int .i64 la) := (BX.out.bl 0 _ _ _ rfl).val rfl
  have p0_2 : x1.cell? ⟨w.heap.size, 2, none⟩ = some (.int .i64 le) := (BX.out.bl 0 _ _ _ rfl).val rfl
  have z0 : ∀ k, x1.frozen? ⟨w.heap.size, k, none⟩ = false := (BX.out.bl 0 _ _ _ rfl).free
  have y0 : w.heap.size < x1.heap.size := (BX.out.bl 0 _ _ _ rfl).size
  have p1_0 : x1.cell? ⟨w.heap.size + 1, 0, none⟩ = some (.int .i64 sp) := (BX.out.bl 1 _ _ _ rfl).val rfl
  have p1_1 : x1.cell? ⟨w.heap.size + 1, 1, none⟩ = some (.int .i64 kp) := (BX.out.bl 1 _ _ _ rfl).val rfl
  have p1_2 : x1.cell? ⟨w.heap.size + 1, 2, none⟩ = some (.int .i64 ki) := (BX.out.bl 1 _ _ _ rfl).val rfl
  have p1_3 : x1.cell? ⟨w.heap.size + 1, 3, none⟩ = some (.int .i64 kd) := (BX.out.bl 1 _ _ _ rfl).val rfl
  have p1_4 : x1.cell? ⟨w.heap.size + 1, 4, none⟩ = some (.int .i64 li) := (BX.out.bl 1 _ _ _ rfl).val rfl
  have p1_5 : x1.cell? ⟨w.heap.size + 1, 5, none⟩ = some (.int .i64 st) := (BX.out.bl 1 _ _ _ rfl).val rfl
  have p1_6 : x1.cell? ⟨w.heap.size + 1, 6, none⟩ = some (.int .i64 mo) := (BX.out.bl 1 _ _ _ rfl).val rfl
  have z1 : ∀ k, x1.frozen? ⟨w.heap.size + 1, k, none⟩ = false := (BX.out.bl 1 _ _ _ rfl).free
  have y1 : w.heap.size + 1 < x1.heap.size := (BX.out.bl 1 _ _ _ rfl).size
  have p2_0 : x1.cell? ⟨w.heap.size + 1 + 1, 0, none⟩ = some (.int .i64 0) := (BX.out.bl 2 _ _ _ rfl).val rfl
  have p2_1 : x1.cell? ⟨w.heap.size + 1 + 1, 1, none⟩ = some (.int .i64 0) := (BX.out.bl 2 _ _ _ rfl).val rfl
  have p2_2 : x1.cell? ⟨w.heap.size + 1 + 1, 2, none⟩ = some (.int .i64 0) := (BX.out.bl 2 _ _ _ rfl).val rfl
  have z2 : ∀ k, x1.frozen? ⟨w.heap.size + 1 + 1, k, none⟩ = false := (BX.out.bl 2 _ _ _ rfl).free
  have y2 : w.heap.size + 1 + 1 < x1.heap.size := (BX.out.bl 2 _ _ _ rfl).size
  go_wp2_with fail
  refine (rsub02_any _ _ _ u0 u1 sp0 sp1).mono ?_
  rw [hd.out]
  rintro e x2 ⟨rfl, hb⟩
  have bx : Bxs w x2 [(w.heap.size, 30, [.int .i64 su, .int .i64 la, .int .i64 le]), (w.heap.size + 1, 36, [.int .i64 sp, .int .i64 kp, .int .i64 ki, .int .i64 kd, .int .i64 li, .int .i64 st, .int .i64 mo]), (w.heap.size + 1 + 1, 30, [.int .i64 0, .int .i64 0, .int .i64 0])] := (BX.out).below hb
  clear p0_0 p0_1 p0_2 z0 y0 p1_0 p1_1 p1_2 p1_3 p1_4 p1_5 p1_6 z1 y1 p2_0 p2_1 p2_2 z2 y2
  clear hb BX
  have BX := Lib.hid bx
  clear bx
  have p0_0 : x2.cell? ⟨w.heap.size, 0, none⟩ = some (.int .i64 su) := (BX.out.bl 0 _ _ _ rfl).val rfl
  have p0_1 : x2.cell? ⟨w.heap.size, 1, none⟩ = some (.int .i64 la) := (BX.out.bl 0 _ _ _ rfl).val rfl
  have p0_2 : x2.cell? ⟨w.heap.size, 2, none⟩ = some (.int .i64 le) := (BX.out.bl 0 _ _ _ rfl).val rfl
  have z0 : ∀ k, x2.frozen? ⟨w.heap.size, k, none⟩ = false := (BX.out.bl 0 _ _ _ rfl).free
  have y0 : w.heap.size < x2.heap.size := (BX.out.bl 0 _ _ _ rfl).size
  have p1_0 : x2.cell? ⟨w.heap.size + 1, 0, none⟩ = some (.int .i64 sp) := (BX.out.bl 1 _ _ _ rfl).val rfl
  have p1_1 : x2.cell? ⟨w.heap.size + 1, 1, none⟩ = some (.int .i64 kp) := (BX.out.bl 1 _ _ _ rfl).val rfl
  have p1_2 : x2.cell? ⟨w.heap.size + 1, 2, none⟩ = some (.int .i64 ki) := (BX.out.bl 1 _ _ _ rfl).val rfl
  have p1_3 : x2.cell? ⟨w.heap.size + 1, 3, none⟩ = some (.int .i64 kd) := (BX.out.bl 1 _ _ _ rfl).val rfl
  have p1_4 : x2.cell? ⟨w.heap.size + 1, 4, none⟩ = some (.int .i64 li) := (BX.out.bl 1 _ _ _ rfl).val rfl
  have p1_5 : x2.cell? ⟨w.heap.size + 1, 5, none⟩ = some (.int .i64 st) := (BX.out.bl 1 _ _ _ rfl).val rfl
  have p1_6 : x2.cell? ⟨w.heap.size + 1, 6, none⟩ = some (.int .i64 mo) := (BX.out.bl 1 _ _ _ rfl).val rfl
  have z1 : ∀ k, x2.frozen? ⟨w.heap.size + 1, k, none⟩ = false := (BX.out.bl 1 _ _ _ rfl).free
  have y1 : w.heap.size + 1 < x2.heap.size := (BX.out.bl 1 _ _ _ rfl).size
  have p2_0 : x2.cell? ⟨w.heap.size + 1 + 1, 0, none⟩ = some (.int .i64 0) := (BX.out.bl 2 _ _ _ rfl).val rfl
  have p2_1 : x2.cell? ⟨w.heap.size + 1 + 1, 1, none⟩ = some (.int .i64 0) := (BX.out.bl 2 _ _ _ rfl).val rfl
  have p2_2 : x2.cell? ⟨w.heap.size + 1 + 1, 2, none⟩ = some (.int .i64 0) := (BX.out.bl 2 _ _ _ rfl).val rfl
  have z2 : ∀ k, x2.frozen? ⟨w.heap.size + 1 + 1, k, none⟩ = false := (BX.out.bl 2 _ _ _ rfl).free
  have y2 : w.heap.size + 1 + 1 < x2.heap.size := (BX.out.bl 2 _ _ _ rfl).size
  have gz := y2
  go_upto_region 3 with fail
  clear p0_0 p0_1 p0_2 z0 y0 p1_0 p1_1 p1_2 p1_3 p1_4 p1_5 p1_6 z1 y1 p2_0 p2_1 p2_2 z2 y2
  refine wp_worldx (fun wx => Bxs w wx [(w.heap.size, 30, [.int .i64 su, .int .i64 la, .int .i64 le]), (w.heap.size + 1, 36, [.int .i64 sp, .int .i64 kp, .int .i64 ki, .int .i64 kd, .int .i64 li, .int .i64 st, .int .i64 mo]), (w.heap.size + 1 + 1, 30, [.int .i64 0, .int .i64 0, .int .i64 0]), (x2.heap.size, 30, [.int .i64 0, .int .i64 d, .int .i64 0])]) ((BX.out).alloc_ _ _ (by simp)) ?_
  clear BX
  rintro x3 bx
  have BX := Lib.hid bx
  clear bx
  have p0_0 : x3.cell? ⟨w.heap.size, 0, none⟩ = some (.int .i64 su) := (BX.out.bl 0 _ _ _ rfl).val rfl
  have p0_1 : x3.cell? ⟨w.heap.size, 1, none⟩ = some (.int .i64 la) := (BX.out.bl 0 _ _ _ rfl).val rfl
  have p0_2 : x3.cell? ⟨w.heap.size, 2, none⟩ = some (.int .i64 le) := (BX.out.bl 0 _ _ _ rfl).val rfl
  have z0 : ∀ k, x3.frozen? ⟨w.heap.size, k, none⟩ = false := (BX.out.bl 0 _ _ _ rfl).free
  have y0 : w.heap.size < x3.heap.size := (BX.out.bl 0 _ _ _ rfl).size
  have p1_0 : x3.cell? ⟨w.heap.size + 1, 0, none⟩ = some (.int .i64 sp) := (BX.out.bl 1 _ _ _ rfl).val rfl
  have p1_1 : x3.cell? ⟨w.heap.size + 1, 1, none⟩ = some (.int .i64 kp) := (BX.out.bl 1 _ _ _ rfl).val rfl
  have p1_2 : x3.cell? ⟨w.heap.size + 1, 2, none⟩ = some (.int .i64 ki) := (BX.out.bl 1 _ _ _ rfl).val rfl
  have p1_3 : x3.cell? ⟨w.heap.size + 1, 3, none⟩ = some (.int .i64 kd) := (BX.out.bl 1 _ _ _ rfl).val rfl
  have p1_4 : x3.cell? ⟨w.heap.size + 1, 4, none⟩ = some (.int .i64 li) := (BX.out.bl 1 _ _ _ rfl).val rfl
  have p1_5 : x3.cell? ⟨w.heap.size + 1, 5, none⟩ = some (.int .i64 st) := (BX.out.bl 1 _ _ _ rfl).val rfl
  have p1_6 : x3.cell? ⟨w.heap.size + 1, 6, none⟩ = some (.int .i64 mo) := (BX.out.bl 1 _ _ _ rfl).val rfl
  have z1 : ∀ k, x3.frozen? ⟨w.heap.size + 1, k, none⟩ = false := (BX.out.bl 1 _ _ _ rfl).free
  have y1 : w.heap.size + 1 < x3.heap.size := (BX.out.bl 1 _ _ _ rfl).size
  have p2_0 : x3.cell? ⟨w.heap.size + 1 + 1, 0, none⟩ = some (.int .i64 0) := (BX.out.bl 2 _ _ _ rfl).val rfl
  have p2_1 : x3.cell? ⟨w.heap.size + 1 + 1, 1, none⟩ = some (.int .i64 0) := (BX.out.bl 2 _ _ _ rfl).val rfl
  have p2_2 : x3.cell? ⟨w.heap.size + 1 + 1, 2, none⟩ = some (.int .i64 0) := (BX.out.bl 2 _ _ _ rfl).val rfl
  have z2 : ∀ k, x3.frozen? ⟨w.heap.size + 1 + 1, k, none⟩ = false := (BX.out.bl 2 _ _ _ rfl).free
  have y2 : w.heap.size + 1 + 1 < x3.heap.size := (BX.out.bl 2 _ _ _ rfl).size
  have p3_0 : x3.cell? ⟨x2.heap.size, 0, none⟩ = some (.int .i64 0) := (BX.out.bl 3 _ _ _ rfl).val rfl
  have p3_1 : x3.cell? ⟨x2.heap.size, 1, none⟩ = some (.int .i64 d) := (BX.out.bl 3 _ _ _ rfl).val rfl
  have p3_2 : x3.cell? ⟨x2.heap.size, 2, none⟩ = some (.int .i64 0) := (BX.out.bl 3 _ _ _ rfl).val rfl
  have z3 : ∀ k, x3.frozen? ⟨x2.heap.size, k, none⟩ = false := (BX.out.bl 3 _ _ _ rfl).free
  have y3 : x2.heap.size < x3.heap.size := (BX.out.bl 3 _ _ _ rfl).size
  go_upto_region 9 with fail
  go_cut [] (fun  wx =>  Bxs w wx [(w.heap.size, 30, [.int .i64 su, .int .i64 la, .int .i64 le]), (w.heap.size + 1, 36, [.int .i64 sp, .int .i64 kp, .int .i64 ki, .int .i64 kd, .int .i64 li, .int .i64 st, .int .i64 mo]), (w.heap.size + 1 + 1, 30, [.int .i64 0, .int .i64 0, .int .i64 0]), (x2.heap.size, 30, [.int .i64 a3, .int .i64 d, .int .i64 0])])
  case first =>
    go_region_held3 (fun w' => w'.cell? ⟨w.heap.size, 0, none⟩ = some (.int .i64 su) ∧ w'.cell? ⟨w.heap.size + 1, 2, none⟩ = some (.int .i64 ki) ∧ w'.cell? ⟨w.heap.size + 1, 4, none⟩ = some (.int .i64 li)) (repeat (first | with_reducible assumption | refine ⟨?_, ?_⟩ | with_reducible refine kdrew ?_ | with_reducible refine kalloc ?_ _ | with_reducible refine kother ?_ (by simp; try omega))) (first | (go_at_call 22; refine (rof02_any _ _ _ (by omega) (by omega) (by omega) (by omega)).mono ?_; (rw [h1.out]); rintro e wn ⟨rfl, hbn⟩; have bx : Bxs w wn [(w.heap.size, 30, [.int .i64 su, .int .i64 la, .int .i64 le]), (w.heap.size + 1, 36, [.int .i64 sp, .int .i64 kp, .int .i64 ki, .int .i64 kd, .int .i64 li, .int .i64 st, .int .i64 mo]), (w.heap.size + 1 + 1, 30, [.int .i64 0, .int .i64 0, .int .i64 0]), (x2.heap.size, 30, [.int .i64 0, .int .i64 d, .int .i64 0])] := (by first | exact BX.out.below hbn | exact BX.out.drew_.below hbn | exact (BX.out.drewN_ _).below hbn); clear hbn BX p0_0 p0_1 p0_2 z0 y0 p1_0 p1_1 p1_2 p1_3 p1_4 p1_5 p1_6 z1 y1 p2_0 p2_1 p2_2 z2 y2 p3_0 p3_1 p3_2 z3 y3; have BX := Lib.hid bx; clear bx; have p0_0 : wn.cell? ⟨w.heap.size, 0, none⟩ = some (.int .i64 su) := (BX.out.bl 0 _ _ _ rfl).val rfl; have p0_1 : wn.cell? ⟨w.heap.size, 1, none⟩ = some (.int .i64 la) := (BX.out.bl 0 _ _ _ rfl).val rfl; have p0_2 : wn.cell? ⟨w.heap.size, 2, none⟩ = some (.int .i64 le) := (BX.out.bl 0 _ _ _ rfl).val rfl; have z0 : ∀ k, wn.frozen? ⟨w.heap.size, k, none⟩ = false := (BX.out.bl 0 _ _ _ rfl).free; have y0 : w.heap.size < wn.heap.size := (BX.out.bl 0 _ _ _ rfl).size; have p1_0 : wn.cell? ⟨w.heap.size + 1, 0, none⟩ = some (.int .i64 sp) := (BX.out.bl 1 _ _ _ rfl).val rfl; have p1_1 : wn.cell? ⟨w.heap.size + 1, 1, none⟩ = some (.int .i64 kp) := (BX.out.bl 1 _ _ _ rfl).val rfl; have p1_2 : wn.cell? ⟨w.heap.size + 1, 2, none⟩ = some (.int .i64 ki) := (BX.out.bl 1 _ _ _ rfl).val rfl; have p1_3 : wn.cell? ⟨w.heap.size + 1, 3, none⟩ = some (.int .i64 kd) := (BX.out.bl 1 _ _ _ rfl).val rfl; have p1_4 : wn.cell? ⟨w.heap.size + 1, 4, none⟩ = some (.int .i64 li) := (BX.out.bl 1 _ _ _ rfl).val rfl; have p1_5 : wn.cell? ⟨w.heap.size + 1, 5, none⟩ = some (.int .i64 st) := (BX.out.bl 1 _ _ _ rfl).val rfl; have p1_6 : wn.cell? ⟨w.heap.size + 1, 6, none⟩ = some (.int .i64 mo) := (BX.out.bl 1 _ _ _ rfl).val rfl; have z1 : ∀ k, wn.frozen? ⟨w.heap.size + 1, k, none⟩ = false := (BX.out.bl 1 _ _ _ rfl).free; have y1 : w.heap.size + 1 < wn.heap.size := (BX.out.bl 1 _ _ _ rfl).size; have p2_0 : wn.cell? ⟨w.heap.size + 1 + 1, 0, none⟩ = some (.int .i64 0) := (BX.out.bl 2 _ _ _ rfl).val rfl; have p2_1 : wn.cell? ⟨w.heap.size + 1 + 1, 1, none⟩ = some (.int .i64 0) := (BX.out.bl 2 _ _ _ rfl).val rfl; have p2_2 : wn.cell? ⟨w.heap.size + 1 + 1, 2, none⟩ = some (.int .i64 0) := (BX.out.bl 2 _ _ _ rfl).val rfl; have z2 : ∀ k, wn.frozen? ⟨w.heap.size + 1 + 1, k, none⟩ = false := (BX.out.bl 2 _ _ _ rfl).free; have y2 : w.heap.size + 1 + 1 < wn.heap.size := (BX.out.bl 2 _ _ _ rfl).size; have p3_0 : wn.cell? ⟨x2.heap.size, 0, none⟩ = some (.int .i64 0) := (BX.out.bl 3 _ _ _ rfl).val rfl; have p3_1 : wn.cell? ⟨x2.heap.size, 1, none⟩ = some (.int .i64 d) := (BX.out.bl 3 _ _ _ rfl).val rfl; have p3_2 : wn.cell? ⟨x2.heap.size, 2, none⟩ = some (.int .i64 0) := (BX.out.bl 3 _ _ _ rfl).val rfl; have z3 : ∀ k, wn.frozen? ⟨x2.heap.size, k, none⟩ = false := (BX.out.bl 3 _ _ _ rfl).free; have y3 : x2.heap.size < wn.heap.size := (BX.out.bl 3 _ _ _ rfl).size) | (go_at_call 24; refine (radd02_any _ _ _ (by omega) (by omega) (by omega) (by omega)).mono ?_; (rw [h2.out]); rintro e wn ⟨rfl, hbn⟩; have bx : Bxs w wn [(w.heap.size, 30, [.int .i64 su, .int .i64 la, .int .i64 le]), (w.heap.size + 1, 36, [.int .i64 sp, .int .i64 kp, .int .i64 ki, .int .i64 kd, .int .i64 li, .int .i64 st, .int .i64 mo]), (w.heap.size + 1 + 1, 30, [.int .i64 0, .int .i64 0, .int .i64 0]), (x2.heap.size, 30, [.int .i64 0, .int .i64 d, .int .i64 0])] := (by first | exact BX.out.below hbn | exact BX.out.drew_.below hbn | exact (BX.out.drewN_ _).below hbn); clear hbn BX p0_0 p0_1 p0_2 z0 y0 p1_0 p1_1 p1_2 p1_3 p1_4 p1_5 p1_6 z1 y1 p2_0 p2_1 p2_2 z2 y2 p3_0 p3_1 p3_2 z3 y3; have BX := Lib.hid bx; clear bx; have p0_0 : wn.cell? ⟨w.heap.size, 0, none⟩ = some (.int .i64 su) := (BX.out.bl 0 _ _ _ rfl).val rfl; have p0_1 : wn.cell? ⟨w.heap.size, 1, none⟩ = some (.int .i64 la) := (BX.out.bl 0 _ _ _ rfl).val rfl; have p0_2 : wn.cell? ⟨w.heap.size, 2, none⟩ = some (.int .i64 le) := (BX.out.bl 0 _ _ _ rfl).val rfl; have z0 : ∀ k, wn.frozen? ⟨w.heap.size, k, none⟩ = false := (BX.out.bl 0 _ _ _ rfl).free; have y0 : w.heap.size < wn.heap.size := (BX.out.bl 0 _ _ _ rfl).size; have p1_0 : wn.cell? ⟨w.heap.size + 1, 0, none⟩ = some (.int .i64 sp) := (BX.out.bl 1 _ _ _ rfl).val rfl; have p1_1 : wn.cell? ⟨w.heap.size + 1, 1, none⟩ = some (.int .i64 kp) := (BX.out.bl 1 _ _ _ rfl).val rfl; have p1_2 : wn.cell? ⟨w.heap.size + 1, 2, none⟩ = some (.int .i64 ki) := (BX.out.bl 1 _ _ _ rfl).val rfl; have p1_3 : wn.cell? ⟨w.heap.size + 1, 3, none⟩ = some (.int .i64 kd) := (BX.out.bl 1 _ _ _ rfl).val rfl; have p1_4 : wn.cell? ⟨w.heap.size + 1, 4, none⟩ = some (.int .i64 li) := (BX.out.bl 1 _ _ _ rfl).val rfl; have p1_5 : wn.cell? ⟨w.heap.size + 1, 5, none⟩ = some (.int .i64 st) := (BX.out.bl 1 _ _ _ rfl).val rfl; have p1_6 : wn.cell? ⟨w.heap.size + 1, 6, none⟩ = some (.int .i64 mo) := (BX.out.bl 1 _ _ _ rfl).val rfl; have z1 : ∀ k, wn.frozen? ⟨w.heap.size + 1, k, none⟩ = false := (BX.out.bl 1 _ _ _ rfl).free; have y1 : w.heap.size + 1 < wn.heap.size := (BX.out.bl 1 _ _ _ rfl).size; have p2_0 : wn.cell? ⟨w.heap.size + 1 + 1, 0, none⟩ = some (.int .i64 0) := (BX.out.bl 2 _ _ _ rfl).val rfl; have p2_1 : wn.cell? ⟨w.heap.size + 1 + 1, 1, none⟩ = some (.int .i64 0) := (BX.out.bl 2 _ _ _ rfl).val rfl; have p2_2 : wn.cell? ⟨w.heap.size + 1 + 1, 2, none⟩ = some (.int .i64 0) := (BX.out.bl 2 _ _ _ rfl).val rfl; have z2 : ∀ k, wn.frozen? ⟨w.heap.size + 1 + 1, k, none⟩ = false := (BX.out.bl 2 _ _ _ rfl).free; have y2 : w.heap.size + 1 + 1 < wn.heap.size := (BX.out.bl 2 _ _ _ rfl).size; have p3_0 : wn.cell? ⟨x2.heap.size, 0, none⟩ = some (.int .i64 0) := (BX.out.bl 3 _ _ _ rfl).val rfl; have p3_1 : wn.cell? ⟨x2.heap.size, 1, none⟩ = some (.int .i64 d) := (BX.out.bl 3 _ _ _ rfl).val rfl; have p3_2 : wn.cell? ⟨x2.heap.size, 2, none⟩ = some (.int .i64 0) := (BX.out.bl 3 _ _ _ rfl).val rfl; have z3 : ∀ k, wn.frozen? ⟨x2.heap.size, k, none⟩ = false := (BX.out.bl 3 _ _ _ rfl).free; have y3 : x2.heap.size < wn.heap.size := (BX.out.bl 3 _ _ _ rfl).size) | (go_at_call 23; refine (rclamp_any _ _ _ _).mono ?_; (rw [h3.out]); rintro e wn ⟨rfl, rfl⟩))
    all_goals (go_wp2_with fail; go_meet; exact (by first | exact (BX.out).set_ 3 0 rfl _ | exact (BX.out.drew_).set_ 3 0 rfl _ | exact ((BX.out.drewN_ _)).set_ 3 0 rfl _ | exact ((BX.out).set_ 3 0 rfl _).drew_))
  case rest =>
    clear p0_0 p0_1 p0_2 z0 y0 p1_0 p1_1 p1_2 p1_3 p1_4 p1_5 p1_6 z1 y1 p2_0 p2_1 p2_2 z2 y2 p3_0 p3_1 p3_2 z3 y3
    have bx := hcut
    clear hcut BX
    have hx := bx
    clear bx
    go_upto_region 10 with fail
    have bx := hx
    clear hx
    have BX := Lib.hid bx
    clear bx
    have p0_0 : wc.cell? ⟨w.heap.size, 0, none⟩ = some (.int .i64 su) := (BX.out.bl 0 _ _ _ rfl).val rfl
    have p0_1 : wc.cell? ⟨w.heap.size, 1, none⟩ = some (.int .i64 la) := (BX.out.bl 0 _ _ _ rfl).val rfl
    have p0_2 : wc.cell? ⟨w.heap.size, 2, none⟩ = some (.int .i64 le) := (BX.out.bl 0 _ _ _ rfl).val rfl
    have z0 : ∀ k, wc.frozen? ⟨w.heap.size, k, none⟩ = false := (BX.out.bl 0 _ _ _ rfl).free
    have y0 : w.heap.size < wc.heap.size := (BX.out.bl 0 _ _ _ rfl).size
    have p1_0 : wc.cell? ⟨w.heap.size + 1, 0, none⟩ = some (.int .i64 sp) := (BX.out.bl 1 _ _ _ rfl).val rfl
    have p1_1 : wc.cell? ⟨w.heap.size + 1, 1, none⟩ = some (.int .i64 kp) := (BX.out.bl 1 _ _ _ rfl).val rfl
    have p1_2 : wc.cell? ⟨w.heap.size + 1, 2, none⟩ = some (.int .i64 ki) := (BX.out.bl 1 _ _ _ rfl).val rfl
    have p1_3 : wc.cell? ⟨w.heap.size + 1, 3, none⟩ = some (.int .i64 kd) := (BX.out.bl 1 _ _ _ rfl).val rfl
    have p1_4 : wc.cell? ⟨w.heap.size + 1, 4, none⟩ = some (.int .i64 li) := (BX.out.bl 1 _ _ _ rfl).val rfl
    have p1_5 : wc.cell? ⟨w.heap.size + 1, 5, none⟩ = some (.int .i64 st) := (BX.out.bl 1 _ _ _ rfl).val rfl
    have p1_6 : wc.cell? ⟨w.heap.size + 1, 6, none⟩ = some (.int .i64 mo) := (BX.out.bl 1 _ _ _ rfl).val rfl
    have z1 : ∀ k, wc.frozen? ⟨w.heap.size + 1, k, none⟩ = false := (BX.out.bl 1 _ _ _ rfl).free
    have y1 : w.heap.size + 1 < wc.heap.size := (BX.out.bl 1 _ _ _ rfl).size
    have p2_0 : wc.cell? ⟨w.heap.size + 1 + 1, 0, none⟩ = some (.int .i64 0) := (BX.out.bl 2 _ _ _ rfl).val rfl
    have p2_1 : wc.cell? ⟨w.heap.size + 1 + 1, 1, none⟩ = some (.int .i64 0) := (BX.out.bl 2 _ _ _ rfl).val rfl
    have p2_2 : wc.cell? ⟨w.heap.size + 1 + 1, 2, none⟩ = some (.int .i64 0) := (BX.out.bl 2 _ _ _ rfl).val rfl
    have z2 : ∀ k, wc.frozen? ⟨w.heap.size + 1 + 1, k, none⟩ = false := (BX.out.bl 2 _ _ _ rfl).free
    have y2 : w.heap.size + 1 + 1 < wc.heap.size := (BX.out.bl 2 _ _ _ rfl).size
    have p3_0 : wc.cell? ⟨x2.heap.size, 0, none⟩ = some (.int .i64 a3) := (BX.out.bl 3 _ _ _ rfl).val rfl
    have p3_1 : wc.cell? ⟨x2.heap.size, 1, none⟩ = some (.int .i64 d) := (BX.out.bl 3 _ _ _ rfl).val rfl
    have p3_2 : wc.cell? ⟨x2.heap.size, 2, none⟩ = some (.int .i64 0) := (BX.out.bl 3 _ _ _ rfl).val rfl
    have z3 : ∀ k, wc.frozen? ⟨x2.heap.size, k, none⟩ = false := (BX.out.bl 3 _ _ _ rfl).free
    have y3 : x2.heap.size < wc.heap.size := (BX.out.bl 3 _ _ _ rfl).size
    go_cut [9] (fun s9 wx => s9 = .int .i64 a8 ∧ Bxs w wx [(w.heap.size, 30, [.int .i64 su, .int .i64 la, .int .i64 le]), (w.heap.size + 1, 36, [.int .i64 sp, .int .i64 kp, .int .i64 ki, .int .i64 kd, .int .i64 li, .int .i64 st, .int .i64 mo]), (w.heap.size + 1 + 1, 30, [.int .i64 0, .int .i64 0, .int .i64 0]), (x2.heap.size, 30, [.int .i64 a3, .int .i64 d, .int .i64 0])])
    case first =>
      go_region_held3 (fun w' => w'.cell? ⟨w.heap.size + 1, 1, none⟩ = some (.int .i64 kp) ∧ w'.cell? ⟨x2.heap.size, 0, none⟩ = some (.int .i64 a3) ∧ w'.cell? ⟨w.heap.size + 1, 3, none⟩ = some (.int .i64 kd) ∧ w'.cell? ⟨w.heap.size, 1, none⟩ = some (.int .i64 la)) (repeat (first | with_reducible assumption | refine ⟨?_, ?_⟩ | with_reducible refine kdrew ?_ | with_reducible refine kalloc ?_ _ | with_reducible refine kother ?_ (by simp; try omega))) (first | (go_at_call 22; refine (rof02_any _ _ _ (by omega) (by omega) (by omega) (by omega)).mono ?_; (first | rw [h4.out] | rw [h7.out]); rintro e wn ⟨rfl, hbn⟩; have bx : Bxs w wn [(w.heap.size, 30, [.int .i64 su, .int .i64 la, .int .i64 le]), (w.heap.size + 1, 36, [.int .i64 sp, .int .i64 kp, .int .i64 ki, .int .i64 kd, .int .i64 li, .int .i64 st, .int .i64 mo]), (w.heap.size + 1 + 1, 30, [.int .i64 0, .int .i64 0, .int .i64 0]), (x2.heap.size, 30, [.int .i64 a3, .int .i64 d, .int .i64 0])] := (by first | exact BX.out.below hbn | exact BX.out.drew_.below hbn | exact (BX.out.drewN_ _).below hbn); clear hbn BX p0_0 p0_1 p0_2 z0 y0 p1_0 p1_1 p1_2 p1_3 p1_4 p1_5 p1_6 z1 y1 p2_0 p2_1 p2_2 z2 y2 p3_0 p3_1 p3_2 z3 y3; have BX := Lib.hid bx; clear bx; have p0_0 : wn.cell? ⟨w.heap.size, 0, none⟩ = some (.int .i64 su) := (BX.out.bl 0 _ _ _ rfl).val rfl; have p0_1 : wn.cell? ⟨w.heap.size, 1, none⟩ = some (.int .i64 la) := (BX.out.bl 0 _ _ _ rfl).val rfl; have p0_2 : wn.cell? ⟨w.heap.size, 2, none⟩ = some (.int .i64 le) := (BX.out.bl 0 _ _ _ rfl).val rfl; have z0 : ∀ k, wn.frozen? ⟨w.heap.size, k, none⟩ = false := (BX.out.bl 0 _ _ _ rfl).free; have y0 : w.heap.size < wn.heap.size := (BX.out.bl 0 _ _ _ rfl).size; have p1_0 : wn.cell? ⟨w.heap.size + 1, 0, none⟩ = some (.int .i64 sp) := (BX.out.bl 1 _ _ _ rfl).val rfl; have p1_1 : wn.cell? ⟨w.heap.size + 1, 1, none⟩ = some (.int .i64 kp) := (BX.out.bl 1 _ _ _ rfl).val rfl; have p1_2 : wn.cell? ⟨w.heap.size + 1, 2, none⟩ = some (.int .i64 ki) := (BX.out.bl 1 _ _ _ rfl).val rfl; have p1_3 : wn.cell? ⟨w.heap.size + 1, 3, none⟩ = some (.int .i64 kd) := (BX.out.bl 1 _ _ _ rfl).val rfl; have p1_4 : wn.cell? ⟨w.heap.size + 1, 4, none⟩ = some (.int .i64 li) := (BX.out.bl 1 _ _ _ rfl).val rfl; have p1_5 : wn.cell? ⟨w.heap.size + 1, 5, none⟩ = some (.int .i64 st) := (BX.out.bl 1 _ _ _ rfl).val rfl; have p1_6 : wn.cell? ⟨w.heap.size + 1, 6, none⟩ = some (.int .i64 mo) := (BX.out.bl 1 _ _ _ rfl).val rfl; have z1 : ∀ k, wn.frozen? ⟨w.heap.size + 1, k, none⟩ = false := (BX.out.bl 1 _ _ _ rfl).free; have y1 : w.heap.size + 1 < wn.heap.size := (BX.out.bl 1 _ _ _ rfl).size; have p2_0 : wn.cell? ⟨w.heap.size + 1 + 1, 0, none⟩ = some (.int .i64 0) := (BX.out.bl 2 _ _ _ rfl).val rfl; have p2_1 : wn.cell? ⟨w.heap.size + 1 + 1, 1, none⟩ = some (.int .i64 0) := (BX.out.bl 2 _ _ _ rfl).val rfl; have p2_2 : wn.cell? ⟨w.heap.size + 1 + 1, 2, none⟩ = some (.int .i64 0) := (BX.out.bl 2 _ _ _ rfl).val rfl; have z2 : ∀ k, wn.frozen? ⟨w.heap.size + 1 + 1, k, none⟩ = false := (BX.out.bl 2 _ _ _ rfl).free; have y2 : w.heap.size + 1 + 1 < wn.heap.size := (BX.out.bl 2 _ _ _ rfl).size; have p3_0 : wn.cell? ⟨x2.heap.size, 0, none⟩ = some (.int .i64 a3) := (BX.out.bl 3 _ _ _ rfl).val rfl; have p3_1 : wn.cell? ⟨x2.heap.size, 1, none⟩ = some (.int .i64 d) := (BX.out.bl 3 _ _ _ rfl).val rfl; have p3_2 : wn.cell? ⟨x2.heap.size, 2, none⟩ = some (.int .i64 0) := (BX.out.bl 3 _ _ _ rfl).val rfl; have z3 : ∀ k, wn.frozen? ⟨x2.heap.size, k, none⟩ = false := (BX.out.bl 3 _ _ _ rfl).free; have y3 : x2.heap.size < wn.heap.size := (BX.out.bl 3 _ _ _ rfl).size) | (go_at_call 24; refine (radd02_any _ _ _ (by omega) (by omega) (by omega) (by omega)).mono ?_; (first | rw [h5.out] | rw [h8.out]); rintro e wn ⟨rfl, hbn⟩; have bx : Bxs w wn [(w.heap.size, 30, [.int .i64 su, .int .i64 la, .int .i64 le]), (w.heap.size + 1, 36, [.int .i64 sp, .int .i64 kp, .int .i64 ki, .int .i64 kd, .int .i64 li, .int .i64 st, .int .i64 mo]), (w.heap.size + 1 + 1, 30, [.int .i64 0, .int .i64 0, .int .i64 0]), (x2.heap.size, 30, [.int .i64 a3, .int .i64 d, .int .i64 0])] := (by first | exact BX.out.below hbn | exact BX.out.drew_.below hbn | exact (BX.out.drewN_ _).below hbn); clear hbn BX p0_0 p0_1 p0_2 z0 y0 p1_0 p1_1 p1_2 p1_3 p1_4 p1_5 p1_6 z1 y1 p2_0 p2_1 p2_2 z2 y2 p3_0 p3_1 p3_2 z3 y3; have BX := Lib.hid bx; clear bx; have p0_0 : wn.cell? ⟨w.heap.size, 0, none⟩ = some (.int .i64 su) := (BX.out.bl 0 _ _ _ rfl).val rfl; have p0_1 : wn.cell? ⟨w.heap.size, 1, none⟩ = some (.int .i64 la) := (BX.out.bl 0 _ _ _ rfl).val rfl; have p0_2 : wn.cell? ⟨w.heap.size, 2, none⟩ = some (.int .i64 le) := (BX.out.bl 0 _ _ _ rfl).val rfl; have z0 : ∀ k, wn.frozen? ⟨w.heap.size, k, none⟩ = false := (BX.out.bl 0 _ _ _ rfl).free; have y0 : w.heap.size < wn.heap.size := (BX.out.bl 0 _ _ _ rfl).size; have p1_0 : wn.cell? ⟨w.heap.size + 1, 0, none⟩ = some (.int .i64 sp) := (BX.out.bl 1 _ _ _ rfl).val rfl; have p1_1 : wn.cell? ⟨w.heap.size + 1, 1, none⟩ = some (.int .i64 kp) := (BX.out.bl 1 _ _ _ rfl).val rfl; have p1_2 : wn.cell? ⟨w.heap.size + 1, 2, none⟩ = some (.int .i64 ki) := (BX.out.bl 1 _ _ _ rfl).val rfl; have p1_3 : wn.cell? ⟨w.heap.size + 1, 3, none⟩ = some (.int .i64 kd) := (BX.out.bl 1 _ _ _ rfl).val rfl; have p1_4 : wn.cell? ⟨w.heap.size + 1, 4, none⟩ = some (.int .i64 li) := (BX.out.bl 1 _ _ _ rfl).val rfl; have p1_5 : wn.cell? ⟨w.heap.size + 1, 5, none⟩ = some (.int .i64 st) := (BX.out.bl 1 _ _ _ rfl).val rfl; have p1_6 : wn.cell? ⟨w.heap.size + 1, 6, none⟩ = some (.int .i64 mo) := (BX.out.bl 1 _ _ _ rfl).val rfl; have z1 : ∀ k, wn.frozen? ⟨w.heap.size + 1, k, none⟩ = false := (BX.out.bl 1 _ _ _ rfl).free; have y1 : w.heap.size + 1 < wn.heap.size := (BX.out.bl 1 _ _ _ rfl).size; have p2_0 : wn.cell? ⟨w.heap.size + 1 + 1, 0, none⟩ = some (.int .i64 0) := (BX.out.bl 2 _ _ _ rfl).val rfl; have p2_1 : wn.cell? ⟨w.heap.size + 1 + 1, 1, none⟩ = some (.int .i64 0) := (BX.out.bl 2 _ _ _ rfl).val rfl; have p2_2 : wn.cell? ⟨w.heap.size + 1 + 1, 2, none⟩ = some (.int .i64 0) := (BX.out.bl 2 _ _ _ rfl).val rfl; have z2 : ∀ k, wn.frozen? ⟨w.heap.size + 1 + 1, k, none⟩ = false := (BX.out.bl 2 _ _ _ rfl).free; have y2 : w.heap.size + 1 + 1 < wn.heap.size := (BX.out.bl 2 _ _ _ rfl).size; have p3_0 : wn.cell? ⟨x2.heap.size, 0, none⟩ = some (.int .i64 a3) := (BX.out.bl 3 _ _ _ rfl).val rfl; have p3_1 : wn.cell? ⟨x2.heap.size, 1, none⟩ = some (.int .i64 d) := (BX.out.bl 3 _ _ _ rfl).val rfl; have p3_2 : wn.cell? ⟨x2.heap.size, 2, none⟩ = some (.int .i64 0) := (BX.out.bl 3 _ _ _ rfl).val rfl; have z3 : ∀ k, wn.frozen? ⟨x2.heap.size, k, none⟩ = false := (BX.out.bl 3 _ _ _ rfl).free; have y3 : x2.heap.size < wn.heap.size := (BX.out.bl 3 _ _ _ rfl).size) | (go_at_call 21; refine (rsub02_any _ _ _ (by omega) (by omega) (by omega) (by omega)).mono ?_; (rw [h6.out]); rintro e wn ⟨rfl, hbn⟩; have bx : Bxs w wn [(w.heap.size, 30, [.int .i64 su, .int .i64 la, .int .i64 le]), (w.heap.size + 1, 36, [.int .i64 sp, .int .i64 kp, .int .i64 ki, .int .i64 kd, .int .i64 li, .int .i64 st, .int .i64 mo]), (w.heap.size + 1 + 1, 30, [.int .i64 0, .int .i64 0, .int .i64 0]), (x2.heap.size, 30, [.int .i64 a3, .int .i64 d, .int .i64 0])] := (by first | exact BX.out.below hbn | exact BX.out.drew_.below hbn | exact (BX.out.drewN_ _).below hbn); clear hbn BX p0_0 p0_1 p0_2 z0 y0 p1_0 p1_1 p1_2 p1_3 p1_4 p1_5 p1_6 z1 y1 p2_0 p2_1 p2_2 z2 y2 p3_0 p3_1 p3_2 z3 y3; have BX := Lib.hid bx; clear bx; have p0_0 : wn.cell? ⟨w.heap.size, 0, none⟩ = some (.int .i64 su) := (BX.out.bl 0 _ _ _ rfl).val rfl; have p0_1 : wn.cell? ⟨w.heap.size, 1, none⟩ = some (.int .i64 la) := (BX.out.bl 0 _ _ _ rfl).val rfl; have p0_2 : wn.cell? ⟨w.heap.size, 2, none⟩ = some (.int .i64 le) := (BX.out.bl 0 _ _ _ rfl).val rfl; have z0 : ∀ k, wn.frozen? ⟨w.heap.size, k, none⟩ = false := (BX.out.bl 0 _ _ _ rfl).free; have y0 : w.heap.size < wn.heap.size := (BX.out.bl 0 _ _ _ rfl).size; have p1_0 : wn.cell? ⟨w.heap.size + 1, 0, none⟩ = some (.int .i64 sp) := (BX.out.bl 1 _ _ _ rfl).val rfl; have p1_1 : wn.cell? ⟨w.heap.size + 1, 1, none⟩ = some (.int .i64 kp) := (BX.out.bl 1 _ _ _ rfl).val rfl; have p1_2 : wn.cell? ⟨w.heap.size + 1, 2, none⟩ = some (.int .i64 ki) := (BX.out.bl 1 _ _ _ rfl).val rfl; have p1_3 : wn.cell? ⟨w.heap.size + 1, 3, none⟩ = some (.int .i64 kd) := (BX.out.bl 1 _ _ _ rfl).val rfl; have p1_4 : wn.cell? ⟨w.heap.size + 1, 4, none⟩ = some (.int .i64 li) := (BX.out.bl 1 _ _ _ rfl).val rfl; have p1_5 : wn.cell? ⟨w.heap.size + 1, 5, none⟩ = some (.int .i64 st) := (BX.out.bl 1 _ _ _ rfl).val rfl; have p1_6 : wn.cell? ⟨w.heap.size + 1, 6, none⟩ = some (.int .i64 mo) := (BX.out.bl 1 _ _ _ rfl).val rfl; have z1 : ∀ k, wn.frozen? ⟨w.heap.size + 1, k, none⟩ = false := (BX.out.bl 1 _ _ _ rfl).free; have y1 : w.heap.size + 1 < wn.heap.size := (BX.out.bl 1 _ _ _ rfl).size; have p2_0 : wn.cell? ⟨w.heap.size + 1 + 1, 0, none⟩ = some (.int .i64 0) := (BX.out.bl 2 _ _ _ rfl).val rfl; have p2_1 : wn.cell? ⟨w.heap.size + 1 + 1, 1, none⟩ = some (.int .i64 0) := (BX.out.bl 2 _ _ _ rfl).val rfl; have p2_2 : wn.cell? ⟨w.heap.size + 1 + 1, 2, none⟩ = some (.int .i64 0) := (BX.out.bl 2 _ _ _ rfl).val rfl; have z2 : ∀ k, wn.frozen? ⟨w.heap.size + 1 + 1, k, none⟩ = false := (BX.out.bl 2 _ _ _ rfl).free; have y2 : w.heap.size + 1 + 1 < wn.heap.size := (BX.out.bl 2 _ _ _ rfl).size; have p3_0 : wn.cell? ⟨x2.heap.size, 0, none⟩ = some (.int .i64 a3) := (BX.out.bl 3 _ _ _ rfl).val rfl; have p3_1 : wn.cell? ⟨x2.heap.size, 1, none⟩ = some (.int .i64 d) := (BX.out.bl 3 _ _ _ rfl).val rfl; have p3_2 : wn.cell? ⟨x2.heap.size, 2, none⟩ = some (.int .i64 0) := (BX.out.bl 3 _ _ _ rfl).val rfl; have z3 : ∀ k, wn.frozen? ⟨x2.heap.size, k, none⟩ = false := (BX.out.bl 3 _ _ _ rfl).free; have y3 : x2.heap.size < wn.heap.size := (BX.out.bl 3 _ _ _ rfl).size))
      all_goals (go_wp2_with fail; go_meet; exact ⟨rfl, (by first | exact BX.out | exact BX.out.drew_ | exact (BX.out.drewN_ _) | exact (BX.out).drew_)⟩)
    case rest =>
      clear p0_0 p0_1 p0_2 z0 y0 p1_0 p1_1 p1_2 p1_3 p1_4 p1_5 p1_6 z1 y1 p2_0 p2_1 p2_2 z2 y2 p3_0 p3_1 p3_2 z3 y3
      clear BX
      obtain ⟨rfl, bx⟩ := hcut
      have BX := Lib.hid bx
      clear bx
      have p0_0 : wc.cell? ⟨w.heap.size, 0, none⟩ = some (.int .i64 su) := (BX.out.bl 0 _ _ _ rfl).val rfl
      have p0_1 : wc.cell? ⟨w.heap.size, 1, none⟩ = some (.int .i64 la) := (BX.out.bl 0 _ _ _ rfl).val rfl
      have p0_2 : wc.cell? ⟨w.heap.size, 2, none⟩ = some (.int .i64 le) := (BX.out.bl 0 _ _ _ rfl).val rfl
      have z0 : ∀ k, wc.frozen? ⟨w.heap.size, k, none⟩ = false := (BX.out.bl 0 _ _ _ rfl).free
      have y0 : w.heap.size < wc.heap.size := (BX.out.bl 0 _ _ _ rfl).size
      have p1_0 : wc.cell? ⟨w.heap.size + 1, 0, none⟩ = some (.int .i64 sp) := (BX.out.bl 1 _ _ _ rfl).val rfl
      have p1_1 : wc.cell? ⟨w.heap.size + 1, 1, none⟩ = some (.int .i64 kp) := (BX.out.bl 1 _ _ _ rfl).val rfl
      have p1_2 : wc.cell? ⟨w.heap.size + 1, 2, none⟩ = some (.int .i64 ki) := (BX.out.bl 1 _ _ _ rfl).val rfl
      have p1_3 : wc.cell? ⟨w.heap.size + 1, 3, none⟩ = some (.int .i64 kd) := (BX.out.bl 1 _ _ _ rfl).val rfl
      have p1_4 : wc.cell? ⟨w.heap.size + 1, 4, none⟩ = some (.int .i64 li) := (BX.out.bl 1 _ _ _ rfl).val rfl
      have p1_5 : wc.cell? ⟨w.heap.size + 1, 5, none⟩ = some (.int .i64 st) := (BX.out.bl 1 _ _ _ rfl).val rfl
      have p1_6 : wc.cell? ⟨w.heap.size + 1, 6, none⟩ = some (.int .i64 mo) := (BX.out.bl 1 _ _ _ rfl).val rfl
      have z1 : ∀ k, wc.frozen? ⟨w.heap.size + 1, k, none⟩ = false := (BX.out.bl 1 _ _ _ rfl).free
      have y1 : w.heap.size + 1 < wc.heap.size := (BX.out.bl 1 _ _ _ rfl).size
      have p2_0 : wc.cell? ⟨w.heap.size + 1 + 1, 0, none⟩ = some (.int .i64 0) := (BX.out.bl 2 _ _ _ rfl).val rfl
      have p2_1 : wc.cell? ⟨w.heap.size + 1 + 1, 1, none⟩ = some (.int .i64 0) := (BX.out.bl 2 _ _ _ rfl).val rfl
      have p2_2 : wc.cell? ⟨w.heap.size + 1 + 1, 2, none⟩ = some (.int .i64 0) := (BX.out.bl 2 _ _ _ rfl).val rfl
      have z2 : ∀ k, wc.frozen? ⟨w.heap.size + 1 + 1, k, none⟩ = false := (BX.out.bl 2 _ _ _ rfl).free
      have y2 : w.heap.size + 1 + 1 < wc.heap.size := (BX.out.bl 2 _ _ _ rfl).size
      have p3_0 : wc.cell? ⟨x2.heap.size, 0, none⟩ = some (.int .i64 a3) := (BX.out.bl 3 _ _ _ rfl).val rfl
      have p3_1 : wc.cell? ⟨x2.heap.size, 1, none⟩ = some (.int .i64 d) := (BX.out.bl 3 _ _ _ rfl).val rfl
      have p3_2 : wc.cell? ⟨x2.heap.size, 2, none⟩ = some (.int .i64 0) := (BX.out.bl 3 _ _ _ rfl).val rfl
      have z3 : ∀ k, wc.frozen? ⟨x2.heap.size, k, none⟩ = false := (BX.out.bl 3 _ _ _ rfl).free
      have y3 : x2.heap.size < wc.heap.size := (BX.out.bl 3 _ _ _ rfl).size
      go_upto_region 12 with fail
      clear p0_0 p0_1 p0_2 z0 y0 p1_0 p1_1 p1_2 p1_3 p1_4 p1_5 p1_6 z1 y1 p2_0 p2_1 p2_2 z2 y2 p3_0 p3_1 p3_2 z3 y3
      refine wp_worldx (fun wx => Bxs w wx [(w.heap.size, 30, [.int .i64 su, .int .i64 la, .int .i64 le]), (w.heap.size + 1, 36, [.int .i64 sp, .int .i64 kp, .int .i64 ki, .int .i64 kd, .int .i64 li, .int .i64 st, .int .i64 mo]), (w.heap.size + 1 + 1, 30, [.int .i64 0, .int .i64 0, .int .i64 0]), (x2.heap.size, 30, [.int .i64 a3, .int .i64 d, .int .i64 le])]) ((BX.out).set_ 3 2 rfl _) ?_
      clear BX
      rintro x4 bx
      have BX := Lib.hid bx
      clear bx
      have p0_0 : x4.cell? ⟨w.heap.size, 0, none⟩ = some (.int .i64 su) := (BX.out.bl 0 _ _ _ rfl).val rfl
      have p0_1 : x4.cell? ⟨w.heap.size, 1, none⟩ = some (.int .i64 la) := (BX.out.bl 0 _ _ _ rfl).val rfl
      have p0_2 : x4.cell? ⟨w.heap.size, 2, none⟩ = some (.int .i64 le) := (BX.out.bl 0 _ _ _ rfl).val rfl
      have z0 : ∀ k, x4.frozen? ⟨w.heap.size, k, none⟩ = false := (BX.out.bl 0 _ _ _ rfl).free
      have y0 : w.heap.size < x4.heap.size := (BX.out.bl 0 _ _ _ rfl).size
      have p1_0 : x4.cell? ⟨w.heap.size + 1, 0, none⟩ = some (.int .i64 sp) := (BX.out.bl 1 _ _ _ rfl).val rfl
      have p1_1 : x4.cell? ⟨w.heap.size + 1, 1, none⟩ = some (.int .i64 kp) := (BX.out.bl 1 _ _ _ rfl).val rfl
      have p1_2 : x4.cell? ⟨w.heap.size + 1, 2, none⟩ = some (.int .i64 ki) := (BX.out.bl 1 _ _ _ rfl).val rfl
      have p1_3 : x4.cell? ⟨w.heap.size + 1, 3, none⟩ = some (.int .i64 kd) := (BX.out.bl 1 _ _ _ rfl).val rfl
      have p1_4 : x4.cell? ⟨w.heap.size + 1, 4, none⟩ = some (.int .i64 li) := (BX.out.bl 1 _ _ _ rfl).val rfl
      have p1_5 : x4.cell? ⟨w.heap.size + 1, 5, none⟩ = some (.int .i64 st) := (BX.out.bl 1 _ _ _ rfl).val rfl
      have p1_6 : x4.cell? ⟨w.heap.size + 1, 6, none⟩ = some (.int .i64 mo) := (BX.out.bl 1 _ _ _ rfl).val rfl
      have z1 : ∀ k, x4.frozen? ⟨w.heap.size + 1, k, none⟩ = false := (BX.out.bl 1 _ _ _ rfl).free
      have y1 : w.heap.size + 1 < x4.heap.size := (BX.out.bl 1 _ _ _ rfl).size
      have p2_0 : x4.cell? ⟨w.heap.size + 1 + 1, 0, none⟩ = some (.int .i64 0) := (BX.out.bl 2 _ _ _ rfl).val rfl
      have p2_1 : x4.cell? ⟨w.heap.size + 1 + 1, 1, none⟩ = some (.int .i64 0) := (BX.out.bl 2 _ _ _ rfl).val rfl
      have p2_2 : x4.cell? ⟨w.heap.size + 1 + 1, 2, none⟩ = some (.int .i64 0) := (BX.out.bl 2 _ _ _ rfl).val rfl
      have z2 : ∀ k, x4.frozen? ⟨w.heap.size + 1 + 1, k, none⟩ = false := (BX.out.bl 2 _ _ _ rfl).free
      have y2 : w.heap.size + 1 + 1 < x4.heap.size := (BX.out.bl 2 _ _ _ rfl).size
      have p3_0 : x4.cell? ⟨x2.heap.size, 0, none⟩ = some (.int .i64 a3) := (BX.out.bl 3 _ _ _ rfl).val rfl
      have p3_1 : x4.cell? ⟨x2.heap.size, 1, none⟩ = some (.int .i64 d) := (BX.out.bl 3 _ _ _ rfl).val rfl
      have p3_2 : x4.cell? ⟨x2.heap.size, 2, none⟩ = some (.int .i64 le) := (BX.out.bl 3 _ _ _ rfl).val rfl
      have z3 : ∀ k, x4.frozen? ⟨x2.heap.size, k, none⟩ = false := (BX.out.bl 3 _ _ _ rfl).free
      have y3 : x2.heap.size < x4.heap.size := (BX.out.bl 3 _ _ _ rfl).size
      go_wp2_with fail
      refine (rfloor02_any _ _ b80 b81).mono ?_
      rw [hf.out]
      rintro e x5 ⟨rfl, hb⟩
      have bx : Bxs w x5 [(w.heap.size, 30, [.int .i64 su, .int .i64 la, .int .i64 le]), (w.heap.size + 1, 36, [.int .i64 sp, .int .i64 kp, .int .i64 ki, .int .i64 kd, .int .i64 li, .int .i64 st, .int .i64 mo]), (w.heap.size + 1 + 1, 30, [.int .i64 0, .int .i64 0, .int .i64 0]), (x2.heap.size, 30, [.int .i64 a3, .int .i64 d, .int .i64 le])] := (BX.out).below hb
      clear p0_0 p0_1 p0_2 z0 y0 p1_0 p1_1 p1_2 p1_3 p1_4 p1_5 p1_6 z1 y1 p2_0 p2_1 p2_2 z2 y2 p3_0 p3_1 p3_2 z3 y3
      clear hb BX
      have BX := Lib.hid bx
      clear bx
      have p0_0 : x5.cell? ⟨w.heap.size, 0, none⟩ = some (.int .i64 su) := (BX.out.bl 0 _ _ _ rfl).val rfl
      have p0_1 : x5.cell? ⟨w.heap.size, 1, none⟩ = some (.int .i64 la) := (BX.out.bl 0 _ _ _ rfl).val rfl
      have p0_2 : x5.cell? ⟨w.heap.size, 2, none⟩ = some (.int .i64 le) := (BX.out.bl 0 _ _ _ rfl).val rfl
      have z0 : ∀ k, x5.frozen? ⟨w.heap.size, k, none⟩ = false := (BX.out.bl 0 _ _ _ rfl).free
      have y0 : w.heap.size < x5.heap.size := (BX.out.bl 0 _ _ _ rfl).size
      have p1_0 : x5.cell? ⟨w.heap.size + 1, 0, none⟩ = some (.int .i64 sp) := (BX.out.bl 1 _ _ _ rfl).val rfl
      have p1_1 : x5.cell? ⟨w.heap.size + 1, 1, none⟩ = some (.int .i64 kp) := (BX.out.bl 1 _ _ _ rfl).val rfl
      have p1_2 : x5.cell? ⟨w.heap.size + 1, 2, none⟩ = some (.int .i64 ki) := (BX.out.bl 1 _ _ _ rfl).val rfl
      have p1_3 : x5.cell? ⟨w.heap.size + 1, 3, none⟩ = some (.int .i64 kd) := (BX.out.bl 1 _ _ _ rfl).val rfl
      have p1_4 : x5.cell? ⟨w.heap.size + 1, 4, none⟩ = some (.int .i64 li) := (BX.out.bl 1 _ _ _ rfl).val rfl
      have p1_5 : x5.cell? ⟨w.heap.size + 1, 5, none⟩ = some (.int .i64 st) := (BX.out.bl 1 _ _ _ rfl).val rfl
      have p1_6 : x5.cell? ⟨w.heap.size + 1, 6, none⟩ = some (.int .i64 mo) := (BX.out.bl 1 _ _ _ rfl).val rfl
      have z1 : ∀ k, x5.frozen? ⟨w.heap.size + 1, k, none⟩ = false := (BX.out.bl 1 _ _ _ rfl).free
      have y1 : w.heap.size + 1 < x5.heap.size := (BX.out.bl 1 _ _ _ rfl).size
      have p2_0 : x5.cell? ⟨w.heap.size + 1 + 1, 0, none⟩ = some (.int .i64 0) := (BX.out.bl 2 _ _ _ rfl).val rfl
      have p2_1 : x5.cell? ⟨w.heap.size + 1 + 1, 1, none⟩ = some (.int .i64 0) := (BX.out.bl 2 _ _ _ rfl).val rfl
      have p2_2 : x5.cell? ⟨w.heap.size + 1 + 1, 2, none⟩ = some (.int .i64 0) := (BX.out.bl 2 _ _ _ rfl).val rfl
      have z2 : ∀ k, x5.frozen? ⟨w.heap.size + 1 + 1, k, none⟩ = false := (BX.out.bl 2 _ _ _ rfl).free
      have y2 : w.heap.size + 1 + 1 < x5.heap.size := (BX.out.bl 2 _ _ _ rfl).size
      have p3_0 : x5.cell? ⟨x2.heap.size, 0, none⟩ = some (.int .i64 a3) := (BX.out.bl 3 _ _ _ rfl).val rfl
      have p3_1 : x5.cell? ⟨x2.heap.size, 1, none⟩ = some (.int .i64 d) := (BX.out.bl 3 _ _ _ rfl).val rfl
      have p3_2 : x5.cell? ⟨x2.heap.size, 2, none⟩ = some (.int .i64 le) := (BX.out.bl 3 _ _ _ rfl).val rfl
      have z3 : ∀ k, x5.frozen? ⟨x2.heap.size, k, none⟩ = false := (BX.out.bl 3 _ _ _ rfl).free
      have y3 : x2.heap.size < x5.heap.size := (BX.out.bl 3 _ _ _ rfl).size
      go_upto_region 15 with fail
      clear p0_0 p0_1 p0_2 z0 y0 p1_0 p1_1 p1_2 p1_3 p1_4 p1_5 p1_6 z1 y1 p2_0 p2_1 p2_2 z2 y2 p3_0 p3_1 p3_2 z3 y3
      refine wp_worldx (fun wx => Bxs w wx [(w.heap.size, 30, [.int .i64 su, .int .i64 la, .int .i64 le]), (w.heap.size + 1, 36, [.int .i64 sp, .int .i64 kp, .int .i64 ki, .int .i64 kd, .int .i64 li, .int .i64 st, .int .i64 mo]), (w.heap.size + 1 + 1, 30, [.int .i64 0, .int .i64 0, .int .i64 0]), (x2.heap.size, 30, [.int .i64 a3, .int .i64 d, .int .i64 f])]) ((BX.out).set_ 3 2 rfl _) ?_
      clear BX
      rintro x6 bx
      have BX := Lib.hid bx
      clear bx
      have p0_0 : x6.cell? ⟨w.heap.size, 0, none⟩ = some (.int .i64 su) := (BX.out.bl 0 _ _ _ rfl).val rfl
      have p0_1 : x6.cell? ⟨w.heap.size, 1, none⟩ = some (.int .i64 la) := (BX.out.bl 0 _ _ _ rfl).val rfl
      have p0_2 : x6.cell? ⟨w.heap.size, 2, none⟩ = some (.int .i64 le) := (BX.out.bl 0 _ _ _ rfl).val rfl
      have z0 : ∀ k, x6.frozen? ⟨w.heap.size, k, none⟩ = false := (BX.out.bl 0 _ _ _ rfl).free
      have y0 : w.heap.size < x6.heap.size := (BX.out.bl 0 _ _ _ rfl).size
      have p1_0 : x6.cell? ⟨w.heap.size + 1, 0, none⟩ = some (.int .i64 sp) := (BX.out.bl 1 _ _ _ rfl).val rfl
      have p1_1 : x6.cell? ⟨w.heap.size + 1, 1, none⟩ = some (.int .i64 kp) := (BX.out.bl 1 _ _ _ rfl).val rfl
      have p1_2 : x6.cell? ⟨w.heap.size + 1, 2, none⟩ = some (.int .i64 ki) := (BX.out.bl 1 _ _ _ rfl).val rfl
      have p1_3 : x6.cell? ⟨w.heap.size + 1, 3, none⟩ = some (.int .i64 kd) := (BX.out.bl 1 _ _ _ rfl).val rfl
      have p1_4 : x6.cell? ⟨w.heap.size + 1, 4, none⟩ = some (.int .i64 li) := (BX.out.bl 1 _ _ _ rfl).val rfl
      have p1_5 : x6.cell? ⟨w.heap.size + 1, 5, none⟩ = some (.int .i64 st) := (BX.out.bl 1 _ _ _ rfl).val rfl
      have p1_6 : x6.cell? ⟨w.heap.size + 1, 6, none⟩ = some (.int .i64 mo) := (BX.out.bl 1 _ _ _ rfl).val rfl
      have z1 : ∀ k, x6.frozen? ⟨w.heap.size + 1, k, none⟩ = false := (BX.out.bl 1 _ _ _ rfl).free
      have y1 : w.heap.size + 1 < x6.heap.size := (BX.out.bl 1 _ _ _ rfl).size
      have p2_0 : x6.cell? ⟨w.heap.size + 1 + 1, 0, none⟩ = some (.int .i64 0) := (BX.out.bl 2 _ _ _ rfl).val rfl
      have p2_1 : x6.cell? ⟨w.heap.size + 1 + 1, 1, none⟩ = some (.int .i64 0) := (BX.out.bl 2 _ _ _ rfl).val rfl
      have p2_2 : x6.cell? ⟨w.heap.size + 1 + 1, 2, none⟩ = some (.int .i64 0) := (BX.out.bl 2 _ _ _ rfl).val rfl
      have z2 : ∀ k, x6.frozen? ⟨w.heap.size + 1 + 1, k, none⟩ = false := (BX.out.bl 2 _ _ _ rfl).free
      have y2 : w.heap.size + 1 + 1 < x6.heap.size := (BX.out.bl 2 _ _ _ rfl).size
      have p3_0 : x6.cell? ⟨x2.heap.size, 0, none⟩ = some (.int .i64 a3) := (BX.out.bl 3 _ _ _ rfl).val rfl
      have p3_1 : x6.cell? ⟨x2.heap.size, 1, none⟩ = some (.int .i64 d) := (BX.out.bl 3 _ _ _ rfl).val rfl
      have p3_2 : x6.cell? ⟨x2.heap.size, 2, none⟩ = some (.int .i64 f) := (BX.out.bl 3 _ _ _ rfl).val rfl
      have z3 : ∀ k, x6.frozen? ⟨x2.heap.size, k, none⟩ = false := (BX.out.bl 3 _ _ _ rfl).free
      have y3 : x2.heap.size < x6.heap.size := (BX.out.bl 3 _ _ _ rfl).size
      go_wp2_with fail
      refine (radd02_any _ _ _ le0 le1 st0 st1).mono ?_
      rw [hm.out]
      rintro e x7 ⟨rfl, hb⟩
      have bx : Bxs w x7 [(w.heap.size, 30, [.int .i64 su, .int .i64 la, .int .i64 le]), (w.heap.size + 1, 36, [.int .i64 sp, .int .i64 kp, .int .i64 ki, .int .i64 kd, .int .i64 li, .int .i64 st, .int .i64 mo]), (w.heap.size + 1 + 1, 30, [.int .i64 0, .int .i64 0, .int .i64 0]), (x2.heap.size, 30, [.int .i64 a3, .int .i64 d, .int .i64 f])] := (BX.out).below hb
      clear p0_0 p0_1 p0_2 z0 y0 p1_0 p1_1 p1_2 p1_3 p1_4 p1_5 p1_6 z1 y1 p2_0 p2_1 p2_2 z2 y2 p3_0 p3_1 p3_2 z3 y3
      clear hb BX
      have BX := Lib.hid bx
      clear bx
      have p0_0 : x7.cell? ⟨w.heap.size, 0, none⟩ = some (.int .i64 su) := (BX.out.bl 0 _ _ _ rfl).val rfl
      have p0_1 : x7.cell? ⟨w.heap.size, 1, none⟩ = some (.int .i64 la) := (BX.out.bl 0 _ _ _ rfl).val rfl
      have p0_2 : x7.cell? ⟨w.heap.size, 2, none⟩ = some (.int .i64 le) := (BX.out.bl 0 _ _ _ rfl).val rfl
      have z0 : ∀ k, x7.frozen? ⟨w.heap.size, k, none⟩ = false := (BX.out.bl 0 _ _ _ rfl).free
      have y0 : w.heap.size < x7.heap.size := (BX.out.bl 0 _ _ _ rfl).size
      have p1_0 : x7.cell? ⟨w.heap.size + 1, 0, none⟩ = some (.int .i64 sp) := (BX.out.bl 1 _ _ _ rfl).val rfl
      have p1_1 : x7.cell? ⟨w.heap.size + 1, 1, none⟩ = some (.int .i64 kp) := (BX.out.bl 1 _ _ _ rfl).val rfl
      have p1_2 : x7.cell? ⟨w.heap.size + 1, 2, none⟩ = some (.int .i64 ki) := (BX.out.bl 1 _ _ _ rfl).val rfl
      have p1_3 : x7.cell? ⟨w.heap.size + 1, 3, none⟩ = some (.int .i64 kd) := (BX.out.bl 1 _ _ _ rfl).val rfl
      have p1_4 : x7.cell? ⟨w.heap.size + 1, 4, none⟩ = some (.int .i64 li) := (BX.out.bl 1 _ _ _ rfl).val rfl
      have p1_5 : x7.cell? ⟨w.heap.size + 1, 5, none⟩ = some (.int .i64 st) := (BX.out.bl 1 _ _ _ rfl).val rfl
      have p1_6 : x7.cell? ⟨w.heap.size + 1, 6, none⟩ = some (.int .i64 mo) := (BX.out.bl 1 _ _ _ rfl).val rfl
      have z1 : ∀ k, x7.frozen? ⟨w.heap.size + 1, k, none⟩ = false := (BX.out.bl 1 _ _ _ rfl).free
      have y1 : w.heap.size + 1 < x7.heap.size := (BX.out.bl 1 _ _ _ rfl).size
      have p2_0 : x7.cell? ⟨w.heap.size + 1 + 1, 0, none⟩ = some (.int .i64 0) := (BX.out.bl 2 _ _ _ rfl).val rfl
      have p2_1 : x7.cell? ⟨w.heap.size + 1 + 1, 1, none⟩ = some (.int .i64 0) := (BX.out.bl 2 _ _ _ rfl).val rfl
      have p2_2 : x7.cell? ⟨w.heap.size + 1 + 1, 2, none⟩ = some (.int .i64 0) := (BX.out.bl 2 _ _ _ rfl).val rfl
      have z2 : ∀ k, x7.frozen? ⟨w.heap.size + 1 + 1, k, none⟩ = false := (BX.out.bl 2 _ _ _ rfl).free
      have y2 : w.heap.size + 1 + 1 < x7.heap.size := (BX.out.bl 2 _ _ _ rfl).size
      have p3_0 : x7.cell? ⟨x2.heap.size, 0, none⟩ = some (.int .i64 a3) := (BX.out.bl 3 _ _ _ rfl).val rfl
      have p3_1 : x7.cell? ⟨x2.heap.size, 1, none⟩ = some (.int .i64 d) := (BX.out.bl 3 _ _ _ rfl).val rfl
      have p3_2 : x7.cell? ⟨x2.heap.size, 2, none⟩ = some (.int .i64 f) := (BX.out.bl 3 _ _ _ rfl).val rfl
      have z3 : ∀ k, x7.frozen? ⟨x2.heap.size, k, none⟩ = false := (BX.out.bl 3 _ _ _ rfl).free
      have y3 : x2.heap.size < x7.heap.size := (BX.out.bl 3 _ _ _ rfl).size
      go_wp2_with fail
      refine (rclamp_any _ _ _ _).mono ?_
      rintro e x8 ⟨rfl, rfl⟩
      go_wp2_with fail
      refine bodyPost_ret (v := .agg #[.int .i64 a3, .int .i64 d, .int .i64 (clampN f 0 mo)]) (by simp [results, Try.results12, go_sem, *]) rfl ⟨rfl, ?_⟩
      exact (((((BX.out).set_ 3 2 rfl _).set_ 2 0 rfl _).set_ 2 1 rfl _).set_ 2 2 rfl _).be
set_option maxRecDepth 100000 in
set_option maxHeartbeats 4000000 in
theorem rrise_no (su la le sp kp ki kd li st mo u d a1 a2 a3 a4 a5 a6 a7 a8 f m : Int) (hc : ¬ u ≤ sp) (hd : Hid (sat (u - sp) = d)) (h1 : Hid (sat (prodN ki d) = a1)) (h2 : Hid (sat (su + a1) = a2)) (h3 : Hid (clampN a2 0 li = a3)) (h4 : Hid (sat (prodN kp d) = a4)) (h5 : Hid (sat (a4 + a3) = a5)) (h6 : Hid (sat (d - la) = a6)) (h7 : Hid (sat (prodN kd a6) = a7)) (h8 : Hid (sat (a5 + a7) = a8)) (hf : Hid (a8 / 4294967296 = f)) (hm : Hid (sat (le + st) = m)) (hg : ¬ le < f) (ho : m < le) (w : World) (su0 : -9223372036854775808 ≤ su) (su1 : su ≤ 9223372036854775807) (la0 : -9223372036854775808 ≤ la) (la1 : la ≤ 9223372036854775807) (le0 : -9223372036854775808 ≤ le) (le1 : le ≤ 9223372036854775807) (sp0 : -9223372036854775808 ≤ sp) (sp1 : sp ≤ 9223372036854775807) (kp0 : -9223372036854775808 ≤ kp) (kp1 : kp ≤ 9223372036854775807) (ki0 : -9223372036854775808 ≤ ki) (ki1 : ki ≤ 9223372036854775807) (kd0 : -9223372036854775808 ≤ kd) (kd1 : kd ≤ 9223372036854775807) (li0 : -9223372036854775808 ≤ li) (li1 : li ≤ 9223372036854775807) (st0 : -9223372036854775808 ≤ st) (st1 : st ≤ 9223372036854775807) (mo0 : -9223372036854775808 ≤ mo) (mo1 : mo ≤ 9223372036854775807) (u0 : -9223372036854775808 ≤ u) (u1 : u ≤ 9223372036854775807) (d0 : -9223372036854775808 ≤ d) (d1 : d ≤ 9223372036854775807) (b10 : -9223372036854775808 ≤ a1) (b11 : a1 ≤ 9223372036854775807) (b20 : -9223372036854775808 ≤ a2) (b21 : a2 ≤ 9223372036854775807) (b30 : -9223372036854775808 ≤ a3) (b31 : a3 ≤ 9223372036854775807) (b40 : -9223372036854775808 ≤ a4) (b41 : a4 ≤ 9223372036854775807) (b50 : -9223372036854775808 ≤ a5) (b51 : a5 ≤ 9223372036854775807) (b60 : -9223372036854775808 ≤ a6) (b61 : a6 ≤ 9223372036854775807) (b70 : -9223372036854775808 ≤ a7) (b71 : a7 ≤ 9223372036854775807) (b80 : -9223372036854775808 ≤ a8) (b81 : a8 ≤ 9223372036854775807) :
    Calls Try.prog 12 #[.agg #[.int .i64 su, .int .i64 la, .int .i64 le], .agg #[.int .i64 sp, .int .i64 kp, .int .i64 ki, .int .i64 kd, .int .i64 li, .int .i64 st, .int .i64 mo], .int .i64 u] w fun e w' => e = .returned (.agg #[.int .i64 a3, .int .i64 d, .int .i64 (clampN m 0 mo)]) ∧ Below w.heap.size w w' := by
  go_enter Try.func12, Try.ntmps12
  go_upto_region 1 with fail
  refine wp_worldx (fun wx => Bxs w wx [(w.heap.size, 30, [.int .i64 su, .int .i64 la, .int .i64 le]), (w.heap.size + 1, 36, [.int .i64 sp, .int .i64 kp, .int .i64 ki, .int .i64 kd, .int .i64 li, .int .i64 st, .int .i64 mo]), (w.heap.size + 1 + 1, 30, [.int .i64 0, .int .i64 0, .int .i64 0])]) ((((Bxs.nil_ w).alloc_ _ _ (by simp)).alloc_ _ _ (by simp)).alloc_ _ _ (by simp)) ?_
  rintro x1 bx
  have BX := Lib.hid bx
  clear bx
  have p0_0 : x1.cell? ⟨w.heap.size, 0, none⟩ = some (.int .i64 su) := (BX.out.bl 0 _ _ _ rfl).val rfl
  have p0_1 : x1.cell? ⟨w.heap.size, 1, none⟩ = some (.int .i64 la) := (BX.out.bl 0 _ _ _ rfl).val rfl
  have p0_2 : x1.cell? ⟨w.heap.size, 2, none⟩ = some (.int .i64 le) := (BX.out.bl 0 _ _ _ rfl).val rfl
  have z0 : ∀ k, x1.frozen? ⟨w.heap.size, k, none⟩ = false := (BX.out.bl 0 _ _ _ rfl).free
  have y0 : w.heap.size < x1.heap.size := (BX.out.bl 0 _ _ _ rfl).size
  have p1_0 : x1.cell? ⟨w.heap.size + 1, 0, none⟩ = some (.int .i64 sp) := (BX.out.bl 1 _ _ _ rfl).val rfl
  have p1_1 : x1.cell? ⟨w.heap.size + 1, 1, none⟩ = some (.int .i64 kp) := (BX.out.bl 1 _ _ _ rfl).val rfl
  have p1_2 : x1.cell? ⟨w.heap.size + 1, 2, none⟩ = some (.int .i64 ki) := (BX.out.bl 1 _ _ _ rfl).val rfl
  have p1_3 : x1.cell? ⟨w.heap.size + 1, 3, none⟩ = some (.int .i64 kd) := (BX.out.bl 1 _ _ _ rfl).val rfl
  have p1_4 : x1.cell? ⟨w.heap.size + 1, 4, none⟩ = some (.int .i64 li) := (BX.out.bl 1 _ _ _ rfl).val rfl
  have p1_5 : x1.cell? ⟨w.heap.size + 1, 5, none⟩ = some (.int .i64 st) := (BX.out.bl 1 _ _ _ rfl).val rfl
  have p1_6 : x1.cell? ⟨w.heap.size + 1, 6, none⟩ = some (.int .i64 mo) := (BX.out.bl 1 _ _ _ rfl).val rfl
  have z1 : ∀ k, x1.frozen? ⟨w.heap.size + 1, k, none⟩ = false := (BX.out.bl 1 _ _ _ rfl).free
  have y1 : w.heap.size + 1 < x1.heap.size := (BX.out.bl 1 _ _ _ rfl).size
  have p2_0 : x1.cell? ⟨w.heap.size + 1 + 1, 0, none⟩ = some (.int .i64 0) := (BX.out.bl 2 _ _ _ rfl).val rfl
  have p2_1 : x1.cell? ⟨w.heap.size + 1 + 1, 1, none⟩ = some (.int .i64 0) := (BX.out.bl 2 _ _ _ rfl).val rfl
  have p2_2 : x1.cell? ⟨w.heap.size + 1 + 1, 2, none⟩ = some (.int .i64 0) := (BX.out.bl 2 _ _ _ rfl).val rfl
  have z2 : ∀ k, x1.frozen? ⟨w.heap.size + 1 + 1, k, none⟩ = false := (BX.out.bl 2 _ _ _ rfl).free
  have y2 : w.heap.size + 1 + 1 < x1.heap.size := (BX.out.bl 2 _ _ _ rfl).size
  go_wp2_with fail
  refine (rsub02_any _ _ _ u0 u1 sp0 sp1).mono ?_
  rw [hd.out]
  rintro e x2 ⟨rfl, hb⟩
  have bx : Bxs w x2 [(w.heap.size, 30, [.int .i64 su, .int .i64 la, .int .i64 le]), (w.heap.size + 1, 36, [.int .i64 sp, .int .i64 kp, .int .i64 ki, .int .i64 kd, .int .i64 li, .int .i64 st, .int .i64 mo]), (w.heap.size + 1 + 1, 30, [.int .i64 0, .int .i64 0, .int .i64 0])] := (BX.out).below hb
  clear p0_0 p0_1 p0_2 z0 y0 p1_0 p1_1 p1_2 p1_3 p1_4 p1_5 p1_6 z1 y1 p2_0 p2_1 p2_2 z2 y2
  clear hb BX
  have BX := Lib.hid bx
  clear bx
  have p0_0 : x2.cell? ⟨w.heap.size, 0, none⟩ = some (.int .i64 su) := (BX.out.bl 0 _ _ _ rfl).val rfl
  have p0_1 : x2.cell? ⟨w.heap.size, 1, none⟩ = some (.int .i64 la) := (BX.out.bl 0 _ _ _ rfl).val rfl
  have p0_2 : x2.cell? ⟨w.heap.size, 2, none⟩ = some (.int .i64 le) := (BX.out.bl 0 _ _ _ rfl).val rfl
  have z0 : ∀ k, x2.frozen? ⟨w.heap.size, k, none⟩ = false := (BX.out.bl 0 _ _ _ rfl).free
  have y0 : w.heap.size < x2.heap.size := (BX.out.bl 0 _ _ _ rfl).size
  have p1_0 : x2.cell? ⟨w.heap.size + 1, 0, none⟩ = some (.int .i64 sp) := (BX.out.bl 1 _ _ _ rfl).val rfl
  have p1_1 : x2.cell? ⟨w.heap.size + 1, 1, none⟩ = some (.int .i64 kp) := (BX.out.bl 1 _ _ _ rfl).val rfl
  have p1_2 : x2.cell? ⟨w.heap.size + 1, 2, none⟩ = some (.int .i64 ki) := (BX.out.bl 1 _ _ _ rfl).val rfl
  have p1_3 : x2.cell? ⟨w.heap.size + 1, 3, none⟩ = some (.int .i64 kd) := (BX.out.bl 1 _ _ _ rfl).val rfl
  have p1_4 : x2.cell? ⟨w.heap.size + 1, 4, none⟩ = some (.int .i64 li) := (BX.out.bl 1 _ _ _ rfl).val rfl
  have p1_5 : x2.cell? ⟨w.heap.size + 1, 5, none⟩ = some (.int .i64 st) := (BX.out.bl 1 _ _ _ rfl).val rfl
  have p1_6 : x2.cell? ⟨w.heap.size + 1, 6, none⟩ = some (.int .i64 mo) := (BX.out.bl 1 _ _ _ rfl).val rfl
  have z1 : ∀ k, x2.frozen? ⟨w.heap.size + 1, k, none⟩ = false := (BX.out.bl 1 _ _ _ rfl).free
  have y1 : w.heap.size + 1 < x2.heap.size := (BX.out.bl 1 _ _ _ rfl).size
  have p2_0 : x2.cell? ⟨w.heap.size + 1 + 1, 0, none⟩ = some (.int .i64 0) := (BX.out.bl 2 _ _ _ rfl).val rfl
  have p2_1 : x2.cell? ⟨w.heap.size + 1 + 1, 1, none⟩ = some (.int .i64 0) := (BX.out.bl 2 _ _ _ rfl).val rfl
  have p2_2 : x2.cell? ⟨w.heap.size + 1 + 1, 2, none⟩ = some (.int .i64 0) := (BX.out.bl 2 _ _ _ rfl).val rfl
  have z2 : ∀ k, x2.frozen? ⟨w.heap.size + 1 + 1, k, none⟩ = false := (BX.out.bl 2 _ _ _ rfl).free
  have y2 : w.heap.size + 1 + 1 < x2.heap.size := (BX.out.bl 2 _ _ _ rfl).size
  have gz := y2
  go_upto_region 3 with fail
  clear p0_0 p0_1 p0_2 z0 y0 p1_0 p1_1 p1_2 p1_3 p1_4 p1_5 p1_6 z1 y1 p2_0 p2_1 p2_2 z2 y2
  refine wp_worldx (fun wx => Bxs w wx [(w.heap.size, 30, [.int .i64 su, .int .i64 la, .int .i64 le]), (w.heap.size + 1, 36, [.int .i64 sp, .int .i64 kp, .int .i64 ki, .int .i64 kd, .int .i64 li, .int .i64 st, .int .i64 mo]), (w.heap.size + 1 + 1, 30, [.int .i64 0, .int .i64 0, .int .i64 0]), (x2.heap.size, 30, [.int .i64 0, .int .i64 d, .int .i64 0])]) ((BX.out).alloc_ _ _ (by simp)) ?_
  clear BX
  rintro x3 bx
  have BX := Lib.hid bx
  clear bx
  have p0_0 : x3.cell? ⟨w.heap.size, 0, none⟩ = some (.int .i64 su) := (BX.out.bl 0 _ _ _ rfl).val rfl
  have p0_1 : x3.cell? ⟨w.heap.size, 1, none⟩ = some (.int .i64 la) := (BX.out.bl 0 _ _ _ rfl).val rfl
  have p0_2 : x3.cell? ⟨w.heap.size, 2, none⟩ = some (.int .i64 le) := (BX.out.bl 0 _ _ _ rfl).val rfl
  have z0 : ∀ k, x3.frozen? ⟨w.heap.size, k, none⟩ = false := (BX.out.bl 0 _ _ _ rfl).free
  have y0 : w.heap.size < x3.heap.size := (BX.out.bl 0 _ _ _ rfl).size
  have p1_0 : x3.cell? ⟨w.heap.size + 1, 0, none⟩ = some (.int .i64 sp) := (BX.out.bl 1 _ _ _ rfl).val rfl
  have p1_1 : x3.cell? ⟨w.heap.size + 1, 1, none⟩ = some (.int .i64 kp) := (BX.out.bl 1 _ _ _ rfl).val rfl
  have p1_2 : x3.cell? ⟨w.heap.size + 1, 2, none⟩ = some (.int .i64 ki) := (BX.out.bl 1 _ _ _ rfl).val rfl
  have p1_3 : x3.cell? ⟨w.heap.size + 1, 3, none⟩ = some (.int .i64 kd) := (BX.out.bl 1 _ _ _ rfl).val rfl
  have p1_4 : x3.cell? ⟨w.heap.size + 1, 4, none⟩ = some (.int .i64 li) := (BX.out.bl 1 _ _ _ rfl).val rfl
  have p1_5 : x3.cell? ⟨w.heap.size + 1, 5, none⟩ = some (.int .i64 st) := (BX.out.bl 1 _ _ _ rfl).val rfl
  have p1_6 : x3.cell? ⟨w.heap.size + 1, 6, none⟩ = some (.int .i64 mo) := (BX.out.bl 1 _ _ _ rfl).val rfl
  have z1 : ∀ k, x3.frozen? ⟨w.heap.size + 1, k, none⟩ = false := (BX.out.bl 1 _ _ _ rfl).free
  have y1 : w.heap.size + 1 < x3.heap.size := (BX.out.bl 1 _ _ _ rfl).size
  have p2_0 : x3.cell? ⟨w.heap.size + 1 + 1, 0, none⟩ = some (.int .i64 0) := (BX.out.bl 2 _ _ _ rfl).val rfl
  have p2_1 : x3.cell? ⟨w.heap.size + 1 + 1, 1, none⟩ = some (.int .i64 0) := (BX.out.bl 2 _ _ _ rfl).val rfl
  have p2_2 : x3.cell? ⟨w.heap.size + 1 + 1, 2, none⟩ = some (.int .i64 0) := (BX.out.bl 2 _ _ _ rfl).val rfl
  have z2 : ∀ k, x3.frozen? ⟨w.heap.size + 1 + 1, k, none⟩ = false := (BX.out.bl 2 _ _ _ rfl).free
  have y2 : w.heap.size + 1 + 1 < x3.heap.size := (BX.out.bl 2 _ _ _ rfl).size
  have p3_0 : x3.cell? ⟨x2.heap.size, 0, none⟩ = some (.int .i64 0) := (BX.out.bl 3 _ _ _ rfl).val rfl
  have p3_1 : x3.cell? ⟨x2.heap.size, 1, none⟩ = some (.int .i64 d) := (BX.out.bl 3 _ _ _ rfl).val rfl
  have p3_2 : x3.cell? ⟨x2.heap.size, 2, none⟩ = some (.int .i64 0) := (BX.out.bl 3 _ _ _ rfl).val rfl
  have z3 : ∀ k, x3.frozen? ⟨x2.heap.size, k, none⟩ = false := (BX.out.bl 3 _ _ _ rfl).free
  have y3 : x2.heap.size < x3.heap.size := (BX.out.bl 3 _ _ _ rfl).size
  go_upto_region 9 with fail
  go_cut [] (fun  wx =>  Bxs w wx [(w.heap.size, 30, [.int .i64 su, .int .i64 la, .int .i64 le]), (w.heap.size + 1, 36, [.int .i64 sp, .int .i64 kp, .int .i64 ki, .int .i64 kd, .int .i64 li, .int .i64 st, .int .i64 mo]), (w.heap.size + 1 + 1, 30, [.int .i64 0, .int .i64 0, .int .i64 0]), (x2.heap.size, 30, [.int .i64 a3, .int .i64 d, .int .i64 0])])
  case first =>
    go_region_held3 (fun w' => w'.cell? ⟨w.heap.size, 0, none⟩ = some (.int .i64 su) ∧ w'.cell? ⟨w.heap.size + 1, 2, none⟩ = some (.int .i64 ki) ∧ w'.cell? ⟨w.heap.size + 1, 4, none⟩ = some (.int .i64 li)) (repeat (first | with_reducible assumption | refine ⟨?_, ?_⟩ | with_reducible refine kdrew ?_ | with_reducible refine kalloc ?_ _ | with_reducible refine kother ?_ (by simp; try omega))) (first | (go_at_call 22; refine (rof02_any _ _ _ (by omega) (by omega) (by omega) (by omega)).mono ?_; (rw [h1.out]); rintro e wn ⟨rfl, hbn⟩; have bx : Bxs w wn [(w.heap.size, 30, [.int .i64 su, .int .i64 la, .int .i64 le]), (w.heap.size + 1, 36, [.int .i64 sp, .int .i64 kp, .int .i64 ki, .int .i64 kd, .int .i64 li, .int .i64 st, .int .i64 mo]), (w.heap.size + 1 + 1, 30, [.int .i64 0, .int .i64 0, .int .i64 0]), (x2.heap.size, 30, [.int .i64 0, .int .i64 d, .int .i64 0])] := (by first | exact BX.out.below hbn | exact BX.out.drew_.below hbn | exact (BX.out.drewN_ _).below hbn); clear hbn BX p0_0 p0_1 p0_2 z0 y0 p1_0 p1_1 p1_2 p1_3 p1_4 p1_5 p1_6 z1 y1 p2_0 p2_1 p2_2 z2 y2 p3_0 p3_1 p3_2 z3 y3; have BX := Lib.hid bx; clear bx; have p0_0 : wn.cell? ⟨w.heap.size, 0, none⟩ = some (.int .i64 su) := (BX.out.bl 0 _ _ _ rfl).val rfl; have p0_1 : wn.cell? ⟨w.heap.size, 1, none⟩ = some (.int .i64 la) := (BX.out.bl 0 _ _ _ rfl).val rfl; have p0_2 : wn.cell? ⟨w.heap.size, 2, none⟩ = some (.int .i64 le) := (BX.out.bl 0 _ _ _ rfl).val rfl; have z0 : ∀ k, wn.frozen? ⟨w.heap.size, k, none⟩ = false := (BX.out.bl 0 _ _ _ rfl).free; have y0 : w.heap.size < wn.heap.size := (BX.out.bl 0 _ _ _ rfl).size; have p1_0 : wn.cell? ⟨w.heap.size + 1, 0, none⟩ = some (.int .i64 sp) := (BX.out.bl 1 _ _ _ rfl).val rfl; have p1_1 : wn.cell? ⟨w.heap.size + 1, 1, none⟩ = some (.int .i64 kp) := (BX.out.bl 1 _ _ _ rfl).val rfl; have p1_2 : wn.cell? ⟨w.heap.size + 1, 2, none⟩ = some (.int .i64 ki) := (BX.out.bl 1 _ _ _ rfl).val rfl; have p1_3 : wn.cell? ⟨w.heap.size + 1, 3, none⟩ = some (.int .i64 kd) := (BX.out.bl 1 _ _ _ rfl).val rfl; have p1_4 : wn.cell? ⟨w.heap.size + 1, 4, none⟩ = some (.int .i64 li) := (BX.out.bl 1 _ _ _ rfl).val rfl; have p1_5 : wn.cell? ⟨w.heap.size + 1, 5, none⟩ = some (.int .i64 st) := (BX.out.bl 1 _ _ _ rfl).val rfl; have p1_6 : wn.cell? ⟨w.heap.size + 1, 6, none⟩ = some (.int .i64 mo) := (BX.out.bl 1 _ _ _ rfl).val rfl; have z1 : ∀ k, wn.frozen? ⟨w.heap.size + 1, k, none⟩ = false := (BX.out.bl 1 _ _ _ rfl).free; have y1 : w.heap.size + 1 < wn.heap.size := (BX.out.bl 1 _ _ _ rfl).size; have p2_0 : wn.cell? ⟨w.heap.size + 1 + 1, 0, none⟩ = some (.int .i64 0) := (BX.out.bl 2 _ _ _ rfl).val rfl; have p2_1 : wn.cell? ⟨w.heap.size + 1 + 1, 1, none⟩ = some (.int .i64 0) := (BX.out.bl 2 _ _ _ rfl).val rfl; have p2_2 : wn.cell? ⟨w.heap.size + 1 + 1, 2, none⟩ = some (.int .i64 0) := (BX.out.bl 2 _ _ _ rfl).val rfl; have z2 : ∀ k, wn.frozen? ⟨w.heap.size + 1 + 1, k, none⟩ = false := (BX.out.bl 2 _ _ _ rfl).free; have y2 : w.heap.size + 1 + 1 < wn.heap.size := (BX.out.bl 2 _ _ _ rfl).size; have p3_0 : wn.cell? ⟨x2.heap.size, 0, none⟩ = some (.int .i64 0) := (BX.out.bl 3 _ _ _ rfl).val rfl; have p3_1 : wn.cell? ⟨x2.heap.size, 1, none⟩ = some (.int .i64 d) := (BX.out.bl 3 _ _ _ rfl).val rfl; have p3_2 : wn.cell? ⟨x2.heap.size, 2, none⟩ = some (.int .i64 0) := (BX.out.bl 3 _ _ _ rfl).val rfl; have z3 : ∀ k, wn.frozen? ⟨x2.heap.size, k, none⟩ = false := (BX.out.bl 3 _ _ _ rfl).free; have y3 : x2.heap.size < wn.heap.size := (BX.out.bl 3 _ _ _ rfl).size) | (go_at_call 24; refine (radd02_any _ _ _ (by omega) (by omega) (by omega) (by omega)).mono ?_; (rw [h2.out]); rintro e wn ⟨rfl, hbn⟩; have bx : Bxs w wn [(w.heap.size, 30, [.int .i64 su, .int .i64 la, .int .i64 le]), (w.heap.size + 1, 36, [.int .i64 sp, .int .i64 kp, .int .i64 ki, .int .i64 kd, .int .i64 li, .int .i64 st, .int .i64 mo]), (w.heap.size + 1 + 1, 30, [.int .i64 0, .int .i64 0, .int .i64 0]), (x2.heap.size, 30, [.int .i64 0, .int .i64 d, .int .i64 0])] := (by first | exact BX.out.below hbn | exact BX.out.drew_.below hbn | exact (BX.out.drewN_ _).below hbn); clear hbn BX p0_0 p0_1 p0_2 z0 y0 p1_0 p1_1 p1_2 p1_3 p1_4 p1_5 p1_6 z1 y1 p2_0 p2_1 p2_2 z2 y2 p3_0 p3_1 p3_2 z3 y3; have BX := Lib.hid bx; clear bx; have p0_0 : wn.cell? ⟨w.heap.size, 0, none⟩ = some (.int .i64 su) := (BX.out.bl 0 _ _ _ rfl).val rfl; have p0_1 : wn.cell? ⟨w.heap.size, 1, none⟩ = some (.int .i64 la) := (BX.out.bl 0 _ _ _ rfl).val rfl; have p0_2 : wn.cell? ⟨w.heap.size, 2, none⟩ = some (.int .i64 le) := (BX.out.bl 0 _ _ _ rfl).val rfl; have z0 : ∀ k, wn.frozen? ⟨w.heap.size, k, none⟩ = false := (BX.out.bl 0 _ _ _ rfl).free; have y0 : w.heap.size < wn.heap.size := (BX.out.bl 0 _ _ _ rfl).size; have p1_0 : wn.cell? ⟨w.heap.size + 1, 0, none⟩ = some (.int .i64 sp) := (BX.out.bl 1 _ _ _ rfl).val rfl; have p1_1 : wn.cell? ⟨w.heap.size + 1, 1, none⟩ = some (.int .i64 kp) := (BX.out.bl 1 _ _ _ rfl).val rfl; have p1_2 : wn.cell? ⟨w.heap.size + 1, 2, none⟩ = some (.int .i64 ki) := (BX.out.bl 1 _ _ _ rfl).val rfl; have p1_3 : wn.cell? ⟨w.heap.size + 1, 3, none⟩ = some (.int .i64 kd) := (BX.out.bl 1 _ _ _ rfl).val rfl; have p1_4 : wn.cell? ⟨w.heap.size + 1, 4, none⟩ = some (.int .i64 li) := (BX.out.bl 1 _ _ _ rfl).val rfl; have p1_5 : wn.cell? ⟨w.heap.size + 1, 5, none⟩ = some (.int .i64 st) := (BX.out.bl 1 _ _ _ rfl).val rfl; have p1_6 : wn.cell? ⟨w.heap.size + 1, 6, none⟩ = some (.int .i64 mo) := (BX.out.bl 1 _ _ _ rfl).val rfl; have z1 : ∀ k, wn.frozen? ⟨w.heap.size + 1, k, none⟩ = false := (BX.out.bl 1 _ _ _ rfl).free; have y1 : w.heap.size + 1 < wn.heap.size := (BX.out.bl 1 _ _ _ rfl).size; have p2_0 : wn.cell? ⟨w.heap.size + 1 + 1, 0, none⟩ = some (.int .i64 0) := (BX.out.bl 2 _ _ _ rfl).val rfl; have p2_1 : wn.cell? ⟨w.heap.size + 1 + 1, 1, none⟩ = some (.int .i64 0) := (BX.out.bl 2 _ _ _ rfl).val rfl; have p2_2 : wn.cell? ⟨w.heap.size + 1 + 1, 2, none⟩ = some (.int .i64 0) := (BX.out.bl 2 _ _ _ rfl).val rfl; have z2 : ∀ k, wn.frozen? ⟨w.heap.size + 1 + 1, k, none⟩ = false := (BX.out.bl 2 _ _ _ rfl).free; have y2 : w.heap.size + 1 + 1 < wn.heap.size := (BX.out.bl 2 _ _ _ rfl).size; have p3_0 : wn.cell? ⟨x2.heap.size, 0, none⟩ = some (.int .i64 0) := (BX.out.bl 3 _ _ _ rfl).val rfl; have p3_1 : wn.cell? ⟨x2.heap.size, 1, none⟩ = some (.int .i64 d) := (BX.out.bl 3 _ _ _ rfl).val rfl; have p3_2 : wn.cell? ⟨x2.heap.size, 2, none⟩ = some (.int .i64 0) := (BX.out.bl 3 _ _ _ rfl).val rfl; have z3 : ∀ k, wn.frozen? ⟨x2.heap.size, k, none⟩ = false := (BX.out.bl 3 _ _ _ rfl).free; have y3 : x2.heap.size < wn.heap.size := (BX.out.bl 3 _ _ _ rfl).size) | (go_at_call 23; refine (rclamp_any _ _ _ _).mono ?_; (rw [h3.out]); rintro e wn ⟨rfl, rfl⟩))
    all_goals (go_wp2_with fail; go_meet; exact (by first | exact (BX.out).set_ 3 0 rfl _ | exact (BX.out.drew_).set_ 3 0 rfl _ | exact ((BX.out.drewN_ _)).set_ 3 0 rfl _ | exact ((BX.out).set_ 3 0 rfl _).drew_))
  case rest =>
    clear p0_0 p0_1 p0_2 z0 y0 p1_0 p1_1 p1_2 p1_3 p1_4 p1_5 p1_6 z1 y1 p2_0 p2_1 p2_2 z2 y2 p3_0 p3_1 p3_2 z3 y3
    have bx := hcut
    clear hcut BX
    have hx := bx
    clear bx
    go_upto_region 10 with fail
    have bx := hx
    clear hx
    have BX := Lib.hid bx
    clear bx
    have p0_0 : wc.cell? ⟨w.heap.size, 0, none⟩ = some (.int .i64 su) := (BX.out.bl 0 _ _ _ rfl).val rfl
    have p0_1 : wc.cell? ⟨w.heap.size, 1, none⟩ = some (.int .i64 la) := (BX.out.bl 0 _ _ _ rfl).val rfl
    have p0_2 : wc.cell? ⟨w.heap.size, 2, none⟩ = some (.int .i64 le) := (BX.out.bl 0 _ _ _ rfl).val rfl
    have z0 : ∀ k, wc.frozen? ⟨w.heap.size, k, none⟩ = false := (BX.out.bl 0 _ _ _ rfl).free
    have y0 : w.heap.size < wc.heap.size := (BX.out.bl 0 _ _ _ rfl).size
    have p1_0 : wc.cell? ⟨w.heap.size + 1, 0, none⟩ = some (.int .i64 sp) := (BX.out.bl 1 _ _ _ rfl).val rfl
    have p1_1 : wc.cell? ⟨w.heap.size + 1, 1, none⟩ = some (.int .i64 kp) := (BX.out.bl 1 _ _ _ rfl).val rfl
    have p1_2 : wc.cell? ⟨w.heap.size + 1, 2, none⟩ = some (.int .i64 ki) := (BX.out.bl 1 _ _ _ rfl).val rfl
    have p1_3 : wc.cell? ⟨w.heap.size + 1, 3, none⟩ = some (.int .i64 kd) := (BX.out.bl 1 _ _ _ rfl).val rfl
    have p1_4 : wc.cell? ⟨w.heap.size + 1, 4, none⟩ = some (.int .i64 li) := (BX.out.bl 1 _ _ _ rfl).val rfl
    have p1_5 : wc.cell? ⟨w.heap.size + 1, 5, none⟩ = some (.int .i64 st) := (BX.out.bl 1 _ _ _ rfl).val rfl
    have p1_6 : wc.cell? ⟨w.heap.size + 1, 6, none⟩ = some (.int .i64 mo) := (BX.out.bl 1 _ _ _ rfl).val rfl
    have z1 : ∀ k, wc.frozen? ⟨w.heap.size + 1, k, none⟩ = false := (BX.out.bl 1 _ _ _ rfl).free
    have y1 : w.heap.size + 1 < wc.heap.size := (BX.out.bl 1 _ _ _ rfl).size
    have p2_0 : wc.cell? ⟨w.heap.size + 1 + 1, 0, none⟩ = some (.int .i64 0) := (BX.out.bl 2 _ _ _ rfl).val rfl
    have p2_1 : wc.cell? ⟨w.heap.size + 1 + 1, 1, none⟩ = some (.int .i64 0) := (BX.out.bl 2 _ _ _ rfl).val rfl
    have p2_2 : wc.cell? ⟨w.heap.size + 1 + 1, 2, none⟩ = some (.int .i64 0) := (BX.out.bl 2 _ _ _ rfl).val rfl
    have z2 : ∀ k, wc.frozen? ⟨w.heap.size + 1 + 1, k, none⟩ = false := (BX.out.bl 2 _ _ _ rfl).free
    have y2 : w.heap.size + 1 + 1 < wc.heap.size := (BX.out.bl 2 _ _ _ rfl).size
    have p3_0 : wc.cell? ⟨x2.heap.size, 0, none⟩ = some (.int .i64 a3) := (BX.out.bl 3 _ _ _ rfl).val rfl
    have p3_1 : wc.cell? ⟨x2.heap.size, 1, none⟩ = some (.int .i64 d) := (BX.out.bl 3 _ _ _ rfl).val rfl
    have p3_2 : wc.cell? ⟨x2.heap.size, 2, none⟩ = some (.int .i64 0) := (BX.out.bl 3 _ _ _ rfl).val rfl
    have z3 : ∀ k, wc.frozen? ⟨x2.heap.size, k, none⟩ = false := (BX.out.bl 3 _ _ _ rfl).free
    have y3 : x2.heap.size < wc.heap.size := (BX.out.bl 3 _ _ _ rfl).size
    go_cut [9] (fun s9 wx => s9 = .int .i64 a8 ∧ Bxs w wx [(w.heap.size, 30, [.int .i64 su, .int .i64 la, .int .i64 le]), (w.heap.size + 1, 36, [.int .i64 sp, .int .i64 kp, .int .i64 ki, .int .i64 kd, .int .i64 li, .int .i64 st, .int .i64 mo]), (w.heap.size + 1 + 1, 30, [.int .i64 0, .int .i64 0, .int .i64 0]), (x2.heap.size, 30, [.int .i64 a3, .int .i64 d, .int .i64 0])])
    case first =>
      go_region_held3 (fun w' => w'.cell? ⟨w.heap.size + 1, 1, none⟩ = some (.int .i64 kp) ∧ w'.cell? ⟨x2.heap.size, 0, none⟩ = some (.int .i64 a3) ∧ w'.cell? ⟨w.heap.size + 1, 3, none⟩ = some (.int .i64 kd) ∧ w'.cell? ⟨w.heap.size, 1, none⟩ = some (.int .i64 la)) (repeat (first | with_reducible assumption | refine ⟨?_, ?_⟩ | with_reducible refine kdrew ?_ | with_reducible refine kalloc ?_ _ | with_reducible refine kother ?_ (by simp; try omega))) (first | (go_at_call 22; refine (rof02_any _ _ _ (by omega) (by omega) (by omega) (by omega)).mono ?_; (first | rw [h4.out] | rw [h7.out]); rintro e wn ⟨rfl, hbn⟩; have bx : Bxs w wn [(w.heap.size, 30, [.int .i64 su, .int .i64 la, .int .i64 le]), (w.heap.size + 1, 36, [.int .i64 sp, .int .i64 kp, .int .i64 ki, .int .i64 kd, .int .i64 li, .int .i64 st, .int .i64 mo]), (w.heap.size + 1 + 1, 30, [.int .i64 0, .int .i64 0, .int .i64 0]), (x2.heap.size, 30, [.int .i64 a3, .int .i64 d, .int .i64 0])] := (by first | exact BX.out.below hbn | exact BX.out.drew_.below hbn | exact (BX.out.drewN_ _).below hbn); clear hbn BX p0_0 p0_1 p0_2 z0 y0 p1_0 p1_1 p1_2 p1_3 p1_4 p1_5 p1_6 z1 y1 p2_0 p2_1 p2_2 z2 y2 p3_0 p3_1 p3_2 z3 y3; have BX := Lib.hid bx; clear bx; have p0_0 : wn.cell? ⟨w.heap.size, 0, none⟩ = some (.int .i64 su) := (BX.out.bl 0 _ _ _ rfl).val rfl; have p0_1 : wn.cell? ⟨w.heap.size, 1, none⟩ = some (.int .i64 la) := (BX.out.bl 0 _ _ _ rfl).val rfl; have p0_2 : wn.cell? ⟨w.heap.size, 2, none⟩ = some (.int .i64 le) := (BX.out.bl 0 _ _ _ rfl).val rfl; have z0 : ∀ k, wn.frozen? ⟨w.heap.size, k, none⟩ = false := (BX.out.bl 0 _ _ _ rfl).free; have y0 : w.heap.size < wn.heap.size := (BX.out.bl 0 _ _ _ rfl).size; have p1_0 : wn.cell? ⟨w.heap.size + 1, 0, none⟩ = some (.int .i64 sp) := (BX.out.bl 1 _ _ _ rfl).val rfl; have p1_1 : wn.cell? ⟨w.heap.size + 1, 1, none⟩ = some (.int .i64 kp) := (BX.out.bl 1 _ _ _ rfl).val rfl; have p1_2 : wn.cell? ⟨w.heap.size + 1, 2, none⟩ = some (.int .i64 ki) := (BX.out.bl 1 _ _ _ rfl).val rfl; have p1_3 : wn.cell? ⟨w.heap.size + 1, 3, none⟩ = some (.int .i64 kd) := (BX.out.bl 1 _ _ _ rfl).val rfl; have p1_4 : wn.cell? ⟨w.heap.size + 1, 4, none⟩ = some (.int .i64 li) := (BX.out.bl 1 _ _ _ rfl).val rfl; have p1_5 : wn.cell? ⟨w.heap.size + 1, 5, none⟩ = some (.int .i64 st) := (BX.out.bl 1 _ _ _ rfl).val rfl; have p1_6 : wn.cell? ⟨w.heap.size + 1, 6, none⟩ = some (.int .i64 mo) := (BX.out.bl 1 _ _ _ rfl).val rfl; have z1 : ∀ k, wn.frozen? ⟨w.heap.size + 1, k, none⟩ = false := (BX.out.bl 1 _ _ _ rfl).free; have y1 : w.heap.size + 1 < wn.heap.size := (BX.out.bl 1 _ _ _ rfl).size; have p2_0 : wn.cell? ⟨w.heap.size + 1 + 1, 0, none⟩ = some (.int .i64 0) := (BX.out.bl 2 _ _ _ rfl).val rfl; have p2_1 : wn.cell? ⟨w.heap.size + 1 + 1, 1, none⟩ = some (.int .i64 0) := (BX.out.bl 2 _ _ _ rfl).val rfl; have p2_2 : wn.cell? ⟨w.heap.size + 1 + 1, 2, none⟩ = some (.int .i64 0) := (BX.out.bl 2 _ _ _ rfl).val rfl; have z2 : ∀ k, wn.frozen? ⟨w.heap.size + 1 + 1, k, none⟩ = false := (BX.out.bl 2 _ _ _ rfl).free; have y2 : w.heap.size + 1 + 1 < wn.heap.size := (BX.out.bl 2 _ _ _ rfl).size; have p3_0 : wn.cell? ⟨x2.heap.size, 0, none⟩ = some (.int .i64 a3) := (BX.out.bl 3 _ _ _ rfl).val rfl; have p3_1 : wn.cell? ⟨x2.heap.size, 1, none⟩ = some (.int .i64 d) := (BX.out.bl 3 _ _ _ rfl).val rfl; have p3_2 : wn.cell? ⟨x2.heap.size, 2, none⟩ = some (.int .i64 0) := (BX.out.bl 3 _ _ _ rfl).val rfl; have z3 : ∀ k, wn.frozen? ⟨x2.heap.size, k, none⟩ = false := (BX.out.bl 3 _ _ _ rfl).free; have y3 : x2.heap.size < wn.heap.size := (BX.out.bl 3 _ _ _ rfl).size) | (go_at_call 24; refine (radd02_any _ _ _ (by omega) (by omega) (by omega) (by omega)).mono ?_; (first | rw [h5.out] | rw [h8.out]); rintro e wn ⟨rfl, hbn⟩; have bx : Bxs w wn [(w.heap.size, 30, [.int .i64 su, .int .i64 la, .int .i64 le]), (w.heap.size + 1, 36, [.int .i64 sp, .int .i64 kp, .int .i64 ki, .int .i64 kd, .int .i64 li, .int .i64 st, .int .i64 mo]), (w.heap.size + 1 + 1, 30, [.int .i64 0, .int .i64 0, .int .i64 0]), (x2.heap.size, 30, [.int .i64 a3, .int .i64 d, .int .i64 0])] := (by first | exact BX.out.below hbn | exact BX.out.drew_.below hbn | exact (BX.out.drewN_ _).below hbn); clear hbn BX p0_0 p0_1 p0_2 z0 y0 p1_0 p1_1 p1_2 p1_3 p1_4 p1_5 p1_6 z1 y1 p2_0 p2_1 p2_2 z2 y2 p3_0 p3_1 p3_2 z3 y3; have BX := Lib.hid bx; clear bx; have p0_0 : wn.cell? ⟨w.heap.size, 0, none⟩ = some (.int .i64 su) := (BX.out.bl 0 _ _ _ rfl).val rfl; have p0_1 : wn.cell? ⟨w.heap.size, 1, none⟩ = some (.int .i64 la) := (BX.out.bl 0 _ _ _ rfl).val rfl; have p0_2 : wn.cell? ⟨w.heap.size, 2, none⟩ = some (.int .i64 le) := (BX.out.bl 0 _ _ _ rfl).val rfl; have z0 : ∀ k, wn.frozen? ⟨w.heap.size, k, none⟩ = false := (BX.out.bl 0 _ _ _ rfl).free; have y0 : w.heap.size < wn.heap.size := (BX.out.bl 0 _ _ _ rfl).size; have p1_0 : wn.cell? ⟨w.heap.size + 1, 0, none⟩ = some (.int .i64 sp) := (BX.out.bl 1 _ _ _ rfl).val rfl; have p1_1 : wn.cell? ⟨w.heap.size + 1, 1, none⟩ = some (.int .i64 kp) := (BX.out.bl 1 _ _ _ rfl).val rfl; have p1_2 : wn.cell? ⟨w.heap.size + 1, 2, none⟩ = some (.int .i64 ki) := (BX.out.bl 1 _ _ _ rfl).val rfl; have p1_3 : wn.cell? ⟨w.heap.size + 1, 3, none⟩ = some (.int .i64 kd) := (BX.out.bl 1 _ _ _ rfl).val rfl; have p1_4 : wn.cell? ⟨w.heap.size + 1, 4, none⟩ = some (.int .i64 li) := (BX.out.bl 1 _ _ _ rfl).val rfl; have p1_5 : wn.cell? ⟨w.heap.size + 1, 5, none⟩ = some (.int .i64 st) := (BX.out.bl 1 _ _ _ rfl).val rfl; have p1_6 : wn.cell? ⟨w.heap.size + 1, 6, none⟩ = some (.int .i64 mo) := (BX.out.bl 1 _ _ _ rfl).val rfl; have z1 : ∀ k, wn.frozen? ⟨w.heap.size + 1, k, none⟩ = false := (BX.out.bl 1 _ _ _ rfl).free; have y1 : w.heap.size + 1 < wn.heap.size := (BX.out.bl 1 _ _ _ rfl).size; have p2_0 : wn.cell? ⟨w.heap.size + 1 + 1, 0, none⟩ = some (.int .i64 0) := (BX.out.bl 2 _ _ _ rfl).val rfl; have p2_1 : wn.cell? ⟨w.heap.size + 1 + 1, 1, none⟩ = some (.int .i64 0) := (BX.out.bl 2 _ _ _ rfl).val rfl; have p2_2 : wn.cell? ⟨w.heap.size + 1 + 1, 2, none⟩ = some (.int .i64 0) := (BX.out.bl 2 _ _ _ rfl).val rfl; have z2 : ∀ k, wn.frozen? ⟨w.heap.size + 1 + 1, k, none⟩ = false := (BX.out.bl 2 _ _ _ rfl).free; have y2 : w.heap.size + 1 + 1 < wn.heap.size := (BX.out.bl 2 _ _ _ rfl).size; have p3_0 : wn.cell? ⟨x2.heap.size, 0, none⟩ = some (.int .i64 a3) := (BX.out.bl 3 _ _ _ rfl).val rfl; have p3_1 : wn.cell? ⟨x2.heap.size, 1, none⟩ = some (.int .i64 d) := (BX.out.bl 3 _ _ _ rfl).val rfl; have p3_2 : wn.cell? ⟨x2.heap.size, 2, none⟩ = some (.int .i64 0) := (BX.out.bl 3 _ _ _ rfl).val rfl; have z3 : ∀ k, wn.frozen? ⟨x2.heap.size, k, none⟩ = false := (BX.out.bl 3 _ _ _ rfl).free; have y3 : x2.heap.size < wn.heap.size := (BX.out.bl 3 _ _ _ rfl).size) | (go_at_call 21; refine (rsub02_any _ _ _ (by omega) (by omega) (by omega) (by omega)).mono ?_; (rw [h6.out]); rintro e wn ⟨rfl, hbn⟩; have bx : Bxs w wn [(w.heap.size, 30, [.int .i64 su, .int .i64 la, .int .i64 le]), (w.heap.size + 1, 36, [.int .i64 sp, .int .i64 kp, .int .i64 ki, .int .i64 kd, .int .i64 li, .int .i64 st, .int .i64 mo]), (w.heap.size + 1 + 1, 30, [.int .i64 0, .int .i64 0, .int .i64 0]), (x2.heap.size, 30, [.int .i64 a3, .int .i64 d, .int .i64 0])] := (by first | exact BX.out.below hbn | exact BX.out.drew_.below hbn | exact (BX.out.drewN_ _).below hbn); clear hbn BX p0_0 p0_1 p0_2 z0 y0 p1_0 p1_1 p1_2 p1_3 p1_4 p1_5 p1_6 z1 y1 p2_0 p2_1 p2_2 z2 y2 p3_0 p3_1 p3_2 z3 y3; have BX := Lib.hid bx; clear bx; have p0_0 : wn.cell? ⟨w.heap.size, 0, none⟩ = some (.int .i64 su) := (BX.out.bl 0 _ _ _ rfl).val rfl; have p0_1 : wn.cell? ⟨w.heap.size, 1, none⟩ = some (.int .i64 la) := (BX.out.bl 0 _ _ _ rfl).val rfl; have p0_2 : wn.cell? ⟨w.heap.size, 2, none⟩ = some (.int .i64 le) := (BX.out.bl 0 _ _ _ rfl).val rfl; have z0 : ∀ k, wn.frozen? ⟨w.heap.size, k, none⟩ = false := (BX.out.bl 0 _ _ _ rfl).free; have y0 : w.heap.size < wn.heap.size := (BX.out.bl 0 _ _ _ rfl).size; have p1_0 : wn.cell? ⟨w.heap.size + 1, 0, none⟩ = some (.int .i64 sp) := (BX.out.bl 1 _ _ _ rfl).val rfl; have p1_1 : wn.cell? ⟨w.heap.size + 1, 1, none⟩ = some (.int .i64 kp) := (BX.out.bl 1 _ _ _ rfl).val rfl; have p1_2 : wn.cell? ⟨w.heap.size + 1, 2, none⟩ = some (.int .i64 ki) := (BX.out.bl 1 _ _ _ rfl).val rfl; have p1_3 : wn.cell? ⟨w.heap.size + 1, 3, none⟩ = some (.int .i64 kd) := (BX.out.bl 1 _ _ _ rfl).val rfl; have p1_4 : wn.cell? ⟨w.heap.size + 1, 4, none⟩ = some (.int .i64 li) := (BX.out.bl 1 _ _ _ rfl).val rfl; have p1_5 : wn.cell? ⟨w.heap.size + 1, 5, none⟩ = some (.int .i64 st) := (BX.out.bl 1 _ _ _ rfl).val rfl; have p1_6 : wn.cell? ⟨w.heap.size + 1, 6, none⟩ = some (.int .i64 mo) := (BX.out.bl 1 _ _ _ rfl).val rfl; have z1 : ∀ k, wn.frozen? ⟨w.heap.size + 1, k, none⟩ = false := (BX.out.bl 1 _ _ _ rfl).free; have y1 : w.heap.size + 1 < wn.heap.size := (BX.out.bl 1 _ _ _ rfl).size; have p2_0 : wn.cell? ⟨w.heap.size + 1 + 1, 0, none⟩ = some (.int .i64 0) := (BX.out.bl 2 _ _ _ rfl).val rfl; have p2_1 : wn.cell? ⟨w.heap.size + 1 + 1, 1, none⟩ = some (.int .i64 0) := (BX.out.bl 2 _ _ _ rfl).val rfl; have p2_2 : wn.cell? ⟨w.heap.size + 1 + 1, 2, none⟩ = some (.int .i64 0) := (BX.out.bl 2 _ _ _ rfl).val rfl; have z2 : ∀ k, wn.frozen? ⟨w.heap.size + 1 + 1, k, none⟩ = false := (BX.out.bl 2 _ _ _ rfl).free; have y2 : w.heap.size + 1 + 1 < wn.heap.size := (BX.out.bl 2 _ _ _ rfl).size; have p3_0 : wn.cell? ⟨x2.heap.size, 0, none⟩ = some (.int .i64 a3) := (BX.out.bl 3 _ _ _ rfl).val rfl; have p3_1 : wn.cell? ⟨x2.heap.size, 1, none⟩ = some (.int .i64 d) := (BX.out.bl 3 _ _ _ rfl).val rfl; have p3_2 : wn.cell? ⟨x2.heap.size, 2, none⟩ = some (.int .i64 0) := (BX.out.bl 3 _ _ _ rfl).val rfl; have z3 : ∀ k, wn.frozen? ⟨x2.heap.size, k, none⟩ = false := (BX.out.bl 3 _ _ _ rfl).free; have y3 : x2.heap.size < wn.heap.size := (BX.out.bl 3 _ _ _ rfl).size))
      all_goals (go_wp2_with fail; go_meet; exact ⟨rfl, (by first | exact BX.out | exact BX.out.drew_ | exact (BX.out.drewN_ _) | exact (BX.out).drew_)⟩)
    case rest =>
      clear p0_0 p0_1 p0_2 z0 y0 p1_0 p1_1 p1_2 p1_3 p1_4 p1_5 p1_6 z1 y1 p2_0 p2_1 p2_2 z2 y2 p3_0 p3_1 p3_2 z3 y3
      clear BX
      obtain ⟨rfl, bx⟩ := hcut
      have BX := Lib.hid bx
      clear bx
      have p0_0 : wc.cell? ⟨w.heap.size, 0, none⟩ = some (.int .i64 su) := (BX.out.bl 0 _ _ _ rfl).val rfl
      have p0_1 : wc.cell? ⟨w.heap.size, 1, none⟩ = some (.int .i64 la) := (BX.out.bl 0 _ _ _ rfl).val rfl
      have p0_2 : wc.cell? ⟨w.heap.size, 2, none⟩ = some (.int .i64 le) := (BX.out.bl 0 _ _ _ rfl).val rfl
      have z0 : ∀ k, wc.frozen? ⟨w.heap.size, k, none⟩ = false := (BX.out.bl 0 _ _ _ rfl).free
      have y0 : w.heap.size < wc.heap.size := (BX.out.bl 0 _ _ _ rfl).size
      have p1_0 : wc.cell? ⟨w.heap.size + 1, 0, none⟩ = some (.int .i64 sp) := (BX.out.bl 1 _ _ _ rfl).val rfl
      have p1_1 : wc.cell? ⟨w.heap.size + 1, 1, none⟩ = some (.int .i64 kp) := (BX.out.bl 1 _ _ _ rfl).val rfl
      have p1_2 : wc.cell? ⟨w.heap.size + 1, 2, none⟩ = some (.int .i64 ki) := (BX.out.bl 1 _ _ _ rfl).val rfl
      have p1_3 : wc.cell? ⟨w.heap.size + 1, 3, none⟩ = some (.int .i64 kd) := (BX.out.bl 1 _ _ _ rfl).val rfl
      have p1_4 : wc.cell? ⟨w.heap.size + 1, 4, none⟩ = some (.int .i64 li) := (BX.out.bl 1 _ _ _ rfl).val rfl
      have p1_5 : wc.cell? ⟨w.heap.size + 1, 5, none⟩ = some (.int .i64 st) := (BX.out.bl 1 _ _ _ rfl).val rfl
      have p1_6 : wc.cell? ⟨w.heap.size + 1, 6, none⟩ = some (.int .i64 mo) := (BX.out.bl 1 _ _ _ rfl).val rfl
      have z1 : ∀ k, wc.frozen? ⟨w.heap.size + 1, k, none⟩ = false := (BX.out.bl 1 _ _ _ rfl).free
      have y1 : w.heap.size + 1 < wc.heap.size := (BX.out.bl 1 _ _ _ rfl).size
      have p2_0 : wc.cell? ⟨w.heap.size + 1 + 1, 0, none⟩ = some (.int .i64 0) := (BX.out.bl 2 _ _ _ rfl).val rfl
      have p2_1 : wc.cell? ⟨w.heap.size + 1 + 1, 1, none⟩ = some (.int .i64 0) := (BX.out.bl 2 _ _ _ rfl).val rfl
      have p2_2 : wc.cell? ⟨w.heap.size + 1 + 1, 2, none⟩ = some (.int .i64 0) := (BX.out.bl 2 _ _ _ rfl).val rfl
      have z2 : ∀ k, wc.frozen? ⟨w.heap.size + 1 + 1, k, none⟩ = false := (BX.out.bl 2 _ _ _ rfl).free
      have y2 : w.heap.size + 1 + 1 < wc.heap.size := (BX.out.bl 2 _ _ _ rfl).size
      have p3_0 : wc.cell? ⟨x2.heap.size, 0, none⟩ = some (.int .i64 a3) := (BX.out.bl 3 _ _ _ rfl).val rfl
      have p3_1 : wc.cell? ⟨x2.heap.size, 1, none⟩ = some (.int .i64 d) := (BX.out.bl 3 _ _ _ rfl).val rfl
      have p3_2 : wc.cell? ⟨x2.heap.size, 2, none⟩ = some (.int .i64 0) := (BX.out.bl 3 _ _ _ rfl).val rfl
      have z3 : ∀ k, wc.frozen? ⟨x2.heap.size, k, none⟩ = false := (BX.out.bl 3 _ _ _ rfl).free
      have y3 : x2.heap.size < wc.heap.size := (BX.out.bl 3 _ _ _ rfl).size
      go_upto_region 12 with fail
      clear p0_0 p0_1 p0_2 z0 y0 p1_0 p1_1 p1_2 p1_3 p1_4 p1_5 p1_6 z1 y1 p2_0 p2_1 p2_2 z2 y2 p3_0 p3_1 p3_2 z3 y3
      refine wp_worldx (fun wx => Bxs w wx [(w.heap.size, 30, [.int .i64 su, .int .i64 la, .int .i64 le]), (w.heap.size + 1, 36, [.int .i64 sp, .int .i64 kp, .int .i64 ki, .int .i64 kd, .int .i64 li, .int .i64 st, .int .i64 mo]), (w.heap.size + 1 + 1, 30, [.int .i64 0, .int .i64 0, .int .i64 0]), (x2.heap.size, 30, [.int .i64 a3, .int .i64 d, .int .i64 le])]) ((BX.out).set_ 3 2 rfl _) ?_
      clear BX
      rintro x4 bx
      have BX := Lib.hid bx
      clear bx
      have p0_0 : x4.cell? ⟨w.heap.size, 0, none⟩ = some (.int .i64 su) := (BX.out.bl 0 _ _ _ rfl).val rfl
      have p0_1 : x4.cell? ⟨w.heap.size, 1, none⟩ = some (.int .i64 la) := (BX.out.bl 0 _ _ _ rfl).val rfl
      have p0_2 : x4.cell? ⟨w.heap.size, 2, none⟩ = some (.int .i64 le) := (BX.out.bl 0 _ _ _ rfl).val rfl
      have z0 : ∀ k, x4.frozen? ⟨w.heap.size, k, none⟩ = false := (BX.out.bl 0 _ _ _ rfl).free
      have y0 : w.heap.size < x4.heap.size := (BX.out.bl 0 _ _ _ rfl).size
      have p1_0 : x4.cell? ⟨w.heap.size + 1, 0, none⟩ = some (.int .i64 sp) := (BX.out.bl 1 _ _ _ rfl).val rfl
      have p1_1 : x4.cell? ⟨w.heap.size + 1, 1, none⟩ = some (.int .i64 kp) := (BX.out.bl 1 _ _ _ rfl).val rfl
      have p1_2 : x4.cell? ⟨w.heap.size + 1, 2, none⟩ = some (.int .i64 ki) := (BX.out.bl 1 _ _ _ rfl).val rfl
      have p1_3 : x4.cell? ⟨w.heap.size + 1, 3, none⟩ = some (.int .i64 kd) := (BX.out.bl 1 _ _ _ rfl).val rfl
      have p1_4 : x4.cell? ⟨w.heap.size + 1, 4, none⟩ = some (.int .i64 li) := (BX.out.bl 1 _ _ _ rfl).val rfl
      have p1_5 : x4.cell? ⟨w.heap.size + 1, 5, none⟩ = some (.int .i64 st) := (BX.out.bl 1 _ _ _ rfl).val rfl
      have p1_6 : x4.cell? ⟨w.heap.size + 1, 6, none⟩ = some (.int .i64 mo) := (BX.out.bl 1 _ _ _ rfl).val rfl
      have z1 : ∀ k, x4.frozen? ⟨w.heap.size + 1, k, none⟩ = false := (BX.out.bl 1 _ _ _ rfl).free
      have y1 : w.heap.size + 1 < x4.heap.size := (BX.out.bl 1 _ _ _ rfl).size
      have p2_0 : x4.cell? ⟨w.heap.size + 1 + 1, 0, none⟩ = some (.int .i64 0) := (BX.out.bl 2 _ _ _ rfl).val rfl
      have p2_1 : x4.cell? ⟨w.heap.size + 1 + 1, 1, none⟩ = some (.int .i64 0) := (BX.out.bl 2 _ _ _ rfl).val rfl
      have p2_2 : x4.cell? ⟨w.heap.size + 1 + 1, 2, none⟩ = some (.int .i64 0) := (BX.out.bl 2 _ _ _ rfl).val rfl
      have z2 : ∀ k, x4.frozen? ⟨w.heap.size + 1 + 1, k, none⟩ = false := (BX.out.bl 2 _ _ _ rfl).free
      have y2 : w.heap.size + 1 + 1 < x4.heap.size := (BX.out.bl 2 _ _ _ rfl).size
      have p3_0 : x4.cell? ⟨x2.heap.size, 0, none⟩ = some (.int .i64 a3) := (BX.out.bl 3 _ _ _ rfl).val rfl
      have p3_1 : x4.cell? ⟨x2.heap.size, 1, none⟩ = some (.int .i64 d) := (BX.out.bl 3 _ _ _ rfl).val rfl
      have p3_2 : x4.cell? ⟨x2.heap.size, 2, none⟩ = some (.int .i64 le) := (BX.out.bl 3 _ _ _ rfl).val rfl
      have z3 : ∀ k, x4.frozen? ⟨x2.heap.size, k, none⟩ = false := (BX.out.bl 3 _ _ _ rfl).free
      have y3 : x2.heap.size < x4.heap.size := (BX.out.bl 3 _ _ _ rfl).size
      go_wp2_with fail
      refine (rfloor02_any _ _ b80 b81).mono ?_
      rw [hf.out]
      rintro e x5 ⟨rfl, hb⟩
      have bx : Bxs w x5 [(w.heap.size, 30, [.int .i64 su, .int .i64 la, .int .i64 le]), (w.heap.size + 1, 36, [.int .i64 sp, .int .i64 kp, .int .i64 ki, .int .i64 kd, .int .i64 li, .int .i64 st, .int .i64 mo]), (w.heap.size + 1 + 1, 30, [.int .i64 0, .int .i64 0, .int .i64 0]), (x2.heap.size, 30, [.int .i64 a3, .int .i64 d, .int .i64 le])] := (BX.out).below hb
      clear p0_0 p0_1 p0_2 z0 y0 p1_0 p1_1 p1_2 p1_3 p1_4 p1_5 p1_6 z1 y1 p2_0 p2_1 p2_2 z2 y2 p3_0 p3_1 p3_2 z3 y3
      clear hb BX
      have BX := Lib.hid bx
      clear bx
      have p0_0 : x5.cell? ⟨w.heap.size, 0, none⟩ = some (.int .i64 su) := (BX.out.bl 0 _ _ _ rfl).val rfl
      have p0_1 : x5.cell? ⟨w.heap.size, 1, none⟩ = some (.int .i64 la) := (BX.out.bl 0 _ _ _ rfl).val rfl
      have p0_2 : x5.cell? ⟨w.heap.size, 2, none⟩ = some (.int .i64 le) := (BX.out.bl 0 _ _ _ rfl).val rfl
      have z0 : ∀ k, x5.frozen? ⟨w.heap.size, k, none⟩ = false := (BX.out.bl 0 _ _ _ rfl).free
      have y0 : w.heap.size < x5.heap.size := (BX.out.bl 0 _ _ _ rfl).size
      have p1_0 : x5.cell? ⟨w.heap.size + 1, 0, none⟩ = some (.int .i64 sp) := (BX.out.bl 1 _ _ _ rfl).val rfl
      have p1_1 : x5.cell? ⟨w.heap.size + 1, 1, none⟩ = some (.int .i64 kp) := (BX.out.bl 1 _ _ _ rfl).val rfl
      have p1_2 : x5.cell? ⟨w.heap.size + 1, 2, none⟩ = some (.int .i64 ki) := (BX.out.bl 1 _ _ _ rfl).val rfl
      have p1_3 : x5.cell? ⟨w.heap.size + 1, 3, none⟩ = some (.int .i64 kd) := (BX.out.bl 1 _ _ _ rfl).val rfl
      have p1_4 : x5.cell? ⟨w.heap.size + 1, 4, none⟩ = some (.int .i64 li) := (BX.out.bl 1 _ _ _ rfl).val rfl
      have p1_5 : x5.cell? ⟨w.heap.size + 1, 5, none⟩ = some (.int .i64 st) := (BX.out.bl 1 _ _ _ rfl).val rfl
      have p1_6 : x5.cell? ⟨w.heap.size + 1, 6, none⟩ = some (.int .i64 mo) := (BX.out.bl 1 _ _ _ rfl).val rfl
      have z1 : ∀ k, x5.frozen? ⟨w.heap.size + 1, k, none⟩ = false := (BX.out.bl 1 _ _ _ rfl).free
      have y1 : w.heap.size + 1 < x5.heap.size := (BX.out.bl 1 _ _ _ rfl).size
      have p2_0 : x5.cell? ⟨w.heap.size + 1 + 1, 0, none⟩ = some (.int .i64 0) := (BX.out.bl 2 _ _ _ rfl).val rfl
      have p2_1 : x5.cell? ⟨w.heap.size + 1 + 1, 1, none⟩ = some (.int .i64 0) := (BX.out.bl 2 _ _ _ rfl).val rfl
      have p2_2 : x5.cell? ⟨w.heap.size + 1 + 1, 2, none⟩ = some (.int .i64 0) := (BX.out.bl 2 _ _ _ rfl).val rfl
      have z2 : ∀ k, x5.frozen? ⟨w.heap.size + 1 + 1, k, none⟩ = false := (BX.out.bl 2 _ _ _ rfl).free
      have y2 : w.heap.size + 1 + 1 < x5.heap.size := (BX.out.bl 2 _ _ _ rfl).size
      have p3_0 : x5.cell? ⟨x2.heap.size, 0, none⟩ = some (.int .i64 a3) := (BX.out.bl 3 _ _ _ rfl).val rfl
      have p3_1 : x5.cell? ⟨x2.heap.size, 1, none⟩ = some (.int .i64 d) := (BX.out.bl 3 _ _ _ rfl).val rfl
      have p3_2 : x5.cell? ⟨x2.heap.size, 2, none⟩ = some (.int .i64 le) := (BX.out.bl 3 _ _ _ rfl).val rfl
      have z3 : ∀ k, x5.frozen? ⟨x2.heap.size, k, none⟩ = false := (BX.out.bl 3 _ _ _ rfl).free
      have y3 : x2.heap.size < x5.heap.size := (BX.out.bl 3 _ _ _ rfl).size
      go_wp2_with fail
      refine (radd02_any _ _ _ le0 le1 st0 st1).mono ?_
      rw [hm.out]
      rintro e x6 ⟨rfl, hb⟩
      have bx : Bxs w x6 [(w.heap.size, 30, [.int .i64 su, .int .i64 la, .int .i64 le]), (w.heap.size + 1, 36, [.int .i64 sp, .int .i64 kp, .int .i64 ki, .int .i64 kd, .int .i64 li, .int .i64 st, .int .i64 mo]), (w.heap.size + 1 + 1, 30, [.int .i64 0, .int .i64 0, .int .i64 0]), (x2.heap.size, 30, [.int .i64 a3, .int .i64 d, .int .i64 le])] := (BX.out).below hb
      clear p0_0 p0_1 p0_2 z0 y0 p1_0 p1_1 p1_2 p1_3 p1_4 p1_5 p1_6 z1 y1 p2_0 p2_1 p2_2 z2 y2 p3_0 p3_1 p3_2 z3 y3
      clear hb BX
      have BX := Lib.hid bx
      clear bx
      have p0_0 : x6.cell? ⟨w.heap.size, 0, none⟩ = some (.int .i64 su) := (BX.out.bl 0 _ _ _ rfl).val rfl
      have p0_1 : x6.cell? ⟨w.heap.size, 1, none⟩ = some (.int .i64 la) := (BX.out.bl 0 _ _ _ rfl).val rfl
      have p0_2 : x6.cell? ⟨w.heap.size, 2, none⟩ = some (.int .i64 le) := (BX.out.bl 0 _ _ _ rfl).val rfl
      have z0 : ∀ k, x6.frozen? ⟨w.heap.size, k, none⟩ = false := (BX.out.bl 0 _ _ _ rfl).free
      have y0 : w.heap.size < x6.heap.size := (BX.out.bl 0 _ _ _ rfl).size
      have p1_0 : x6.cell? ⟨w.heap.size + 1, 0, none⟩ = some (.int .i64 sp) := (BX.out.bl 1 _ _ _ rfl).val rfl
      have p1_1 : x6.cell? ⟨w.heap.size + 1, 1, none⟩ = some (.int .i64 kp) := (BX.out.bl 1 _ _ _ rfl).val rfl
      have p1_2 : x6.cell? ⟨w.heap.size + 1, 2, none⟩ = some (.int .i64 ki) := (BX.out.bl 1 _ _ _ rfl).val rfl
      have p1_3 : x6.cell? ⟨w.heap.size + 1, 3, none⟩ = some (.int .i64 kd) := (BX.out.bl 1 _ _ _ rfl).val rfl
      have p1_4 : x6.cell? ⟨w.heap.size + 1, 4, none⟩ = some (.int .i64 li) := (BX.out.bl 1 _ _ _ rfl).val rfl
      have p1_5 : x6.cell? ⟨w.heap.size + 1, 5, none⟩ = some (.int .i64 st) := (BX.out.bl 1 _ _ _ rfl).val rfl
      have p1_6 : x6.cell? ⟨w.heap.size + 1, 6, none⟩ = some (.int .i64 mo) := (BX.out.bl 1 _ _ _ rfl).val rfl
      have z1 : ∀ k, x6.frozen? ⟨w.heap.size + 1, k, none⟩ = false := (BX.out.bl 1 _ _ _ rfl).free
      have y1 : w.heap.size + 1 < x6.heap.size := (BX.out.bl 1 _ _ _ rfl).size
      have p2_0 : x6.cell? ⟨w.heap.size + 1 + 1, 0, none⟩ = some (.int .i64 0) := (BX.out.bl 2 _ _ _ rfl).val rfl
      have p2_1 : x6.cell? ⟨w.heap.size + 1 + 1, 1, none⟩ = some (.int .i64 0) := (BX.out.bl 2 _ _ _ rfl).val rfl
      have p2_2 : x6.cell? ⟨w.heap.size + 1 + 1, 2, none⟩ = some (.int .i64 0) := (BX.out.bl 2 _ _ _ rfl).val rfl
      have z2 : ∀ k, x6.frozen? ⟨w.heap.size + 1 + 1, k, none⟩ = false := (BX.out.bl 2 _ _ _ rfl).free
      have y2 : w.heap.size + 1 + 1 < x6.heap.size := (BX.out.bl 2 _ _ _ rfl).size
      have p3_0 : x6.cell? ⟨x2.heap.size, 0, none⟩ = some (.int .i64 a3) := (BX.out.bl 3 _ _ _ rfl).val rfl
      have p3_1 : x6.cell? ⟨x2.heap.size, 1, none⟩ = some (.int .i64 d) := (BX.out.bl 3 _ _ _ rfl).val rfl
      have p3_2 : x6.cell? ⟨x2.heap.size, 2, none⟩ = some (.int .i64 le) := (BX.out.bl 3 _ _ _ rfl).val rfl
      have z3 : ∀ k, x6.frozen? ⟨x2.heap.size, k, none⟩ = false := (BX.out.bl 3 _ _ _ rfl).free
      have y3 : x2.heap.size < x6.heap.size := (BX.out.bl 3 _ _ _ rfl).size
      go_upto_region 18 with fail
      clear p0_0 p0_1 p0_2 z0 y0 p1_0 p1_1 p1_2 p1_3 p1_4 p1_5 p1_6 z1 y1 p2_0 p2_1 p2_2 z2 y2 p3_0 p3_1 p3_2 z3 y3
      refine wp_worldx (fun wx => Bxs w wx [(w.heap.size, 30, [.int .i64 su, .int .i64 la, .int .i64 le]), (w.heap.size + 1, 36, [.int .i64 sp, .int .i64 kp, .int .i64 ki, .int .i64 kd, .int .i64 li, .int .i64 st, .int .i64 mo]), (w.heap.size + 1 + 1, 30, [.int .i64 0, .int .i64 0, .int .i64 0]), (x2.heap.size, 30, [.int .i64 a3, .int .i64 d, .int .i64 m])]) ((BX.out).set_ 3 2 rfl _) ?_
      clear BX
      rintro x7 bx
      have BX := Lib.hid bx
      clear bx
      have p0_0 : x7.cell? ⟨w.heap.size, 0, none⟩ = some (.int .i64 su) := (BX.out.bl 0 _ _ _ rfl).val rfl
      have p0_1 : x7.cell? ⟨w.heap.size, 1, none⟩ = some (.int .i64 la) := (BX.out.bl 0 _ _ _ rfl).val rfl
      have p0_2 : x7.cell? ⟨w.heap.size, 2, none⟩ = some (.int .i64 le) := (BX.out.bl 0 _ _ _ rfl).val rfl
      have z0 : ∀ k, x7.frozen? ⟨w.heap.size, k, none⟩ = false := (BX.out.bl 0 _ _ _ rfl).free
      have y0 : w.heap.size < x7.heap.size := (BX.out.bl 0 _ _ _ rfl).size
      have p1_0 : x7.cell? ⟨w.heap.size + 1, 0, none⟩ = some (.int .i64 sp) := (BX.out.bl 1 _ _ _ rfl).val rfl
      have p1_1 : x7.cell? ⟨w.heap.size + 1, 1, none⟩ = some (.int .i64 kp) := (BX.out.bl 1 _ _ _ rfl).val rfl
      have p1_2 : x7.cell? ⟨w.heap.size + 1, 2, none⟩ = some (.int .i64 ki) := (BX.out.bl 1 _ _ _ rfl).val rfl
      have p1_3 : x7.cell? ⟨w.heap.size + 1, 3, none⟩ = some (.int .i64 kd) := (BX.out.bl 1 _ _ _ rfl).val rfl
      have p1_4 : x7.cell? ⟨w.heap.size + 1, 4, none⟩ = some (.int .i64 li) := (BX.out.bl 1 _ _ _ rfl).val rfl
      have p1_5 : x7.cell? ⟨w.heap.size + 1, 5, none⟩ = some (.int .i64 st) := (BX.out.bl 1 _ _ _ rfl).val rfl
      have p1_6 : x7.cell? ⟨w.heap.size + 1, 6, none⟩ = some (.int .i64 mo) := (BX.out.bl 1 _ _ _ rfl).val rfl
      have z1 : ∀ k, x7.frozen? ⟨w.heap.size + 1, k, none⟩ = false := (BX.out.bl 1 _ _ _ rfl).free
      have y1 : w.heap.size + 1 < x7.heap.size := (BX.out.bl 1 _ _ _ rfl).size
      have p2_0 : x7.cell? ⟨w.heap.size + 1 + 1, 0, none⟩ = some (.int .i64 0) := (BX.out.bl 2 _ _ _ rfl).val rfl
      have p2_1 : x7.cell? ⟨w.heap.size + 1 + 1, 1, none⟩ = some (.int .i64 0) := (BX.out.bl 2 _ _ _ rfl).val rfl
      have p2_2 : x7.cell? ⟨w.heap.size + 1 + 1, 2, none⟩ = some (.int .i64 0) := (BX.out.bl 2 _ _ _ rfl).val rfl
      have z2 : ∀ k, x7.frozen? ⟨w.heap.size + 1 + 1, k, none⟩ = false := (BX.out.bl 2 _ _ _ rfl).free
      have y2 : w.heap.size + 1 + 1 < x7.heap.size := (BX.out.bl 2 _ _ _ rfl).size
      have p3_0 : x7.cell? ⟨x2.heap.size, 0, none⟩ = some (.int .i64 a3) := (BX.out.bl 3 _ _ _ rfl).val rfl
      have p3_1 : x7.cell? ⟨x2.heap.size, 1, none⟩ = some (.int .i64 d) := (BX.out.bl 3 _ _ _ rfl).val rfl
      have p3_2 : x7.cell? ⟨x2.heap.size, 2, none⟩ = some (.int .i64 m) := (BX.out.bl 3 _ _ _ rfl).val rfl
      have z3 : ∀ k, x7.frozen? ⟨x2.heap.size, k, none⟩ = false := (BX.out.bl 3 _ _ _ rfl).free
      have y3 : x2.heap.size < x7.heap.size := (BX.out.bl 3 _ _ _ rfl).size
      go_wp2_with fail
      refine (rclamp_any _ _ _ _).mono ?_
      rintro e x8 ⟨rfl, rfl⟩
      go_wp2_with fail
      refine bodyPost_ret (v := .agg #[.int .i64 a3, .int .i64 d, .int .i64 (clampN m 0 mo)]) (by simp [results, Try.results12, go_sem, *]) rfl ⟨rfl, ?_⟩
      exact (((((BX.out).set_ 3 2 rfl _).set_ 2 0 rfl _).set_ 2 1 rfl _).set_ 2 2 rfl _).be
set_option maxRecDepth 100000 in
set_option maxHeartbeats 4000000 in
theorem rrise_np (su la le sp kp ki kd li st mo u d a1 a2 a3 a4 a5 a6 a7 a8 f m : Int) (hc : ¬ u ≤ sp) (hd : Hid (sat (u - sp) = d)) (h1 : Hid (sat (prodN ki d) = a1)) (h2 : Hid (sat (su + a1) = a2)) (h3 : Hid (clampN a2 0 li = a3)) (h4 : Hid (sat (prodN kp d) = a4)) (h5 : Hid (sat (a4 + a3) = a5)) (h6 : Hid (sat (d - la) = a6)) (h7 : Hid (sat (prodN kd a6) = a7)) (h8 : Hid (sat (a5 + a7) = a8)) (hf : Hid (a8 / 4294967296 = f)) (hm : Hid (sat (le + st) = m)) (hg : ¬ le < f) (ho : ¬ m < le) (w : World) (su0 : -9223372036854775808 ≤ su) (su1 : su ≤ 9223372036854775807) (la0 : -9223372036854775808 ≤ la) (la1 : la ≤ 9223372036854775807) (le0 : -9223372036854775808 ≤ le) (le1 : le ≤ 9223372036854775807) (sp0 : -9223372036854775808 ≤ sp) (sp1 : sp ≤ 9223372036854775807) (kp0 : -9223372036854775808 ≤ kp) (kp1 : kp ≤ 9223372036854775807) (ki0 : -9223372036854775808 ≤ ki) (ki1 : ki ≤ 9223372036854775807) (kd0 : -9223372036854775808 ≤ kd) (kd1 : kd ≤ 9223372036854775807) (li0 : -9223372036854775808 ≤ li) (li1 : li ≤ 9223372036854775807) (st0 : -9223372036854775808 ≤ st) (st1 : st ≤ 9223372036854775807) (mo0 : -9223372036854775808 ≤ mo) (mo1 : mo ≤ 9223372036854775807) (u0 : -9223372036854775808 ≤ u) (u1 : u ≤ 9223372036854775807) (d0 : -9223372036854775808 ≤ d) (d1 : d ≤ 9223372036854775807) (b10 : -9223372036854775808 ≤ a1) (b11 : a1 ≤ 9223372036854775807) (b20 : -9223372036854775808 ≤ a2) (b21 : a2 ≤ 9223372036854775807) (b30 : -9223372036854775808 ≤ a3) (b31 : a3 ≤ 9223372036854775807) (b40 : -9223372036854775808 ≤ a4) (b41 : a4 ≤ 9223372036854775807) (b50 : -9223372036854775808 ≤ a5) (b51 : a5 ≤ 9223372036854775807) (b60 : -9223372036854775808 ≤ a6) (b61 : a6 ≤ 9223372036854775807) (b70 : -9223372036854775808 ≤ a7) (b71 : a7 ≤ 9223372036854775807) (b80 : -9223372036854775808 ≤ a8) (b81 : a8 ≤ 9223372036854775807) :
    Calls Try.prog 12 #[.agg #[.int .i64 su, .int .i64 la, .int .i64 le], .agg #[.int .i64 sp, .int .i64 kp, .int .i64 ki, .int .i64 kd, .int .i64 li, .int .i64 st, .int .i64 mo], .int .i64 u] w fun e w' => e = .returned (.agg #[.int .i64 a3, .int .i64 d, .int .i64 (clampN le 0 mo)]) ∧ Below w.heap.size w w' := by
  go_enter Try.func12, Try.ntmps12
  go_upto_region 1 with fail
  refine wp_worldx (fun wx => Bxs w wx [(w.heap.size, 30, [.int .i64 su, .int .i64 la, .int .i64 le]), (w.heap.size + 1, 36, [.int .i64 sp, .int .i64 kp, .int .i64 ki, .int .i64 kd, .int .i64 li, .int .i64 st, .int .i64 mo]), (w.heap.size + 1 + 1, 30, [.int .i64 0, .int .i64 0, .int .i64 0])]) ((((Bxs.nil_ w).alloc_ _ _ (by simp)).alloc_ _ _ (by simp)).alloc_ _ _ (by simp)) ?_
  rintro x1 bx
  have BX := Lib.hid bx
  clear bx
  have p0_0 : x1.cell? ⟨w.heap.size, 0, none⟩ = some (.int .i64 su) := (BX.out.bl 0 _ _ _ rfl).val rfl
  have p0_1 : x1.cell? ⟨w.heap.size, 1, none⟩ = some (.int .i64 la) := (BX.out.bl 0 _ _ _ rfl).val rfl
  have p0_2 : x1.cell? ⟨w.heap.size, 2, none⟩ = some (.int .i64 le) := (BX.out.bl 0 _ _ _ rfl).val rfl
  have z0 : ∀ k, x1.frozen? ⟨w.heap.size, k, none⟩ = false := (BX.out.bl 0 _ _ _ rfl).free
  have y0 : w.heap.size < x1.heap.size := (BX.out.bl 0 _ _ _ rfl).size
  have p1_0 : x1.cell? ⟨w.heap.size + 1, 0, none⟩ = some (.int .i64 sp) := (BX.out.bl 1 _ _ _ rfl).val rfl
  have p1_1 : x1.cell? ⟨w.heap.size + 1, 1, none⟩ = some (.int .i64 kp) := (BX.out.bl 1 _ _ _ rfl).val rfl
  have p1_2 : x1.cell? ⟨w.heap.size + 1, 2, none⟩ = some (.int .i64 ki) := (BX.out.bl 1 _ _ _ rfl).val rfl
  have p1_3 : x1.cell? ⟨w.heap.size + 1, 3, none⟩ = some (.int .i64 kd) := (BX.out.bl 1 _ _ _ rfl).val rfl
  have p1_4 : x1.cell? ⟨w.heap.size + 1, 4, none⟩ = some (.int .i64 li) := (BX.out.bl 1 _ _ _ rfl).val rfl
  have p1_5 : x1.cell? ⟨w.heap.size + 1, 5, none⟩ = some (.int .i64 st) := (BX.out.bl 1 _ _ _ rfl).val rfl
  have p1_6 : x1.cell? ⟨w.heap.size + 1, 6, none⟩ = some (.int .i64 mo) := (BX.out.bl 1 _ _ _ rfl).val rfl
  have z1 : ∀ k, x1.frozen? ⟨w.heap.size + 1, k, none⟩ = false := (BX.out.bl 1 _ _ _ rfl).free
  have y1 : w.heap.size + 1 < x1.heap.size := (BX.out.bl 1 _ _ _ rfl).size
  have p2_0 : x1.cell? ⟨w.heap.size + 1 + 1, 0, none⟩ = some (.int .i64 0) := (BX.out.bl 2 _ _ _ rfl).val rfl
  have p2_1 : x1.cell? ⟨w.heap.size + 1 + 1, 1, none⟩ = some (.int .i64 0) := (BX.out.bl 2 _ _ _ rfl).val rfl
  have p2_2 : x1.cell? ⟨w.heap.size + 1 + 1, 2, none⟩ = some (.int .i64 0) := (BX.out.bl 2 _ _ _ rfl).val rfl
  have z2 : ∀ k, x1.frozen? ⟨w.heap.size + 1 + 1, k, none⟩ = false := (BX.out.bl 2 _ _ _ rfl).free
  have y2 : w.heap.size + 1 + 1 < x1.heap.size := (BX.out.bl 2 _ _ _ rfl).size
  go_wp2_with fail
  refine (rsub02_any _ _ _ u0 u1 sp0 sp1).mono ?_
  rw [hd.out]
  rintro e x2 ⟨rfl, hb⟩
  have bx : Bxs w x2 [(w.heap.size, 30, [.int .i64 su, .int .i64 la, .int .i64 le]), (w.heap.size + 1, 36, [.int .i64 sp, .int .i64 kp, .int .i64 ki, .int .i64 kd, .int .i64 li, .int .i64 st, .int .i64 mo]), (w.heap.size + 1 + 1, 30, [.int .i64 0, .int .i64 0, .int .i64 0])] := (BX.out).below hb
  clear p0_0 p0_1 p0_2 z0 y0 p1_0 p1_1 p1_2 p1_3 p1_4 p1_5 p1_6 z1 y1 p2_0 p2_1 p2_2 z2 y2
  clear hb BX
  have BX := Lib.hid bx
  clear bx
  have p0_0 : x2.cell? ⟨w.heap.size, 0, none⟩ = some (.int .i64 su) := (BX.out.bl 0 _ _ _ rfl).val rfl
  have p0_1 : x2.cell? ⟨w.heap.size, 1, none⟩ = some (.int .i64 la) := (BX.out.bl 0 _ _ _ rfl).val rfl
  have p0_2 : x2.cell? ⟨w.heap.size, 2, none⟩ = some (.int .i64 le) := (BX.out.bl 0 _ _ _ rfl).val rfl
  have z0 : ∀ k, x2.frozen? ⟨w.heap.size, k, none⟩ = false := (BX.out.bl 0 _ _ _ rfl).free
  have y0 : w.heap.size < x2.heap.size := (BX.out.bl 0 _ _ _ rfl).size
  have p1_0 : x2.cell? ⟨w.heap.size + 1, 0, none⟩ = some (.int .i64 sp) := (BX.out.bl 1 _ _ _ rfl).val rfl
  have p1_1 : x2.cell? ⟨w.heap.size + 1, 1, none⟩ = some (.int .i64 kp) := (BX.out.bl 1 _ _ _ rfl).val rfl
  have p1_2 : x2.cell? ⟨w.heap.size + 1, 2, none⟩ = some (.int .i64 ki) := (BX.out.bl 1 _ _ _ rfl).val rfl
  have p1_3 : x2.cell? ⟨w.heap.size + 1, 3, none⟩ = some (.int .i64 kd) := (BX.out.bl 1 _ _ _ rfl).val rfl
  have p1_4 : x2.cell? ⟨w.heap.size + 1, 4, none⟩ = some (.int .i64 li) := (BX.out.bl 1 _ _ _ rfl).val rfl
  have p1_5 : x2.cell? ⟨w.heap.size + 1, 5, none⟩ = some (.int .i64 st) := (BX.out.bl 1 _ _ _ rfl).val rfl
  have p1_6 : x2.cell? ⟨w.heap.size + 1, 6, none⟩ = some (.int .i64 mo) := (BX.out.bl 1 _ _ _ rfl).val rfl
  have z1 : ∀ k, x2.frozen? ⟨w.heap.size + 1, k, none⟩ = false := (BX.out.bl 1 _ _ _ rfl).free
  have y1 : w.heap.size + 1 < x2.heap.size := (BX.out.bl 1 _ _ _ rfl).size
  have p2_0 : x2.cell? ⟨w.heap.size + 1 + 1, 0, none⟩ = some (.int .i64 0) := (BX.out.bl 2 _ _ _ rfl).val rfl
  have p2_1 : x2.cell? ⟨w.heap.size + 1 + 1, 1, none⟩ = some (.int .i64 0) := (BX.out.bl 2 _ _ _ rfl).val rfl
  have p2_2 : x2.cell? ⟨w.heap.size + 1 + 1, 2, none⟩ = some (.int .i64 0) := (BX.out.bl 2 _ _ _ rfl).val rfl
  have z2 : ∀ k, x2.frozen? ⟨w.heap.size + 1 + 1, k, none⟩ = false := (BX.out.bl 2 _ _ _ rfl).free
  have y2 : w.heap.size + 1 + 1 < x2.heap.size := (BX.out.bl 2 _ _ _ rfl).size
  have gz := y2
  go_upto_region 3 with fail
  clear p0_0 p0_1 p0_2 z0 y0 p1_0 p1_1 p1_2 p1_3 p1_4 p1_5 p1_6 z1 y1 p2_0 p2_1 p2_2 z2 y2
  refine wp_worldx (fun wx => Bxs w wx [(w.heap.size, 30, [.int .i64 su, .int .i64 la, .int .i64 le]), (w.heap.size + 1, 36, [.int .i64 sp, .int .i64 kp, .int .i64 ki, .int .i64 kd, .int .i64 li, .int .i64 st, .int .i64 mo]), (w.heap.size + 1 + 1, 30, [.int .i64 0, .int .i64 0, .int .i64 0]), (x2.heap.size, 30, [.int .i64 0, .int .i64 d, .int .i64 0])]) ((BX.out).alloc_ _ _ (by simp)) ?_
  clear BX
  rintro x3 bx
  have BX := Lib.hid bx
  clear bx
  have p0_0 : x3.cell? ⟨w.heap.size, 0, none⟩ = some (.int .i64 su) := (BX.out.bl 0 _ _ _ rfl).val rfl
  have p0_1 : x3.cell? ⟨w.heap.size, 1, none⟩ = some (.int .i64 la) := (BX.out.bl 0 _ _ _ rfl).val rfl
  have p0_2 : x3.cell? ⟨w.heap.size, 2, none⟩ = some (.int .i64 le) := (BX.out.bl 0 _ _ _ rfl).val rfl
  have z0 : ∀ k, x3.frozen? ⟨w.heap.size, k, none⟩ = false := (BX.out.bl 0 _ _ _ rfl).free
  have y0 : w.heap.size < x3.heap.size := (BX.out.bl 0 _ _ _ rfl).size
  have p1_0 : x3.cell? ⟨w.heap.size + 1, 0, none⟩ = some (.int .i64 sp) := (BX.out.bl 1 _ _ _ rfl).val rfl
  have p1_1 : x3.cell? ⟨w.heap.size + 1, 1, none⟩ = some (.int .i64 kp) := (BX.out.bl 1 _ _ _ rfl).val rfl
  have p1_2 : x3.cell? ⟨w.heap.size + 1, 2, none⟩ = some (.int .i64 ki) := (BX.out.bl 1 _ _ _ rfl).val rfl
  have p1_3 : x3.cell? ⟨w.heap.size + 1, 3, none⟩ = some (.int .i64 kd) := (BX.out.bl 1 _ _ _ rfl).val rfl
  have p1_4 : x3.cell? ⟨w.heap.size + 1, 4, none⟩ = some (.int .i64 li) := (BX.out.bl 1 _ _ _ rfl).val rfl
  have p1_5 : x3.cell? ⟨w.heap.size + 1, 5, none⟩ = some (.int .i64 st) := (BX.out.bl 1 _ _ _ rfl).val rfl
  have p1_6 : x3.cell? ⟨w.heap.size + 1, 6, none⟩ = some (.int .i64 mo) := (BX.out.bl 1 _ _ _ rfl).val rfl
  have z1 : ∀ k, x3.frozen? ⟨w.heap.size + 1, k, none⟩ = false := (BX.out.bl 1 _ _ _ rfl).free
  have y1 : w.heap.size + 1 < x3.heap.size := (BX.out.bl 1 _ _ _ rfl).size
  have p2_0 : x3.cell? ⟨w.heap.size + 1 + 1, 0, none⟩ = some (.int .i64 0) := (BX.out.bl 2 _ _ _ rfl).val rfl
  have p2_1 : x3.cell? ⟨w.heap.size + 1 + 1, 1, none⟩ = some (.int .i64 0) := (BX.out.bl 2 _ _ _ rfl).val rfl
  have p2_2 : x3.cell? ⟨w.heap.size + 1 + 1, 2, none⟩ = some (.int .i64 0) := (BX.out.bl 2 _ _ _ rfl).val rfl
  have z2 : ∀ k, x3.frozen? ⟨w.heap.size + 1 + 1, k, none⟩ = false := (BX.out.bl 2 _ _ _ rfl).free
  have y2 : w.heap.size + 1 + 1 < x3.heap.size := (BX.out.bl 2 _ _ _ rfl).size
  have p3_0 : x3.cell? ⟨x2.heap.size, 0, none⟩ = some (.int .i64 0) := (BX.out.bl 3 _ _ _ rfl).val rfl
  have p3_1 : x3.cell? ⟨x2.heap.size, 1, none⟩ = some (.int .i64 d) := (BX.out.bl 3 _ _ _ rfl).val rfl
  have p3_2 : x3.cell? ⟨x2.heap.size, 2, none⟩ = some (.int .i64 0) := (BX.out.bl 3 _ _ _ rfl).val rfl
  have z3 : ∀ k, x3.frozen? ⟨x2.heap.size, k, none⟩ = false := (BX.out.bl 3 _ _ _ rfl).free
  have y3 : x2.heap.size < x3.heap.size := (BX.out.bl 3 _ _ _ rfl).size
  go_upto_region 9 with fail
  go_cut [] (fun  wx =>  Bxs w wx [(w.heap.size, 30, [.int .i64 su, .int .i64 la, .int .i64 le]), (w.heap.size + 1, 36, [.int .i64 sp, .int .i64 kp, .int .i64 ki, .int .i64 kd, .int .i64 li, .int .i64 st, .int .i64 mo]), (w.heap.size + 1 + 1, 30, [.int .i64 0, .int .i64 0, .int .i64 0]), (x2.heap.size, 30, [.int .i64 a3, .int .i64 d, .int .i64 0])])
  case first =>
    go_region_held3 (fun w' => w'.cell? ⟨w.heap.size, 0, none⟩ = some (.int .i64 su) ∧ w'.cell? ⟨w.heap.size + 1, 2, none⟩ = some (.int .i64 ki) ∧ w'.cell? ⟨w.heap.size + 1, 4, none⟩ = some (.int .i64 li)) (repeat (first | with_reducible assumption | refine ⟨?_, ?_⟩ | with_reducible refine kdrew ?_ | with_reducible refine kalloc ?_ _ | with_reducible refine kother ?_ (by simp; try omega))) (first | (go_at_call 22; refine (rof02_any _ _ _ (by omega) (by omega) (by omega) (by omega)).mono ?_; (rw [h1.out]); rintro e wn ⟨rfl, hbn⟩; have bx : Bxs w wn [(w.heap.size, 30, [.int .i64 su, .int .i64 la, .int .i64 le]), (w.heap.size + 1, 36, [.int .i64 sp, .int .i64 kp, .int .i64 ki, .int .i64 kd, .int .i64 li, .int .i64 st, .int .i64 mo]), (w.heap.size + 1 + 1, 30, [.int .i64 0, .int .i64 0, .int .i64 0]), (x2.heap.size, 30, [.int .i64 0, .int .i64 d, .int .i64 0])] := (by first | exact BX.out.below hbn | exact BX.out.drew_.below hbn | exact (BX.out.drewN_ _).below hbn); clear hbn BX p0_0 p0_1 p0_2 z0 y0 p1_0 p1_1 p1_2 p1_3 p1_4 p1_5 p1_6 z1 y1 p2_0 p2_1 p2_2 z2 y2 p3_0 p3_1 p3_2 z3 y3; have BX := Lib.hid bx; clear bx; have p0_0 : wn.cell? ⟨w.heap.size, 0, none⟩ = some (.int .i64 su) := (BX.out.bl 0 _ _ _ rfl).val rfl; have p0_1 : wn.cell? ⟨w.heap.size, 1, none⟩ = some (.int .i64 la) := (BX.out.bl 0 _ _ _ rfl).val rfl; have p0_2 : wn.cell? ⟨w.heap.size, 2, none⟩ = some (.int .i64 le) := (BX.out.bl 0 _ _ _ rfl).val rfl; have z0 : ∀ k, wn.frozen? ⟨w.heap.size, k, none⟩ = false := (BX.out.bl 0 _ _ _ rfl).free; have y0 : w.heap.size < wn.heap.size := (BX.out.bl 0 _ _ _ rfl).size; have p1_0 : wn.cell? ⟨w.heap.size + 1, 0, none⟩ = some (.int .i64 sp) := (BX.out.bl 1 _ _ _ rfl).val rfl; have p1_1 : wn.cell? ⟨w.heap.size + 1, 1, none⟩ = some (.int .i64 kp) := (BX.out.bl 1 _ _ _ rfl).val rfl; have p1_2 : wn.cell? ⟨w.heap.size + 1, 2, none⟩ = some (.int .i64 ki) := (BX.out.bl 1 _ _ _ rfl).val rfl; have p1_3 : wn.cell? ⟨w.heap.size + 1, 3, none⟩ = some (.int .i64 kd) := (BX.out.bl 1 _ _ _ rfl).val rfl; have p1_4 : wn.cell? ⟨w.heap.size + 1, 4, none⟩ = some (.int .i64 li) := (BX.out.bl 1 _ _ _ rfl).val rfl; have p1_5 : wn.cell? ⟨w.heap.size + 1, 5, none⟩ = some (.int .i64 st) := (BX.out.bl 1 _ _ _ rfl).val rfl; have p1_6 : wn.cell? ⟨w.heap.size + 1, 6, none⟩ = some (.int .i64 mo) := (BX.out.bl 1 _ _ _ rfl).val rfl; have z1 : ∀ k, wn.frozen? ⟨w.heap.size + 1, k, none⟩ = false := (BX.out.bl 1 _ _ _ rfl).free; have y1 : w.heap.size + 1 < wn.heap.size := (BX.out.bl 1 _ _ _ rfl).size; have p2_0 : wn.cell? ⟨w.heap.size + 1 + 1, 0, none⟩ = some (.int .i64 0) := (BX.out.bl 2 _ _ _ rfl).val rfl; have p2_1 : wn.cell? ⟨w.heap.size + 1 + 1, 1, none⟩ = some (.int .i64 0) := (BX.out.bl 2 _ _ _ rfl).val rfl; have p2_2 : wn.cell? ⟨w.heap.size + 1 + 1, 2, none⟩ = some (.int .i64 0) := (BX.out.bl 2 _ _ _ rfl).val rfl; have z2 : ∀ k, wn.frozen? ⟨w.heap.size + 1 + 1, k, none⟩ = false := (BX.out.bl 2 _ _ _ rfl).free; have y2 : w.heap.size + 1 + 1 < wn.heap.size := (BX.out.bl 2 _ _ _ rfl).size; have p3_0 : wn.cell? ⟨x2.heap.size, 0, none⟩ = some (.int .i64 0) := (BX.out.bl 3 _ _ _ rfl).val rfl; have p3_1 : wn.cell? ⟨x2.heap.size, 1, none⟩ = some (.int .i64 d) := (BX.out.bl 3 _ _ _ rfl).val rfl; have p3_2 : wn.cell? ⟨x2.heap.size, 2, none⟩ = some (.int .i64 0) := (BX.out.bl 3 _ _ _ rfl).val rfl; have z3 : ∀ k, wn.frozen? ⟨x2.heap.size, k, none⟩ = false := (BX.out.bl 3 _ _ _ rfl).free; have y3 : x2.heap.size < wn.heap.size := (BX.out.bl 3 _ _ _ rfl).size) | (go_at_call 24; refine (radd02_any _ _ _ (by omega) (by omega) (by omega) (by omega)).mono ?_; (rw [h2.out]); rintro e wn ⟨rfl, hbn⟩; have bx : Bxs w wn [(w.heap.size, 30, [.int .i64 su, .int .i64 la, .int .i64 le]), (w.heap.size + 1, 36, [.int .i64 sp, .int .i64 kp, .int .i64 ki, .int .i64 kd, .int .i64 li, .int .i64 st, .int .i64 mo]), (w.heap.size + 1 + 1, 30, [.int .i64 0, .int .i64 0, .int .i64 0]), (x2.heap.size, 30, [.int .i64 0, .int .i64 d, .int .i64 0])] := (by first | exact BX.out.below hbn | exact BX.out.drew_.below hbn | exact (BX.out.drewN_ _).below hbn); clear hbn BX p0_0 p0_1 p0_2 z0 y0 p1_0 p1_1 p1_2 p1_3 p1_4 p1_5 p1_6 z1 y1 p2_0 p2_1 p2_2 z2 y2 p3_0 p3_1 p3_2 z3 y3; have BX := Lib.hid bx; clear bx; have p0_0 : wn.cell? ⟨w.heap.size, 0, none⟩ = some (.int .i64 su) := (BX.out.bl 0 _ _ _ rfl).val rfl; have p0_1 : wn.cell? ⟨w.heap.size, 1, none⟩ = some (.int .i64 la) := (BX.out.bl 0 _ _ _ rfl).val rfl; have p0_2 : wn.cell? ⟨w.heap.size, 2, none⟩ = some (.int .i64 le) := (BX.out.bl 0 _ _ _ rfl).val rfl; have z0 : ∀ k, wn.frozen? ⟨w.heap.size, k, none⟩ = false := (BX.out.bl 0 _ _ _ rfl).free; have y0 : w.heap.size < wn.heap.size := (BX.out.bl 0 _ _ _ rfl).size; have p1_0 : wn.cell? ⟨w.heap.size + 1, 0, none⟩ = some (.int .i64 sp) := (BX.out.bl 1 _ _ _ rfl).val rfl; have p1_1 : wn.cell? ⟨w.heap.size + 1, 1, none⟩ = some (.int .i64 kp) := (BX.out.bl 1 _ _ _ rfl).val rfl; have p1_2 : wn.cell? ⟨w.heap.size + 1, 2, none⟩ = some (.int .i64 ki) := (BX.out.bl 1 _ _ _ rfl).val rfl; have p1_3 : wn.cell? ⟨w.heap.size + 1, 3, none⟩ = some (.int .i64 kd) := (BX.out.bl 1 _ _ _ rfl).val rfl; have p1_4 : wn.cell? ⟨w.heap.size + 1, 4, none⟩ = some (.int .i64 li) := (BX.out.bl 1 _ _ _ rfl).val rfl; have p1_5 : wn.cell? ⟨w.heap.size + 1, 5, none⟩ = some (.int .i64 st) := (BX.out.bl 1 _ _ _ rfl).val rfl; have p1_6 : wn.cell? ⟨w.heap.size + 1, 6, none⟩ = some (.int .i64 mo) := (BX.out.bl 1 _ _ _ rfl).val rfl; have z1 : ∀ k, wn.frozen? ⟨w.heap.size + 1, k, none⟩ = false := (BX.out.bl 1 _ _ _ rfl).free; have y1 : w.heap.size + 1 < wn.heap.size := (BX.out.bl 1 _ _ _ rfl).size; have p2_0 : wn.cell? ⟨w.heap.size + 1 + 1, 0, none⟩ = some (.int .i64 0) := (BX.out.bl 2 _ _ _ rfl).val rfl; have p2_1 : wn.cell? ⟨w.heap.size + 1 + 1, 1, none⟩ = some (.int .i64 0) := (BX.out.bl 2 _ _ _ rfl).val rfl; have p2_2 : wn.cell? ⟨w.heap.size + 1 + 1, 2, none⟩ = some (.int .i64 0) := (BX.out.bl 2 _ _ _ rfl).val rfl; have z2 : ∀ k, wn.frozen? ⟨w.heap.size + 1 + 1, k, none⟩ = false := (BX.out.bl 2 _ _ _ rfl).free; have y2 : w.heap.size + 1 + 1 < wn.heap.size := (BX.out.bl 2 _ _ _ rfl).size; have p3_0 : wn.cell? ⟨x2.heap.size, 0, none⟩ = some (.int .i64 0) := (BX.out.bl 3 _ _ _ rfl).val rfl; have p3_1 : wn.cell? ⟨x2.heap.size, 1, none⟩ = some (.int .i64 d) := (BX.out.bl 3 _ _ _ rfl).val rfl; have p3_2 : wn.cell? ⟨x2.heap.size, 2, none⟩ = some (.int .i64 0) := (BX.out.bl 3 _ _ _ rfl).val rfl; have z3 : ∀ k, wn.frozen? ⟨x2.heap.size, k, none⟩ = false := (BX.out.bl 3 _ _ _ rfl).free; have y3 : x2.heap.size < wn.heap.size := (BX.out.bl 3 _ _ _ rfl).size) | (go_at_call 23; refine (rclamp_any _ _ _ _).mono ?_; (rw [h3.out]); rintro e wn ⟨rfl, rfl⟩))
    all_goals (go_wp2_with fail; go_meet; exact (by first | exact (BX.out).set_ 3 0 rfl _ | exact (BX.out.drew_).set_ 3 0 rfl _ | exact ((BX.out.drewN_ _)).set_ 3 0 rfl _ | exact ((BX.out).set_ 3 0 rfl _).drew_))
  case rest =>
    clear p0_0 p0_1 p0_2 z0 y0 p1_0 p1_1 p1_2 p1_3 p1_4 p1_5 p1_6 z1 y1 p2_0 p2_1 p2_2 z2 y2 p3_0 p3_1 p3_2 z3 y3
    have bx := hcut
    clear hcut BX
    have hx := bx
    clear bx
    go_upto_region 10 with fail
    have bx := hx
    clear hx
    have BX := Lib.hid bx
    clear bx
    have p0_0 : wc.cell? ⟨w.heap.size, 0, none⟩ = some (.int .i64 su) := (BX.out.bl 0 _ _ _ rfl).val rfl
    have p0_1 : wc.cell? ⟨w.heap.size, 1, none⟩ = some (.int .i64 la) := (BX.out.bl 0 _ _ _ rfl).val rfl
    have p0_2 : wc.cell? ⟨w.heap.size, 2, none⟩ = some (.int .i64 le) := (BX.out.bl 0 _ _ _ rfl).val rfl
    have z0 : ∀ k, wc.frozen? ⟨w.heap.size, k, none⟩ = false := (BX.out.bl 0 _ _ _ rfl).free
    have y0 : w.heap.size < wc.heap.size := (BX.out.bl 0 _ _ _ rfl).size
    have p1_0 : wc.cell? ⟨w.heap.size + 1, 0, none⟩ = some (.int .i64 sp) := (BX.out.bl 1 _ _ _ rfl).val rfl
    have p1_1 : wc.cell? ⟨w.heap.size + 1, 1, none⟩ = some (.int .i64 kp) := (BX.out.bl 1 _ _ _ rfl).val rfl
    have p1_2 : wc.cell? ⟨w.heap.size + 1, 2, none⟩ = some (.int .i64 ki) := (BX.out.bl 1 _ _ _ rfl).val rfl
    have p1_3 : wc.cell? ⟨w.heap.size + 1, 3, none⟩ = some (.int .i64 kd) := (BX.out.bl 1 _ _ _ rfl).val rfl
    have p1_4 : wc.cell? ⟨w.heap.size + 1, 4, none⟩ = some (.int .i64 li) := (BX.out.bl 1 _ _ _ rfl).val rfl
    have p1_5 : wc.cell? ⟨w.heap.size + 1, 5, none⟩ = some (.int .i64 st) := (BX.out.bl 1 _ _ _ rfl).val rfl
    have p1_6 : wc.cell? ⟨w.heap.size + 1, 6, none⟩ = some (.int .i64 mo) := (BX.out.bl 1 _ _ _ rfl).val rfl
    have z1 : ∀ k, wc.frozen? ⟨w.heap.size + 1, k, none⟩ = false := (BX.out.bl 1 _ _ _ rfl).free
    have y1 : w.heap.size + 1 < wc.heap.size := (BX.out.bl 1 _ _ _ rfl).size
    have p2_0 : wc.cell? ⟨w.heap.size + 1 + 1, 0, none⟩ = some (.int .i64 0) := (BX.out.bl 2 _ _ _ rfl).val rfl
    have p2_1 : wc.cell? ⟨w.heap.size + 1 + 1, 1, none⟩ = some (.int .i64 0) := (BX.out.bl 2 _ _ _ rfl).val rfl
    have p2_2 : wc.cell? ⟨w.heap.size + 1 + 1, 2, none⟩ = some (.int .i64 0) := (BX.out.bl 2 _ _ _ rfl).val rfl
    have z2 : ∀ k, wc.frozen? ⟨w.heap.size + 1 + 1, k, none⟩ = false := (BX.out.bl 2 _ _ _ rfl).free
    have y2 : w.heap.size + 1 + 1 < wc.heap.size := (BX.out.bl 2 _ _ _ rfl).size
    have p3_0 : wc.cell? ⟨x2.heap.size, 0, none⟩ = some (.int .i64 a3) := (BX.out.bl 3 _ _ _ rfl).val rfl
    have p3_1 : wc.cell? ⟨x2.heap.size, 1, none⟩ = some (.int .i64 d) := (BX.out.bl 3 _ _ _ rfl).val rfl
    have p3_2 : wc.cell? ⟨x2.heap.size, 2, none⟩ = some (.int .i64 0) := (BX.out.bl 3 _ _ _ rfl).val rfl
    have z3 : ∀ k, wc.frozen? ⟨x2.heap.size, k, none⟩ = false := (BX.out.bl 3 _ _ _ rfl).free
    have y3 : x2.heap.size < wc.heap.size := (BX.out.bl 3 _ _ _ rfl).size
    go_cut [9] (fun s9 wx => s9 = .int .i64 a8 ∧ Bxs w wx [(w.heap.size, 30, [.int .i64 su, .int .i64 la, .int .i64 le]), (w.heap.size + 1, 36, [.int .i64 sp, .int .i64 kp, .int .i64 ki, .int .i64 kd, .int .i64 li, .int .i64 st, .int .i64 mo]), (w.heap.size + 1 + 1, 30, [.int .i64 0, .int .i64 0, .int .i64 0]), (x2.heap.size, 30, [.int .i64 a3, .int .i64 d, .int .i64 0])])
    case first =>
      go_region_held3 (fun w' => w'.cell? ⟨w.heap.size + 1, 1, none⟩ = some (.int .i64 kp) ∧ w'.cell? ⟨x2.heap.size, 0, none⟩ = some (.int .i64 a3) ∧ w'.cell? ⟨w.heap.size + 1, 3, none⟩ = some (.int .i64 kd) ∧ w'.cell? ⟨w.heap.size, 1, none⟩ = some (.int .i64 la)) (repeat (first | with_reducible assumption | refine ⟨?_, ?_⟩ | with_reducible refine kdrew ?_ | with_reducible refine kalloc ?_ _ | with_reducible refine kother ?_ (by simp; try omega))) (first | (go_at_call 22; refine (rof02_any _ _ _ (by omega) (by omega) (by omega) (by omega)).mono ?_; (first | rw [h4.out] | rw [h7.out]); rintro e wn ⟨rfl, hbn⟩; have bx : Bxs w wn [(w.heap.size, 30, [.int .i64 su, .int .i64 la, .int .i64 le]), (w.heap.size + 1, 36, [.int .i64 sp, .int .i64 kp, .int .i64 ki, .int .i64 kd, .int .i64 li, .int .i64 st, .int .i64 mo]), (w.heap.size + 1 + 1, 30, [.int .i64 0, .int .i64 0, .int .i64 0]), (x2.heap.size, 30, [.int .i64 a3, .int .i64 d, .int .i64 0])] := (by first | exact BX.out.below hbn | exact BX.out.drew_.below hbn | exact (BX.out.drewN_ _).below hbn); clear hbn BX p0_0 p0_1 p0_2 z0 y0 p1_0 p1_1 p1_2 p1_3 p1_4 p1_5 p1_6 z1 y1 p2_0 p2_1 p2_2 z2 y2 p3_0 p3_1 p3_2 z3 y3; have BX := Lib.hid bx; clear bx; have p0_0 : wn.cell? ⟨w.heap.size, 0, none⟩ = some (.int .i64 su) := (BX.out.bl 0 _ _ _ rfl).val rfl; have p0_1 : wn.cell? ⟨w.heap.size, 1, none⟩ = some (.int .i64 la) := (BX.out.bl 0 _ _ _ rfl).val rfl; have p0_2 : wn.cell? ⟨w.heap.size, 2, none⟩ = some (.int .i64 le) := (BX.out.bl 0 _ _ _ rfl).val rfl; have z0 : ∀ k, wn.frozen? ⟨w.heap.size, k, none⟩ = false := (BX.out.bl 0 _ _ _ rfl).free; have y0 : w.heap.size < wn.heap.size := (BX.out.bl 0 _ _ _ rfl).size; have p1_0 : wn.cell? ⟨w.heap.size + 1, 0, none⟩ = some (.int .i64 sp) := (BX.out.bl 1 _ _ _ rfl).val rfl; have p1_1 : wn.cell? ⟨w.heap.size + 1, 1, none⟩ = some (.int .i64 kp) := (BX.out.bl 1 _ _ _ rfl).val rfl; have p1_2 : wn.cell? ⟨w.heap.size + 1, 2, none⟩ = some (.int .i64 ki) := (BX.out.bl 1 _ _ _ rfl).val rfl; have p1_3 : wn.cell? ⟨w.heap.size + 1, 3, none⟩ = some (.int .i64 kd) := (BX.out.bl 1 _ _ _ rfl).val rfl; have p1_4 : wn.cell? ⟨w.heap.size + 1, 4, none⟩ = some (.int .i64 li) := (BX.out.bl 1 _ _ _ rfl).val rfl; have p1_5 : wn.cell? ⟨w.heap.size + 1, 5, none⟩ = some (.int .i64 st) := (BX.out.bl 1 _ _ _ rfl).val rfl; have p1_6 : wn.cell? ⟨w.heap.size + 1, 6, none⟩ = some (.int .i64 mo) := (BX.out.bl 1 _ _ _ rfl).val rfl; have z1 : ∀ k, wn.frozen? ⟨w.heap.size + 1, k, none⟩ = false := (BX.out.bl 1 _ _ _ rfl).free; have y1 : w.heap.size + 1 < wn.heap.size := (BX.out.bl 1 _ _ _ rfl).size; have p2_0 : wn.cell? ⟨w.heap.size + 1 + 1, 0, none⟩ = some (.int .i64 0) := (BX.out.bl 2 _ _ _ rfl).val rfl; have p2_1 : wn.cell? ⟨w.heap.size + 1 + 1, 1, none⟩ = some (.int .i64 0) := (BX.out.bl 2 _ _ _ rfl).val rfl; have p2_2 : wn.cell? ⟨w.heap.size + 1 + 1, 2, none⟩ = some (.int .i64 0) := (BX.out.bl 2 _ _ _ rfl).val rfl; have z2 : ∀ k, wn.frozen? ⟨w.heap.size + 1 + 1, k, none⟩ = false := (BX.out.bl 2 _ _ _ rfl).free; have y2 : w.heap.size + 1 + 1 < wn.heap.size := (BX.out.bl 2 _ _ _ rfl).size; have p3_0 : wn.cell? ⟨x2.heap.size, 0, none⟩ = some (.int .i64 a3) := (BX.out.bl 3 _ _ _ rfl).val rfl; have p3_1 : wn.cell? ⟨x2.heap.size, 1, none⟩ = some (.int .i64 d) := (BX.out.bl 3 _ _ _ rfl).val rfl; have p3_2 : wn.cell? ⟨x2.heap.size, 2, none⟩ = some (.int .i64 0) := (BX.out.bl 3 _ _ _ rfl).val rfl; have z3 : ∀ k, wn.frozen? ⟨x2.heap.size, k, none⟩ = false := (BX.out.bl 3 _ _ _ rfl).free; have y3 : x2.heap.size < wn.heap.size := (BX.out.bl 3 _ _ _ rfl).size) | (go_at_call 24; refine (radd02_any _ _ _ (by omega) (by omega) (by omega) (by omega)).mono ?_; (first | rw [h5.out] | rw [h8.out]); rintro e wn ⟨rfl, hbn⟩; have bx : Bxs w wn [(w.heap.size, 30, [.int .i64 su, .int .i64 la, .int .i64 le]), (w.heap.size + 1, 36, [.int .i64 sp, .int .i64 kp, .int .i64 ki, .int .i64 kd, .int .i64 li, .int .i64 st, .int .i64 mo]), (w.heap.size + 1 + 1, 30, [.int .i64 0, .int .i64 0, .int .i64 0]), (x2.heap.size, 30, [.int .i64 a3, .int .i64 d, .int .i64 0])] := (by first | exact BX.out.below hbn | exact BX.out.drew_.below hbn | exact (BX.out.drewN_ _).below hbn); clear hbn BX p0_0 p0_1 p0_2 z0 y0 p1_0 p1_1 p1_2 p1_3 p1_4 p1_5 p1_6 z1 y1 p2_0 p2_1 p2_2 z2 y2 p3_0 p3_1 p3_2 z3 y3; have BX := Lib.hid bx; clear bx; have p0_0 : wn.cell? ⟨w.heap.size, 0, none⟩ = some (.int .i64 su) := (BX.out.bl 0 _ _ _ rfl).val rfl; have p0_1 : wn.cell? ⟨w.heap.size, 1, none⟩ = some (.int .i64 la) := (BX.out.bl 0 _ _ _ rfl).val rfl; have p0_2 : wn.cell? ⟨w.heap.size, 2, none⟩ = some (.int .i64 le) := (BX.out.bl 0 _ _ _ rfl).val rfl; have z0 : ∀ k, wn.frozen? ⟨w.heap.size, k, none⟩ = false := (BX.out.bl 0 _ _ _ rfl).free; have y0 : w.heap.size < wn.heap.size := (BX.out.bl 0 _ _ _ rfl).size; have p1_0 : wn.cell? ⟨w.heap.size + 1, 0, none⟩ = some (.int .i64 sp) := (BX.out.bl 1 _ _ _ rfl).val rfl; have p1_1 : wn.cell? ⟨w.heap.size + 1, 1, none⟩ = some (.int .i64 kp) := (BX.out.bl 1 _ _ _ rfl).val rfl; have p1_2 : wn.cell? ⟨w.heap.size + 1, 2, none⟩ = some (.int .i64 ki) := (BX.out.bl 1 _ _ _ rfl).val rfl; have p1_3 : wn.cell? ⟨w.heap.size + 1, 3, none⟩ = some (.int .i64 kd) := (BX.out.bl 1 _ _ _ rfl).val rfl; have p1_4 : wn.cell? ⟨w.heap.size + 1, 4, none⟩ = some (.int .i64 li) := (BX.out.bl 1 _ _ _ rfl).val rfl; have p1_5 : wn.cell? ⟨w.heap.size + 1, 5, none⟩ = some (.int .i64 st) := (BX.out.bl 1 _ _ _ rfl).val rfl; have p1_6 : wn.cell? ⟨w.heap.size + 1, 6, none⟩ = some (.int .i64 mo) := (BX.out.bl 1 _ _ _ rfl).val rfl; have z1 : ∀ k, wn.frozen? ⟨w.heap.size + 1, k, none⟩ = false := (BX.out.bl 1 _ _ _ rfl).free; have y1 : w.heap.size + 1 < wn.heap.size := (BX.out.bl 1 _ _ _ rfl).size; have p2_0 : wn.cell? ⟨w.heap.size + 1 + 1, 0, none⟩ = some (.int .i64 0) := (BX.out.bl 2 _ _ _ rfl).val rfl; have p2_1 : wn.cell? ⟨w.heap.size + 1 + 1, 1, none⟩ = some (.int .i64 0) := (BX.out.bl 2 _ _ _ rfl).val rfl; have p2_2 : wn.cell? ⟨w.heap.size + 1 + 1, 2, none⟩ = some (.int .i64 0) := (BX.out.bl 2 _ _ _ rfl).val rfl; have z2 : ∀ k, wn.frozen? ⟨w.heap.size + 1 + 1, k, none⟩ = false := (BX.out.bl 2 _ _ _ rfl).free; have y2 : w.heap.size + 1 + 1 < wn.heap.size := (BX.out.bl 2 _ _ _ rfl).size; have p3_0 : wn.cell? ⟨x2.heap.size, 0, none⟩ = some (.int .i64 a3) := (BX.out.bl 3 _ _ _ rfl).val rfl; have p3_1 : wn.cell? ⟨x2.heap.size, 1, none⟩ = some (.int .i64 d) := (BX.out.bl 3 _ _ _ rfl).val rfl; have p3_2 : wn.cell? ⟨x2.heap.size, 2, none⟩ = some (.int .i64 0) := (BX.out.bl 3 _ _ _ rfl).val rfl; have z3 : ∀ k, wn.frozen? ⟨x2.heap.size, k, none⟩ = false := (BX.out.bl 3 _ _ _ rfl).free; have y3 : x2.heap.size < wn.heap.size := (BX.out.bl 3 _ _ _ rfl).size) | (go_at_call 21; refine (rsub02_any _ _ _ (by omega) (by omega) (by omega) (by omega)).mono ?_; (rw [h6.out]); rintro e wn ⟨rfl, hbn⟩; have bx : Bxs w wn [(w.heap.size, 30, [.int .i64 su, .int .i64 la, .int .i64 le]), (w.heap.size + 1, 36, [.int .i64 sp, .int .i64 kp, .int .i64 ki, .int .i64 kd, .int .i64 li, .int .i64 st, .int .i64 mo]), (w.heap.size + 1 + 1, 30, [.int .i64 0, .int .i64 0, .int .i64 0]), (x2.heap.size, 30, [.int .i64 a3, .int .i64 d, .int .i64 0])] := (by first | exact BX.out.below hbn | exact BX.out.drew_.below hbn | exact (BX.out.drewN_ _).below hbn); clear hbn BX p0_0 p0_1 p0_2 z0 y0 p1_0 p1_1 p1_2 p1_3 p1_4 p1_5 p1_6 z1 y1 p2_0 p2_1 p2_2 z2 y2 p3_0 p3_1 p3_2 z3 y3; have BX := Lib.hid bx; clear bx; have p0_0 : wn.cell? ⟨w.heap.size, 0, none⟩ = some (.int .i64 su) := (BX.out.bl 0 _ _ _ rfl).val rfl; have p0_1 : wn.cell? ⟨w.heap.size, 1, none⟩ = some (.int .i64 la) := (BX.out.bl 0 _ _ _ rfl).val rfl; have p0_2 : wn.cell? ⟨w.heap.size, 2, none⟩ = some (.int .i64 le) := (BX.out.bl 0 _ _ _ rfl).val rfl; have z0 : ∀ k, wn.frozen? ⟨w.heap.size, k, none⟩ = false := (BX.out.bl 0 _ _ _ rfl).free; have y0 : w.heap.size < wn.heap.size := (BX.out.bl 0 _ _ _ rfl).size; have p1_0 : wn.cell? ⟨w.heap.size + 1, 0, none⟩ = some (.int .i64 sp) := (BX.out.bl 1 _ _ _ rfl).val rfl; have p1_1 : wn.cell? ⟨w.heap.size + 1, 1, none⟩ = some (.int .i64 kp) := (BX.out.bl 1 _ _ _ rfl).val rfl; have p1_2 : wn.cell? ⟨w.heap.size + 1, 2, none⟩ = some (.int .i64 ki) := (BX.out.bl 1 _ _ _ rfl).val rfl; have p1_3 : wn.cell? ⟨w.heap.size + 1, 3, none⟩ = some (.int .i64 kd) := (BX.out.bl 1 _ _ _ rfl).val rfl; have p1_4 : wn.cell? ⟨w.heap.size + 1, 4, none⟩ = some (.int .i64 li) := (BX.out.bl 1 _ _ _ rfl).val rfl; have p1_5 : wn.cell? ⟨w.heap.size + 1, 5, none⟩ = some (.int .i64 st) := (BX.out.bl 1 _ _ _ rfl).val rfl; have p1_6 : wn.cell? ⟨w.heap.size + 1, 6, none⟩ = some (.int .i64 mo) := (BX.out.bl 1 _ _ _ rfl).val rfl; have z1 : ∀ k, wn.frozen? ⟨w.heap.size + 1, k, none⟩ = false := (BX.out.bl 1 _ _ _ rfl).free; have y1 : w.heap.size + 1 < wn.heap.size := (BX.out.bl 1 _ _ _ rfl).size; have p2_0 : wn.cell? ⟨w.heap.size + 1 + 1, 0, none⟩ = some (.int .i64 0) := (BX.out.bl 2 _ _ _ rfl).val rfl; have p2_1 : wn.cell? ⟨w.heap.size + 1 + 1, 1, none⟩ = some (.int .i64 0) := (BX.out.bl 2 _ _ _ rfl).val rfl; have p2_2 : wn.cell? ⟨w.heap.size + 1 + 1, 2, none⟩ = some (.int .i64 0) := (BX.out.bl 2 _ _ _ rfl).val rfl; have z2 : ∀ k, wn.frozen? ⟨w.heap.size + 1 + 1, k, none⟩ = false := (BX.out.bl 2 _ _ _ rfl).free; have y2 : w.heap.size + 1 + 1 < wn.heap.size := (BX.out.bl 2 _ _ _ rfl).size; have p3_0 : wn.cell? ⟨x2.heap.size, 0, none⟩ = some (.int .i64 a3) := (BX.out.bl 3 _ _ _ rfl).val rfl; have p3_1 : wn.cell? ⟨x2.heap.size, 1, none⟩ = some (.int .i64 d) := (BX.out.bl 3 _ _ _ rfl).val rfl; have p3_2 : wn.cell? ⟨x2.heap.size, 2, none⟩ = some (.int .i64 0) := (BX.out.bl 3 _ _ _ rfl).val rfl; have z3 : ∀ k, wn.frozen? ⟨x2.heap.size, k, none⟩ = false := (BX.out.bl 3 _ _ _ rfl).free; have y3 : x2.heap.size < wn.heap.size := (BX.out.bl 3 _ _ _ rfl).size))
      all_goals (go_wp2_with fail; go_meet; exact ⟨rfl, (by first | exact BX.out | exact BX.out.drew_ | exact (BX.out.drewN_ _) | exact (BX.out).drew_)⟩)
    case rest =>
      clear p0_0 p0_1 p0_2 z0 y0 p1_0 p1_1 p1_2 p1_3 p1_4 p1_5 p1_6 z1 y1 p2_0 p2_1 p2_2 z2 y2 p3_0 p3_1 p3_2 z3 y3
      clear BX
      obtain ⟨rfl, bx⟩ := hcut
      have BX := Lib.hid bx
      clear bx
      have p0_0 : wc.cell? ⟨w.heap.size, 0, none⟩ = some (.int .i64 su) := (BX.out.bl 0 _ _ _ rfl).val rfl
      have p0_1 : wc.cell? ⟨w.heap.size, 1, none⟩ = some (.int .i64 la) := (BX.out.bl 0 _ _ _ rfl).val rfl
      have p0_2 : wc.cell? ⟨w.heap.size, 2, none⟩ = some (.int .i64 le) := (BX.out.bl 0 _ _ _ rfl).val rfl
      have z0 : ∀ k, wc.frozen? ⟨w.heap.size, k, none⟩ = false := (BX.out.bl 0 _ _ _ rfl).free
      have y0 : w.heap.size < wc.heap.size := (BX.out.bl 0 _ _ _ rfl).size
      have p1_0 : wc.cell? ⟨w.heap.size + 1, 0, none⟩ = some (.int .i64 sp) := (BX.out.bl 1 _ _ _ rfl).val rfl
      have p1_1 : wc.cell? ⟨w.heap.size + 1, 1, none⟩ = some (.int .i64 kp) := (BX.out.bl 1 _ _ _ rfl).val rfl
      have p1_2 : wc.cell? ⟨w.heap.size + 1, 2, none⟩ = some (.int .i64 ki) := (BX.out.bl 1 _ _ _ rfl).val rfl
      have p1_3 : wc.cell? ⟨w.heap.size + 1, 3, none⟩ = some (.int .i64 kd) := (BX.out.bl 1 _ _ _ rfl).val rfl
      have p1_4 : wc.cell? ⟨w.heap.size + 1, 4, none⟩ = some (.int .i64 li) := (BX.out.bl 1 _ _ _ rfl).val rfl
      have p1_5 : wc.cell? ⟨w.heap.size + 1, 5, none⟩ = some (.int .i64 st) := (BX.out.bl 1 _ _ _ rfl).val rfl
      have p1_6 : wc.cell? ⟨w.heap.size + 1, 6, none⟩ = some (.int .i64 mo) := (BX.out.bl 1 _ _ _ rfl).val rfl
      have z1 : ∀ k, wc.frozen? ⟨w.heap.size + 1, k, none⟩ = false := (BX.out.bl 1 _ _ _ rfl).free
      have y1 : w.heap.size + 1 < wc.heap.size := (BX.out.bl 1 _ _ _ rfl).size
      have p2_0 : wc.cell? ⟨w.heap.size + 1 + 1, 0, none⟩ = some (.int .i64 0) := (BX.out.bl 2 _ _ _ rfl).val rfl
      have p2_1 : wc.cell? ⟨w.heap.size + 1 + 1, 1, none⟩ = some (.int .i64 0) := (BX.out.bl 2 _ _ _ rfl).val rfl
      have p2_2 : wc.cell? ⟨w.heap.size + 1 + 1, 2, none⟩ = some (.int .i64 0) := (BX.out.bl 2 _ _ _ rfl).val rfl
      have z2 : ∀ k, wc.frozen? ⟨w.heap.size + 1 + 1, k, none⟩ = false := (BX.out.bl 2 _ _ _ rfl).free
      have y2 : w.heap.size + 1 + 1 < wc.heap.size := (BX.out.bl 2 _ _ _ rfl).size
      have p3_0 : wc.cell? ⟨x2.heap.size, 0, none⟩ = some (.int .i64 a3) := (BX.out.bl 3 _ _ _ rfl).val rfl
      have p3_1 : wc.cell? ⟨x2.heap.size, 1, none⟩ = some (.int .i64 d) := (BX.out.bl 3 _ _ _ rfl).val rfl
      have p3_2 : wc.cell? ⟨x2.heap.size, 2, none⟩ = some (.int .i64 0) := (BX.out.bl 3 _ _ _ rfl).val rfl
      have z3 : ∀ k, wc.frozen? ⟨x2.heap.size, k, none⟩ = false := (BX.out.bl 3 _ _ _ rfl).free
      have y3 : x2.heap.size < wc.heap.size := (BX.out.bl 3 _ _ _ rfl).size
      go_upto_region 12 with fail
      clear p0_0 p0_1 p0_2 z0 y0 p1_0 p1_1 p1_2 p1_3 p1_4 p1_5 p1_6 z1 y1 p2_0 p2_1 p2_2 z2 y2 p3_0 p3_1 p3_2 z3 y3
      refine wp_worldx (fun wx => Bxs w wx [(w.heap.size, 30, [.int .i64 su, .int .i64 la, .int .i64 le]), (w.heap.size + 1, 36, [.int .i64 sp, .int .i64 kp, .int .i64 ki, .int .i64 kd, .int .i64 li, .int .i64 st, .int .i64 mo]), (w.heap.size + 1 + 1, 30, [.int .i64 0, .int .i64 0, .int .i64 0]), (x2.heap.size, 30, [.int .i64 a3, .int .i64 d, .int .i64 le])]) ((BX.out).set_ 3 2 rfl _) ?_
      clear BX
      rintro x4 bx
      have BX := Lib.hid bx
      clear bx
      have p0_0 : x4.cell? ⟨w.heap.size, 0, none⟩ = some (.int .i64 su) := (BX.out.bl 0 _ _ _ rfl).val rfl
      have p0_1 : x4.cell? ⟨w.heap.size, 1, none⟩ = some (.int .i64 la) := (BX.out.bl 0 _ _ _ rfl).val rfl
      have p0_2 : x4.cell? ⟨w.heap.size, 2, none⟩ = some (.int .i64 le) := (BX.out.bl 0 _ _ _ rfl).val rfl
      have z0 : ∀ k, x4.frozen? ⟨w.heap.size, k, none⟩ = false := (BX.out.bl 0 _ _ _ rfl).free
      have y0 : w.heap.size < x4.heap.size := (BX.out.bl 0 _ _ _ rfl).size
      have p1_0 : x4.cell? ⟨w.heap.size + 1, 0, none⟩ = some (.int .i64 sp) := (BX.out.bl 1 _ _ _ rfl).val rfl
      have p1_1 : x4.cell? ⟨w.heap.size + 1, 1, none⟩ = some (.int .i64 kp) := (BX.out.bl 1 _ _ _ rfl).val rfl
      have p1_2 : x4.cell? ⟨w.heap.size + 1, 2, none⟩ = some (.int .i64 ki) := (BX.out.bl 1 _ _ _ rfl).val rfl
      have p1_3 : x4.cell? ⟨w.heap.size + 1, 3, none⟩ = some (.int .i64 kd) := (BX.out.bl 1 _ _ _ rfl).val rfl
      have p1_4 : x4.cell? ⟨w.heap.size + 1, 4, none⟩ = some (.int .i64 li) := (BX.out.bl 1 _ _ _ rfl).val rfl
      have p1_5 : x4.cell? ⟨w.heap.size + 1, 5, none⟩ = some (.int .i64 st) := (BX.out.bl 1 _ _ _ rfl).val rfl
      have p1_6 : x4.cell? ⟨w.heap.size + 1, 6, none⟩ = some (.int .i64 mo) := (BX.out.bl 1 _ _ _ rfl).val rfl
      have z1 : ∀ k, x4.frozen? ⟨w.heap.size + 1, k, none⟩ = false := (BX.out.bl 1 _ _ _ rfl).free
      have y1 : w.heap.size + 1 < x4.heap.size := (BX.out.bl 1 _ _ _ rfl).size
      have p2_0 : x4.cell? ⟨w.heap.size + 1 + 1, 0, none⟩ = some (.int .i64 0) := (BX.out.bl 2 _ _ _ rfl).val rfl
      have p2_1 : x4.cell? ⟨w.heap.size + 1 + 1, 1, none⟩ = some (.int .i64 0) := (BX.out.bl 2 _ _ _ rfl).val rfl
      have p2_2 : x4.cell? ⟨w.heap.size + 1 + 1, 2, none⟩ = some (.int .i64 0) := (BX.out.bl 2 _ _ _ rfl).val rfl
      have z2 : ∀ k, x4.frozen? ⟨w.heap.size + 1 + 1, k, none⟩ = false := (BX.out.bl 2 _ _ _ rfl).free
      have y2 : w.heap.size + 1 + 1 < x4.heap.size := (BX.out.bl 2 _ _ _ rfl).size
      have p3_0 : x4.cell? ⟨x2.heap.size, 0, none⟩ = some (.int .i64 a3) := (BX.out.bl 3 _ _ _ rfl).val rfl
      have p3_1 : x4.cell? ⟨x2.heap.size, 1, none⟩ = some (.int .i64 d) := (BX.out.bl 3 _ _ _ rfl).val rfl
      have p3_2 : x4.cell? ⟨x2.heap.size, 2, none⟩ = some (.int .i64 le) := (BX.out.bl 3 _ _ _ rfl).val rfl
      have z3 : ∀ k, x4.frozen? ⟨x2.heap.size, k, none⟩ = false := (BX.out.bl 3 _ _ _ rfl).free
      have y3 : x2.heap.size < x4.heap.size := (BX.out.bl 3 _ _ _ rfl).size
      go_wp2_with fail
      refine (rfloor02_any _ _ b80 b81).mono ?_
      rw [hf.out]
      rintro e x5 ⟨rfl, hb⟩
      have bx : Bxs w x5 [(w.heap.size, 30, [.int .i64 su, .int .i64 la, .int .i64 le]), (w.heap.size + 1, 36, [.int .i64 sp, .int .i64 kp, .int .i64 ki, .int .i64 kd, .int .i64 li, .int .i64 st, .int .i64 mo]), (w.heap.size + 1 + 1, 30, [.int .i64 0, .int .i64 0, .int .i64 0]), (x2.heap.size, 30, [.int .i64 a3, .int .i64 d, .int .i64 le])] := (BX.out).below hb
      clear p0_0 p0_1 p0_2 z0 y0 p1_0 p1_1 p1_2 p1_3 p1_4 p1_5 p1_6 z1 y1 p2_0 p2_1 p2_2 z2 y2 p3_0 p3_1 p3_2 z3 y3
      clear hb BX
      have BX := Lib.hid bx
      clear bx
      have p0_0 : x5.cell? ⟨w.heap.size, 0, none⟩ = some (.int .i64 su) := (BX.out.bl 0 _ _ _ rfl).val rfl
      have p0_1 : x5.cell? ⟨w.heap.size, 1, none⟩ = some (.int .i64 la) := (BX.out.bl 0 _ _ _ rfl).val rfl
      have p0_2 : x5.cell? ⟨w.heap.size, 2, none⟩ = some (.int .i64 le) := (BX.out.bl 0 _ _ _ rfl).val rfl
      have z0 : ∀ k, x5.frozen? ⟨w.heap.size, k, none⟩ = false := (BX.out.bl 0 _ _ _ rfl).free
      have y0 : w.heap.size < x5.heap.size := (BX.out.bl 0 _ _ _ rfl).size
      have p1_0 : x5.cell? ⟨w.heap.size + 1, 0, none⟩ = some (.int .i64 sp) := (BX.out.bl 1 _ _ _ rfl).val rfl
      have p1_1 : x5.cell? ⟨w.heap.size + 1, 1, none⟩ = some (.int .i64 kp) := (BX.out.bl 1 _ _ _ rfl).val rfl
      have p1_2 : x5.cell? ⟨w.heap.size + 1, 2, none⟩ = some (.int .i64 ki) := (BX.out.bl 1 _ _ _ rfl).val rfl
      have p1_3 : x5.cell? ⟨w.heap.size + 1, 3, none⟩ = some (.int .i64 kd) := (BX.out.bl 1 _ _ _ rfl).val rfl
      have p1_4 : x5.cell? ⟨w.heap.size + 1, 4, none⟩ = some (.int .i64 li) := (BX.out.bl 1 _ _ _ rfl).val rfl
      have p1_5 : x5.cell? ⟨w.heap.size + 1, 5, none⟩ = some (.int .i64 st) := (BX.out.bl 1 _ _ _ rfl).val rfl
      have p1_6 : x5.cell? ⟨w.heap.size + 1, 6, none⟩ = some (.int .i64 mo) := (BX.out.bl 1 _ _ _ rfl).val rfl
      have z1 : ∀ k, x5.frozen? ⟨w.heap.size + 1, k, none⟩ = false := (BX.out.bl 1 _ _ _ rfl).free
      have y1 : w.heap.size + 1 < x5.heap.size := (BX.out.bl 1 _ _ _ rfl).size
      have p2_0 : x5.cell? ⟨w.heap.size + 1 + 1, 0, none⟩ = some (.int .i64 0) := (BX.out.bl 2 _ _ _ rfl).val rfl
      have p2_1 : x5.cell? ⟨w.heap.size + 1 + 1, 1, none⟩ = some (.int .i64 0) := (BX.out.bl 2 _ _ _ rfl).val rfl
      have p2_2 : x5.cell? ⟨w.heap.size + 1 + 1, 2, none⟩ = some (.int .i64 0) := (BX.out.bl 2 _ _ _ rfl).val rfl
      have z2 : ∀ k, x5.frozen? ⟨w.heap.size + 1 + 1, k, none⟩ = false := (BX.out.bl 2 _ _ _ rfl).free
      have y2 : w.heap.size + 1 + 1 < x5.heap.size := (BX.out.bl 2 _ _ _ rfl).size
      have p3_0 : x5.cell? ⟨x2.heap.size, 0, none⟩ = some (.int .i64 a3) := (BX.out.bl 3 _ _ _ rfl).val rfl
      have p3_1 : x5.cell? ⟨x2.heap.size, 1, none⟩ = some (.int .i64 d) := (BX.out.bl 3 _ _ _ rfl).val rfl
      have p3_2 : x5.cell? ⟨x2.heap.size, 2, none⟩ = some (.int .i64 le) := (BX.out.bl 3 _ _ _ rfl).val rfl
      have z3 : ∀ k, x5.frozen? ⟨x2.heap.size, k, none⟩ = false := (BX.out.bl 3 _ _ _ rfl).free
      have y3 : x2.heap.size < x5.heap.size := (BX.out.bl 3 _ _ _ rfl).size
      go_wp2_with fail
      refine (radd02_any _ _ _ le0 le1 st0 st1).mono ?_
      rw [hm.out]
      rintro e x6 ⟨rfl, hb⟩
      have bx : Bxs w x6 [(w.heap.size, 30, [.int .i64 su, .int .i64 la, .int .i64 le]), (w.heap.size + 1, 36, [.int .i64 sp, .int .i64 kp, .int .i64 ki, .int .i64 kd, .int .i64 li, .int .i64 st, .int .i64 mo]), (w.heap.size + 1 + 1, 30, [.int .i64 0, .int .i64 0, .int .i64 0]), (x2.heap.size, 30, [.int .i64 a3, .int .i64 d, .int .i64 le])] := (BX.out).below hb
      clear p0_0 p0_1 p0_2 z0 y0 p1_0 p1_1 p1_2 p1_3 p1_4 p1_5 p1_6 z1 y1 p2_0 p2_1 p2_2 z2 y2 p3_0 p3_1 p3_2 z3 y3
      clear hb BX
      have BX := Lib.hid bx
      clear bx
      have p0_0 : x6.cell? ⟨w.heap.size, 0, none⟩ = some (.int .i64 su) := (BX.out.bl 0 _ _ _ rfl).val rfl
      have p0_1 : x6.cell? ⟨w.heap.size, 1, none⟩ = some (.int .i64 la) := (BX.out.bl 0 _ _ _ rfl).val rfl
      have p0_2 : x6.cell? ⟨w.heap.size, 2, none⟩ = some (.int .i64 le) := (BX.out.bl 0 _ _ _ rfl).val rfl
      have z0 : ∀ k, x6.frozen? ⟨w.heap.size, k, none⟩ = false := (BX.out.bl 0 _ _ _ rfl).free
      have y0 : w.heap.size < x6.heap.size := (BX.out.bl 0 _ _ _ rfl).size
      have p1_0 : x6.cell? ⟨w.heap.size + 1, 0, none⟩ = some (.int .i64 sp) := (BX.out.bl 1 _ _ _ rfl).val rfl
      have p1_1 : x6.cell? ⟨w.heap.size + 1, 1, none⟩ = some (.int .i64 kp) := (BX.out.bl 1 _ _ _ rfl).val rfl
      have p1_2 : x6.cell? ⟨w.heap.size + 1, 2, none⟩ = some (.int .i64 ki) := (BX.out.bl 1 _ _ _ rfl).val rfl
      have p1_3 : x6.cell? ⟨w.heap.size + 1, 3, none⟩ = some (.int .i64 kd) := (BX.out.bl 1 _ _ _ rfl).val rfl
      have p1_4 : x6.cell? ⟨w.heap.size + 1, 4, none⟩ = some (.int .i64 li) := (BX.out.bl 1 _ _ _ rfl).val rfl
      have p1_5 : x6.cell? ⟨w.heap.size + 1, 5, none⟩ = some (.int .i64 st) := (BX.out.bl 1 _ _ _ rfl).val rfl
      have p1_6 : x6.cell? ⟨w.heap.size + 1, 6, none⟩ = some (.int .i64 mo) := (BX.out.bl 1 _ _ _ rfl).val rfl
      have z1 : ∀ k, x6.frozen? ⟨w.heap.size + 1, k, none⟩ = false := (BX.out.bl 1 _ _ _ rfl).free
      have y1 : w.heap.size + 1 < x6.heap.size := (BX.out.bl 1 _ _ _ rfl).size
      have p2_0 : x6.cell? ⟨w.heap.size + 1 + 1, 0, none⟩ = some (.int .i64 0) := (BX.out.bl 2 _ _ _ rfl).val rfl
      have p2_1 : x6.cell? ⟨w.heap.size + 1 + 1, 1, none⟩ = some (.int .i64 0) := (BX.out.bl 2 _ _ _ rfl).val rfl
      have p2_2 : x6.cell? ⟨w.heap.size + 1 + 1, 2, none⟩ = some (.int .i64 0) := (BX.out.bl 2 _ _ _ rfl).val rfl
      have z2 : ∀ k, x6.frozen? ⟨w.heap.size + 1 + 1, k, none⟩ = false := (BX.out.bl 2 _ _ _ rfl).free
      have y2 : w.heap.size + 1 + 1 < x6.heap.size := (BX.out.bl 2 _ _ _ rfl).size
      have p3_0 : x6.cell? ⟨x2.heap.size, 0, none⟩ = some (.int .i64 a3) := (BX.out.bl 3 _ _ _ rfl).val rfl
      have p3_1 : x6.cell? ⟨x2.heap.size, 1, none⟩ = some (.int .i64 d) := (BX.out.bl 3 _ _ _ rfl).val rfl
      have p3_2 : x6.cell? ⟨x2.heap.size, 2, none⟩ = some (.int .i64 le) := (BX.out.bl 3 _ _ _ rfl).val rfl
      have z3 : ∀ k, x6.frozen? ⟨x2.heap.size, k, none⟩ = false := (BX.out.bl 3 _ _ _ rfl).free
      have y3 : x2.heap.size < x6.heap.size := (BX.out.bl 3 _ _ _ rfl).size
      go_wp2_with fail
      refine (rclamp_any _ _ _ _).mono ?_
      rintro e x7 ⟨rfl, rfl⟩
      go_wp2_with fail
      refine bodyPost_ret (v := .agg #[.int .i64 a3, .int .i64 d, .int .i64 (clampN le 0 mo)]) (by simp [results, Try.results12, go_sem, *]) rfl ⟨rfl, ?_⟩
      exact (((((BX.out).set_ 3 2 rfl _).set_ 2 0 rfl _).set_ 2 1 rfl _).set_ 2 2 rfl _).be
theorem rsamp_lit (su la le sp kp ki kd li st mo u c1 c2 c3 : Int) (HZ : Hid (sampP ⟨su, la, le⟩ ⟨sp, kp, ki, kd, li, st, mo⟩ u = ⟨c1, c2, c3⟩)) (w : World) (su0 : -9223372036854775808 ≤ su) (su1 : su ≤ 9223372036854775807) (la0 : -9223372036854775808 ≤ la) (la1 : la ≤ 9223372036854775807) (le0 : -9223372036854775808 ≤ le) (le1 : le ≤ 9223372036854775807) (sp0 : -9223372036854775808 ≤ sp) (sp1 : sp ≤ 9223372036854775807) (kp0 : -9223372036854775808 ≤ kp) (kp1 : kp ≤ 9223372036854775807) (ki0 : -9223372036854775808 ≤ ki) (ki1 : ki ≤ 9223372036854775807) (kd0 : -9223372036854775808 ≤ kd) (kd1 : kd ≤ 9223372036854775807) (li0 : -9223372036854775808 ≤ li) (li1 : li ≤ 9223372036854775807) (st0 : -9223372036854775808 ≤ st) (st1 : st ≤ 9223372036854775807) (mo0 : -9223372036854775808 ≤ mo) (mo1 : mo ≤ 9223372036854775807) (u0 : -9223372036854775808 ≤ u) (u1 : u ≤ 9223372036854775807) :
    Calls Try.prog 12 #[.agg #[.int .i64 su, .int .i64 la, .int .i64 le], .agg #[.int .i64 sp, .int .i64 kp, .int .i64 ki, .int .i64 kd, .int .i64 li, .int .i64 st, .int .i64 mo], .int .i64 u] w fun e w' => e = .returned (.agg #[.int .i64 c1, .int .i64 c2, .int .i64 c3]) ∧ Below w.heap.size w w' := by
  have hz := HZ.out
  by_cases h : sp < u
  · rw [sampP, if_pos h] at hz
    simp only [riseP, Pst.mk.injEq] at hz
    obtain ⟨e1, e2, e3⟩ := hz
    have po : (⟨sp, kp, ki, kd, li, st, mo⟩ : Ppr).ok := ⟨sp0, sp1, kp0, kp1, ki0, ki1, kd0, kd1, li0, li1, st0, st1, mo0, mo1⟩
    have s1 := sumP_in ⟨su, la, le⟩ ⟨sp, kp, ki, kd, li, st, mo⟩ (sat (u - sp)) po
    obtain ⟨f, hf⟩ : ∃ f, outP ⟨su, la, le⟩ ⟨sp, kp, ki, kd, li, st, mo⟩ (sat (u - sp)) / 4294967296 = f := ⟨_, rfl⟩
    obtain ⟨m, hm⟩ : ∃ m, sat (le + st) = m := ⟨_, rfl⟩
    have e3' : clampN (mn (mx le f) m) 0 mo = c3 := by rw [← hf, ← hm]; exact e3
    rw [← e1, ← e2]
    by_cases hg : le < f
    · by_cases ho : m < f
      · rw [show c3 = clampN m 0 mo from by rw [← e3', show mn (mx le f) m = m from by unfold mx mn; omega]]
        exact rrise_mo su la le sp kp ki kd li st mo u _ _ _ _ _ _ _ _ _ f m (by omega) (Lib.hid rfl) (Lib.hid rfl) (Lib.hid rfl) (Lib.hid rfl) (Lib.hid rfl) (Lib.hid rfl) (Lib.hid rfl) (Lib.hid rfl) (Lib.hid rfl) (Lib.hid hf) (Lib.hid hm) hg ho w su0 su1 la0 la1 le0 le1 sp0 sp1 kp0 kp1 ki0 ki1 kd0 kd1 li0 li1 st0 st1 mo0 mo1 u0 u1 (sat_in _).1 (sat_in _).2 (sat_in _).1 (sat_in _).2 (sat_in _).1 (sat_in _).2 s1.1 s1.2 (sat_in _).1 (sat_in _).2 (sat_in _).1 (sat_in _).2 (sat_in _).1 (sat_in _).2 (sat_in _).1 (sat_in _).2 (sat_in _).1 (sat_in _).2
      · rw [show c3 = clampN f 0 mo from by rw [← e3', show mn (mx le f) m = f from by unfold mx mn; omega]]
        exact rrise_mp su la le sp kp ki kd li st mo u _ _ _ _ _ _ _ _ _ f m (by omega) (Lib.hid rfl) (Lib.hid rfl) (Lib.hid rfl) (Lib.hid rfl) (Lib.hid rfl) (Lib.hid rfl) (Lib.hid rfl) (Lib.hid rfl) (Lib.hid rfl) (Lib.hid hf) (Lib.hid hm) hg ho w su0 su1 la0 la1 le0 le1 sp0 sp1 kp0 kp1 ki0 ki1 kd0 kd1 li0 li1 st0 st1 mo0 mo1 u0 u1 (sat_in _).1 (sat_in _).2 (sat_in _).1 (sat_in _).2 (sat_in _).1 (sat_in _).2 s1.1 s1.2 (sat_in _).1 (sat_in _).2 (sat_in _).1 (sat_in _).2 (sat_in _).1 (sat_in _).2 (sat_in _).1 (sat_in _).2 (sat_in _).1 (sat_in _).2
    · by_cases ho : m < le
      · rw [show c3 = clampN m 0 mo from by rw [← e3', show mn (mx le f) m = m from by unfold mx mn; omega]]
        exact rrise_no su la le sp kp ki kd li st mo u _ _ _ _ _ _ _ _ _ f m (by omega) (Lib.hid rfl) (Lib.hid rfl) (Lib.hid rfl) (Lib.hid rfl) (Lib.hid rfl) (Lib.hid rfl) (Lib.hid rfl) (Lib.hid rfl) (Lib.hid rfl) (Lib.hid hf) (Lib.hid hm) hg ho w su0 su1 la0 la1 le0 le1 sp0 sp1 kp0 kp1 ki0 ki1 kd0 kd1 li0 li1 st0 st1 mo0 mo1 u0 u1 (sat_in _).1 (sat_in _).2 (sat_in _).1 (sat_in _).2 (sat_in _).1 (sat_in _).2 s1.1 s1.2 (sat_in _).1 (sat_in _).2 (sat_in _).1 (sat_in _).2 (sat_in _).1 (sat_in _).2 (sat_in _).1 (sat_in _).2 (sat_in _).1 (sat_in _).2
      · rw [show c3 = clampN le 0 mo from by rw [← e3', show mn (mx le f) m = le from by unfold mx mn; omega]]
        exact rrise_np su la le sp kp ki kd li st mo u _ _ _ _ _ _ _ _ _ f m (by omega) (Lib.hid rfl) (Lib.hid rfl) (Lib.hid rfl) (Lib.hid rfl) (Lib.hid rfl) (Lib.hid rfl) (Lib.hid rfl) (Lib.hid rfl) (Lib.hid rfl) (Lib.hid hf) (Lib.hid hm) hg ho w su0 su1 la0 la1 le0 le1 sp0 sp1 kp0 kp1 ki0 ki1 kd0 kd1 li0 li1 st0 st1 mo0 mo1 u0 u1 (sat_in _).1 (sat_in _).2 (sat_in _).1 (sat_in _).2 (sat_in _).1 (sat_in _).2 s1.1 s1.2 (sat_in _).1 (sat_in _).2 (sat_in _).1 (sat_in _).2 (sat_in _).1 (sat_in _).2 (sat_in _).1 (sat_in _).2 (sat_in _).1 (sat_in _).2
  · rw [sampP, if_neg h] at hz
    simp only [fallP, Pst.mk.injEq] at hz
    obtain ⟨e1, e2, e3⟩ := hz
    have c3 := clampN_in (sat (le - 1)) 0 mo (sat_in _).1 (sat_in _).2 (by omega) (by omega) mo0 mo1
    rw [← e2, ← e3]
    by_cases hn : sat (prodN su 2147483648) < 0
    · rw [show c1 = 0 from by rw [← e1]; unfold mx; omega]
      exact rfall_n su la le sp kp ki kd li st mo u _ _ _ _ (by omega) (Lib.hid rfl) (Lib.hid rfl) hn (Lib.hid rfl) (Lib.hid rfl) w su0 su1 la0 la1 le0 le1 sp0 sp1 kp0 kp1 ki0 ki1 kd0 kd1 li0 li1 st0 st1 mo0 mo1 u0 u1 (sat_in _).1 (sat_in _).2 (sat_in _).1 (sat_in _).2 (sat_in _).1 (sat_in _).2 c3.1 c3.2
    · rw [show c1 = sat (prodN su 2147483648) from by rw [← e1]; unfold mx; omega]
      exact rfall_p su la le sp kp ki kd li st mo u _ _ _ _ (by omega) (Lib.hid rfl) (Lib.hid rfl) hn (Lib.hid rfl) (Lib.hid rfl) w su0 su1 la0 la1 le0 le1 sp0 sp1 kp0 kp1 ki0 ki1 kd0 kd1 li0 li1 st0 st1 mo0 mo1 u0 u1 (sat_in _).1 (sat_in _).2 (sat_in _).1 (sat_in _).2 (sat_in _).1 (sat_in _).2 c3.1 c3.2
end Go.Proofs.Ytfbkimhblfpibaa
