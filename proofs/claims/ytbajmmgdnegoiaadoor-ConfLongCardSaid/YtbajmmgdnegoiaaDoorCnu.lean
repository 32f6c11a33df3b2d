/- The document's example. -/
import Derived.Test.YtbajmmgdnegoiaaDoorCnt
import Derived.Test.YtbajmmgdnegoiaaDoorCnob
namespace Go.Proofs.YtbajmmgdnegoiaaDoor
open Go.ChangeShapes Go.WideShapes Go.ChangeAt Go.RowKit Kn
set_option linter.unusedVariables false
set_option linter.unusedSimpArgs false
def exT : ByteArray := ⟨#[116, 105, 101, 114, 115, 32, 50, 10, 114, 111, 111, 109, 32, 57]⟩
def exC : Cf := ⟨2, 9, 5, 100, 50, 10, 20, 1000, 2147483648, 4294967296, 1073741824, 0, 1099511627776, 64, 4, 4⟩
set_option maxRecDepth 100000 in
theorem ex_err : endE (linesE (exT.size + 1) exT (fun _ => false) dfv) = 0 := by kernel_rfl
set_option maxRecDepth 100000 in
theorem ex_val : endV (linesE (exT.size + 1) exT (fun _ => false) dfv) = exC := by kernel_rfl
theorem parse_ex (w : World) (hs : Std w) : Calls Tryd.prog 21 #[.string ⟨#[116, 105, 101, 114, 115, 32, 50, 10, 114, 111, 111, 109, 32, 57]⟩] w fun e w' => e = .returned (.tuple #[.agg #[.int .i64 2, .int .i64 9, .int .i64 5, .int .i64 100, .int .i64 50, .int .i64 10, .int .i64 20, .int .i64 1000, .int .i64 2147483648, .int .i64 4294967296, .int .i64 1073741824, .int .i64 0, .int .i64 1099511627776, .int .i64 64, .int .i64 4, .int .i64 4], .int .i64 0]) ∧ Below w.heap.size w w' := by
  have h := parse_short exT (by decide) w hs
  rw [ex_err, ex_val] at h
  exact h
set_option maxRecDepth 20000 in
set_option maxHeartbeats 4000000 in
theorem awake13 (w : World) (hs : Std w) : Calls Tryd.prog 7 #[] w fun e w' => e = .returned (.bool true) ∧ Below w.heap.size w w' := by
  go_enter Tryd.func7, Tryd.ntmps7
  go_wp2_with fail
  refine (parse_ex w hs).mono ?_
  rintro e x1 ⟨rfl, hb1⟩
  go_upto_region 2 with fail
  refine wp_worldx (fun wx => Bxs w wx [(x1.heap.size, 24, [.int .i64 2, .int .i64 9, .int .i64 5, .int .i64 100, .int .i64 50, .int .i64 10, .int .i64 20, .int .i64 1000, .int .i64 2147483648, .int .i64 4294967296, .int .i64 1073741824, .int .i64 0, .int .i64 1099511627776, .int .i64 64, .int .i64 4, .int .i64 4])]) ?_ ?_
  · have z := ((Bxs.nil_ w).below hb1)
    exact z.alloc_ _ _ (by simp)
  rintro x2 bx
  have BX := Lib.hid bx
  clear bx hb1 hs
  go_wp2_with fail
  refine (cdef_any _).mono ?_
  rintro e x3 ⟨rfl, hb3⟩
  have bx : Bxs w x3 [(x1.heap.size, 24, [.int .i64 2, .int .i64 9, .int .i64 5, .int .i64 100, .int .i64 50, .int .i64 10, .int .i64 20, .int .i64 1000, .int .i64 2147483648, .int .i64 4294967296, .int .i64 1073741824, .int .i64 0, .int .i64 1099511627776, .int .i64 64, .int .i64 4, .int .i64 4])] := (BX.out).below hb3
  clear hb3 BX
  have BX := Lib.hid bx
  clear bx
  go_upto_region 4 with fail
  refine wp_worldx (fun wx => Bxs w wx [(x1.heap.size, 24, [.int .i64 2, .int .i64 9, .int .i64 5, .int .i64 100, .int .i64 50, .int .i64 10, .int .i64 20, .int .i64 1000, .int .i64 2147483648, .int .i64 4294967296, .int .i64 1073741824, .int .i64 0, .int .i64 1099511627776, .int .i64 64, .int .i64 4, .int .i64 4]), (x3.heap.size, 24, [.int .i64 2, .int .i64 9, .int .i64 5, .int .i64 100, .int .i64 50, .int .i64 10, .int .i64 20, .int .i64 1000, .int .i64 2147483648, .int .i64 4294967296, .int .i64 1073741824, .int .i64 0, .int .i64 1099511627776, .int .i64 64, .int .i64 4, .int .i64 4])]) ?_ ?_
  · exact BX.out.alloc_ [.int .i64 2, .int .i64 9, .int .i64 5, .int .i64 100, .int .i64 50, .int .i64 10, .int .i64 20, .int .i64 1000, .int .i64 2147483648, .int .i64 4294967296, .int .i64 1073741824, .int .i64 0, .int .i64 1099511627776, .int .i64 64, .int .i64 4, .int .i64 4] 24 (rfl : x3.heap.size = x3.heap.size)
  rintro x4 bx
  clear BX
  have BX := Lib.hid bx
  clear bx
  have p0 : x4.cell? ⟨x1.heap.size, 0, none⟩ = some (.int .i64 2) := (BX.out.bl 0 _ _ _ rfl).val rfl
  have q0 : x4.cell? ⟨x3.heap.size, 0, none⟩ = some (.int .i64 2) := (BX.out.bl 1 _ _ _ rfl).val rfl
  have p1 : x4.cell? ⟨x1.heap.size, 1, none⟩ = some (.int .i64 9) := (BX.out.bl 0 _ _ _ rfl).val rfl
  have q1 : x4.cell? ⟨x3.heap.size, 1, none⟩ = some (.int .i64 9) := (BX.out.bl 1 _ _ _ rfl).val rfl
  have p2 : x4.cell? ⟨x1.heap.size, 2, none⟩ = some (.int .i64 5) := (BX.out.bl 0 _ _ _ rfl).val rfl
  have q2 : x4.cell? ⟨x3.heap.size, 2, none⟩ = some (.int .i64 5) := (BX.out.bl 1 _ _ _ rfl).val rfl
  have p3 : x4.cell? ⟨x1.heap.size, 3, none⟩ = some (.int .i64 100) := (BX.out.bl 0 _ _ _ rfl).val rfl
  have q3 : x4.cell? ⟨x3.heap.size, 3, none⟩ = some (.int .i64 100) := (BX.out.bl 1 _ _ _ rfl).val rfl
  have p4 : x4.cell? ⟨x1.heap.size, 4, none⟩ = some (.int .i64 50) := (BX.out.bl 0 _ _ _ rfl).val rfl
  have q4 : x4.cell? ⟨x3.heap.size, 4, none⟩ = some (.int .i64 50) := (BX.out.bl 1 _ _ _ rfl).val rfl
  have p5 : x4.cell? ⟨x1.heap.size, 5, none⟩ = some (.int .i64 10) := (BX.out.bl 0 _ _ _ rfl).val rfl
  have q5 : x4.cell? ⟨x3.heap.size, 5, none⟩ = some (.int .i64 10) := (BX.out.bl 1 _ _ _ rfl).val rfl
  have p6 : x4.cell? ⟨x1.heap.size, 6, none⟩ = some (.int .i64 20) := (BX.out.bl 0 _ _ _ rfl).val rfl
  have q6 : x4.cell? ⟨x3.heap.size, 6, none⟩ = some (.int .i64 20) := (BX.out.bl 1 _ _ _ rfl).val rfl
  have p7 : x4.cell? ⟨x1.heap.size, 7, none⟩ = some (.int .i64 1000) := (BX.out.bl 0 _ _ _ rfl).val rfl
  have q7 : x4.cell? ⟨x3.heap.size, 7, none⟩ = some (.int .i64 1000) := (BX.out.bl 1 _ _ _ rfl).val rfl
  have p8 : x4.cell? ⟨x1.heap.size, 8, none⟩ = some (.int .i64 2147483648) := (BX.out.bl 0 _ _ _ rfl).val rfl
  have q8 : x4.cell? ⟨x3.heap.size, 8, none⟩ = some (.int .i64 2147483648) := (BX.out.bl 1 _ _ _ rfl).val rfl
  have p9 : x4.cell? ⟨x1.heap.size, 9, none⟩ = some (.int .i64 4294967296) := (BX.out.bl 0 _ _ _ rfl).val rfl
  have q9 : x4.cell? ⟨x3.heap.size, 9, none⟩ = some (.int .i64 4294967296) := (BX.out.bl 1 _ _ _ rfl).val rfl
  have p10 : x4.cell? ⟨x1.heap.size, 10, none⟩ = some (.int .i64 1073741824) := (BX.out.bl 0 _ _ _ rfl).val rfl
  have q10 : x4.cell? ⟨x3.heap.size, 10, none⟩ = some (.int .i64 1073741824) := (BX.out.bl 1 _ _ _ rfl).val rfl
  have p11 : x4.cell? ⟨x1.heap.size, 11, none⟩ = some (.int .i64 0) := (BX.out.bl 0 _ _ _ rfl).val rfl
  have q11 : x4.cell? ⟨x3.heap.size, 11, none⟩ = some (.int .i64 0) := (BX.out.bl 1 _ _ _ rfl).val rfl
  have p12 : x4.cell? ⟨x1.heap.size, 12, none⟩ = some (.int .i64 1099511627776) := (BX.out.bl 0 _ _ _ rfl).val rfl
  have q12 : x4.cell? ⟨x3.heap.size, 12, none⟩ = some (.int .i64 1099511627776) := (BX.out.bl 1 _ _ _ rfl).val rfl
  have p13 : x4.cell? ⟨x1.heap.size, 13, none⟩ = some (.int .i64 64) := (BX.out.bl 0 _ _ _ rfl).val rfl
  have q13 : x4.cell? ⟨x3.heap.size, 13, none⟩ = some (.int .i64 64) := (BX.out.bl 1 _ _ _ rfl).val rfl
  have p14 : x4.cell? ⟨x1.heap.size, 14, none⟩ = some (.int .i64 4) := (BX.out.bl 0 _ _ _ rfl).val rfl
  have q14 : x4.cell? ⟨x3.heap.size, 14, none⟩ = some (.int .i64 4) := (BX.out.bl 1 _ _ _ rfl).val rfl
  have p15 : x4.cell? ⟨x1.heap.size, 15, none⟩ = some (.int .i64 4) := (BX.out.bl 0 _ _ _ rfl).val rfl
  have q15 : x4.cell? ⟨x3.heap.size, 15, none⟩ = some (.int .i64 4) := (BX.out.bl 1 _ _ _ rfl).val rfl
  go_wp2_with fail
  refine (cmost_any exC _).mono ?_
  rintro e x5 ⟨rfl, hb5⟩
  have hd := Lib.hid (BX.out.below hb5).be
  clear hb5 BX
  rw [show mostW exC = 256 from by decide +kernel]
  go_wp2_with fail
  go_ret
  exact ⟨rfl, hd.out⟩
end Go.Proofs.YtbajmmgdnegoiaaDoor
