/- The document's example of mode; a turn, spelt out. -/
import Derived.Test.YtmkdmjcmgbpomaaMod
namespace Go.Proofs.Ytmkdmjcmgbpomaa
open Go.ChangeShapes Go.WideShapes Go.ChangeAt Go.RowKit Kn
set_option linter.unusedVariables false
set_option linter.unusedSimpArgs false
theorem mturn_lit {li li' : Bool} {si tu si' tu' : Int} (hi lo dw now old bk : Int) (hz : turnM ⟨li, si, tu⟩ hi lo dw now old bk = ⟨li', si', tu'⟩) (w : World) (so : (⟨li, si, tu⟩ : Mst).ok) (now0 : -9223372036854775808 ≤ now) (now1 : now ≤ 9223372036854775807) :
    Calls Try.prog 7 #[.agg #[.bool li, .int .i64 si, .int .u64 tu], .agg #[.int .i64 hi, .int .i64 lo, .int .i64 dw], .int .i64 now, .int .i64 old, .int .i64 bk] w fun e w' => e = .returned (.agg #[.bool li', .int .i64 si', .int .u64 tu']) ∧ Below w.heap.size w w' := by
  have h := mturn_any ⟨li, si, tu⟩ hi lo dw now old bk w so now0 now1
  rw [hz] at h
  exact h
theorem rturn_lit {li li' : Bool} {si tu si' tu' : Int} (hi lo dw now old bk : Int) (hz : turnM ⟨li, si, tu⟩ hi lo dw now old bk = ⟨li', si', tu'⟩) (w : World) (so : (⟨li, si, tu⟩ : Mst).ok) (now0 : -9223372036854775808 ≤ now) (now1 : now ≤ 9223372036854775807) :
    Calls Try.prog 8 #[.agg #[.bool li, .int .i64 si, .int .u64 tu], .int .i64 hi, .int .i64 lo, .int .i64 dw, .int .i64 now, .int .i64 old, .int .i64 bk] w fun e w' => e = .returned (.agg #[.bool li', .int .i64 si', .int .u64 tu']) ∧ Below w.heap.size w w' := by
  have h := rturn_any ⟨li, si, tu⟩ hi lo dw now old bk w so now0 now1
  rw [hz] at h
  exact h
set_option maxHeartbeats 1000000 in
theorem awake10 (w : World) :
    Calls Try.prog 6 #[] w fun e w' => e = .returned (.bool true) ∧ Below w.heap.size w w' := by
  go_enter Try.func6, Try.ntmps6
  go_upto_region 2 with fail
  refine wp_worldx (fun wx => Bxs w wx [(w.heap.size, 26, [.int .i64 50, .int .i64 10, .int .i64 0])]) ((Bxs.nil_ w).alloc_ _ _ (by simp)) ?_
  rintro x1 bx
  have BX := Lib.hid bx
  clear bx
  have p0_0 : x1.cell? ⟨w.heap.size, 0, none⟩ = some (.int .i64 50) := (BX.out.bl 0 _ _ _ rfl).val rfl
  have p0_1 : x1.cell? ⟨w.heap.size, 1, none⟩ = some (.int .i64 10) := (BX.out.bl 0 _ _ _ rfl).val rfl
  have p0_2 : x1.cell? ⟨w.heap.size, 2, none⟩ = some (.int .i64 0) := (BX.out.bl 0 _ _ _ rfl).val rfl
  have z0 : ∀ k, x1.frozen? ⟨w.heap.size, k, none⟩ = false := (BX.out.bl 0 _ _ _ rfl).free
  have y0 : w.heap.size < x1.heap.size := (BX.out.bl 0 _ _ _ rfl).size
  go_wp2_with fail
  refine (mturn_lit (li := false) (si := 0) (tu := 0) (li' := true) (si' := 0) (tu' := 1) 50 10 0 0 50 1 (by rfl) _ ⟨by decide, by decide, by decide, by decide⟩ (by decide) (by decide)).mono ?_
  rintro e x2 ⟨rfl, hb⟩
  have bx : Bxs w x2 [(w.heap.size, 26, [.int .i64 50, .int .i64 10, .int .i64 0])] := (BX.out).below hb
  clear p0_0 p0_1 p0_2 z0 y0
  clear hb BX
  have BX := Lib.hid bx
  clear bx
  have p0_0 : x2.cell? ⟨w.heap.size, 0, none⟩ = some (.int .i64 50) := (BX.out.bl 0 _ _ _ rfl).val rfl
  have p0_1 : x2.cell? ⟨w.heap.size, 1, none⟩ = some (.int .i64 10) := (BX.out.bl 0 _ _ _ rfl).val rfl
  have p0_2 : x2.cell? ⟨w.heap.size, 2, none⟩ = some (.int .i64 0) := (BX.out.bl 0 _ _ _ rfl).val rfl
  have z0 : ∀ k, x2.frozen? ⟨w.heap.size, k, none⟩ = false := (BX.out.bl 0 _ _ _ rfl).free
  have y0 : w.heap.size < x2.heap.size := (BX.out.bl 0 _ _ _ rfl).size
  go_upto_region 3 with fail
  clear p0_0 p0_1 p0_2 z0 y0
  refine wp_worldx (fun wx => Bxs w wx [(w.heap.size, 26, [.int .i64 50, .int .i64 10, .int .i64 0]), (x2.heap.size, 24, [.bool true, .int .i64 0, .int .u64 1])]) ((BX.out).alloc_ _ _ (by simp)) ?_
  clear BX
  rintro x3 bx
  have BX := Lib.hid bx
  clear bx
  have p0_0 : x3.cell? ⟨w.heap.size, 0, none⟩ = some (.int .i64 50) := (BX.out.bl 0 _ _ _ rfl).val rfl
  have p0_1 : x3.cell? ⟨w.heap.size, 1, none⟩ = some (.int .i64 10) := (BX.out.bl 0 _ _ _ rfl).val rfl
  have p0_2 : x3.cell? ⟨w.heap.size, 2, none⟩ = some (.int .i64 0) := (BX.out.bl 0 _ _ _ rfl).val rfl
  have z0 : ∀ k, x3.frozen? ⟨w.heap.size, k, none⟩ = false := (BX.out.bl 0 _ _ _ rfl).free
  have y0 : w.heap.size < x3.heap.size := (BX.out.bl 0 _ _ _ rfl).size
  have p1_0 : x3.cell? ⟨x2.heap.size, 0, none⟩ = some (.bool true) := (BX.out.bl 1 _ _ _ rfl).val rfl
  have p1_1 : x3.cell? ⟨x2.heap.size, 1, none⟩ = some (.int .i64 0) := (BX.out.bl 1 _ _ _ rfl).val rfl
  have p1_2 : x3.cell? ⟨x2.heap.size, 2, none⟩ = some (.int .u64 1) := (BX.out.bl 1 _ _ _ rfl).val rfl
  have z1 : ∀ k, x3.frozen? ⟨x2.heap.size, k, none⟩ = false := (BX.out.bl 1 _ _ _ rfl).free
  have y1 : x2.heap.size < x3.heap.size := (BX.out.bl 1 _ _ _ rfl).size
  go_wp2_with fail
  refine (mturn_lit (li := true) (si := 0) (tu := 1) (li' := true) (si' := 0) (tu' := 1) 50 10 0 0 10 1 (by rfl) _ ⟨by decide, by decide, by decide, by decide⟩ (by decide) (by decide)).mono ?_
  rintro e x4 ⟨rfl, hb⟩
  have bx : Bxs w x4 [(w.heap.size, 26, [.int .i64 50, .int .i64 10, .int .i64 0]), (x2.heap.size, 24, [.bool true, .int .i64 0, .int .u64 1])] := (BX.out).below hb
  clear p0_0 p0_1 p0_2 z0 y0 p1_0 p1_1 p1_2 z1 y1
  clear hb BX
  have BX := Lib.hid bx
  clear bx
  have p0_0 : x4.cell? ⟨w.heap.size, 0, none⟩ = some (.int .i64 50) := (BX.out.bl 0 _ _ _ rfl).val rfl
  have p0_1 : x4.cell? ⟨w.heap.size, 1, none⟩ = some (.int .i64 10) := (BX.out.bl 0 _ _ _ rfl).val rfl
  have p0_2 : x4.cell? ⟨w.heap.size, 2, none⟩ = some (.int .i64 0) := (BX.out.bl 0 _ _ _ rfl).val rfl
  have z0 : ∀ k, x4.frozen? ⟨w.heap.size, k, none⟩ = false := (BX.out.bl 0 _ _ _ rfl).free
  have y0 : w.heap.size < x4.heap.size := (BX.out.bl 0 _ _ _ rfl).size
  have p1_0 : x4.cell? ⟨x2.heap.size, 0, none⟩ = some (.bool true) := (BX.out.bl 1 _ _ _ rfl).val rfl
  have p1_1 : x4.cell? ⟨x2.heap.size, 1, none⟩ = some (.int .i64 0) := (BX.out.bl 1 _ _ _ rfl).val rfl
  have p1_2 : x4.cell? ⟨x2.heap.size, 2, none⟩ = some (.int .u64 1) := (BX.out.bl 1 _ _ _ rfl).val rfl
  have z1 : ∀ k, x4.frozen? ⟨x2.heap.size, k, none⟩ = false := (BX.out.bl 1 _ _ _ rfl).free
  have y1 : x2.heap.size < x4.heap.size := (BX.out.bl 1 _ _ _ rfl).size
  go_upto_region 4 with fail
  clear p0_0 p0_1 p0_2 z0 y0 p1_0 p1_1 p1_2 z1 y1
  refine wp_worldx (fun wx => Bxs w wx [(w.heap.size, 26, [.int .i64 50, .int .i64 10, .int .i64 0]), (x2.heap.size, 24, [.bool true, .int .i64 0, .int .u64 1]), (x4.heap.size, 24, [.bool true, .int .i64 0, .int .u64 1])]) ((BX.out).alloc_ _ _ (by simp)) ?_
  clear BX
  rintro x5 bx
  have BX := Lib.hid bx
  clear bx
  have p0_0 : x5.cell? ⟨w.heap.size, 0, none⟩ = some (.int .i64 50) := (BX.out.bl 0 _ _ _ rfl).val rfl
  have p0_1 : x5.cell? ⟨w.heap.size, 1, none⟩ = some (.int .i64 10) := (BX.out.bl 0 _ _ _ rfl).val rfl
  have p0_2 : x5.cell? ⟨w.heap.size, 2, none⟩ = some (.int .i64 0) := (BX.out.bl 0 _ _ _ rfl).val rfl
  have z0 : ∀ k, x5.frozen? ⟨w.heap.size, k, none⟩ = false := (BX.out.bl 0 _ _ _ rfl).free
  have y0 : w.heap.size < x5.heap.size := (BX.out.bl 0 _ _ _ rfl).size
  have p1_0 : x5.cell? ⟨x2.heap.size, 0, none⟩ = some (.bool true) := (BX.out.bl 1 _ _ _ rfl).val rfl
  have p1_1 : x5.cell? ⟨x2.heap.size, 1, none⟩ = some (.int .i64 0) := (BX.out.bl 1 _ _ _ rfl).val rfl
  have p1_2 : x5.cell? ⟨x2.heap.size, 2, none⟩ = some (.int .u64 1) := (BX.out.bl 1 _ _ _ rfl).val rfl
  have z1 : ∀ k, x5.frozen? ⟨x2.heap.size, k, none⟩ = false := (BX.out.bl 1 _ _ _ rfl).free
  have y1 : x2.heap.size < x5.heap.size := (BX.out.bl 1 _ _ _ rfl).size
  have p2_0 : x5.cell? ⟨x4.heap.size, 0, none⟩ = some (.bool true) := (BX.out.bl 2 _ _ _ rfl).val rfl
  have p2_1 : x5.cell? ⟨x4.heap.size, 1, none⟩ = some (.int .i64 0) := (BX.out.bl 2 _ _ _ rfl).val rfl
  have p2_2 : x5.cell? ⟨x4.heap.size, 2, none⟩ = some (.int .u64 1) := (BX.out.bl 2 _ _ _ rfl).val rfl
  have z2 : ∀ k, x5.frozen? ⟨x4.heap.size, k, none⟩ = false := (BX.out.bl 2 _ _ _ rfl).free
  have y2 : x4.heap.size < x5.heap.size := (BX.out.bl 2 _ _ _ rfl).size
  go_wp2_with fail
  refine (mback_any _ _ _ _).mono ?_
  rintro e x6 ⟨rfl, hb⟩
  have bx : Bxs w x6 [(w.heap.size, 26, [.int .i64 50, .int .i64 10, .int .i64 0]), (x2.heap.size, 24, [.bool true, .int .i64 0, .int .u64 1]), (x4.heap.size, 24, [.bool true, .int .i64 0, .int .u64 1])] := (BX.out).below hb
  clear p0_0 p0_1 p0_2 z0 y0 p1_0 p1_1 p1_2 z1 y1 p2_0 p2_1 p2_2 z2 y2
  clear hb BX
  have BX := Lib.hid bx
  clear bx
  have p0_0 : x6.cell? ⟨w.heap.size, 0, none⟩ = some (.int .i64 50) := (BX.out.bl 0 _ _ _ rfl).val rfl
  have p0_1 : x6.cell? ⟨w.heap.size, 1, none⟩ = some (.int .i64 10) := (BX.out.bl 0 _ _ _ rfl).val rfl
  have p0_2 : x6.cell? ⟨w.heap.size, 2, none⟩ = some (.int .i64 0) := (BX.out.bl 0 _ _ _ rfl).val rfl
  have z0 : ∀ k, x6.frozen? ⟨w.heap.size, k, none⟩ = false := (BX.out.bl 0 _ _ _ rfl).free
  have y0 : w.heap.size < x6.heap.size := (BX.out.bl 0 _ _ _ rfl).size
  have p1_0 : x6.cell? ⟨x2.heap.size, 0, none⟩ = some (.bool true) := (BX.out.bl 1 _ _ _ rfl).val rfl
  have p1_1 : x6.cell? ⟨x2.heap.size, 1, none⟩ = some (.int .i64 0) := (BX.out.bl 1 _ _ _ rfl).val rfl
  have p1_2 : x6.cell? ⟨x2.heap.size, 2, none⟩ = some (.int .u64 1) := (BX.out.bl 1 _ _ _ rfl).val rfl
  have z1 : ∀ k, x6.frozen? ⟨x2.heap.size, k, none⟩ = false := (BX.out.bl 1 _ _ _ rfl).free
  have y1 : x2.heap.size < x6.heap.size := (BX.out.bl 1 _ _ _ rfl).size
  have p2_0 : x6.cell? ⟨x4.heap.size, 0, none⟩ = some (.bool true) := (BX.out.bl 2 _ _ _ rfl).val rfl
  have p2_1 : x6.cell? ⟨x4.heap.size, 1, none⟩ = some (.int .i64 0) := (BX.out.bl 2 _ _ _ rfl).val rfl
  have p2_2 : x6.cell? ⟨x4.heap.size, 2, none⟩ = some (.int .u64 1) := (BX.out.bl 2 _ _ _ rfl).val rfl
  have z2 : ∀ k, x6.frozen? ⟨x4.heap.size, k, none⟩ = false := (BX.out.bl 2 _ _ _ rfl).free
  have y2 : x4.heap.size < x6.heap.size := (BX.out.bl 2 _ _ _ rfl).size
  go_wp2_with fail
  refine (mback_any _ _ _ _).mono ?_
  rintro e x7 ⟨rfl, hb⟩
  have bx : Bxs w x7 [(w.heap.size, 26, [.int .i64 50, .int .i64 10, .int .i64 0]), (x2.heap.size, 24, [.bool true, .int .i64 0, .int .u64 1]), (x4.heap.size, 24, [.bool true, .int .i64 0, .int .u64 1])] := (BX.out).below hb
  clear p0_0 p0_1 p0_2 z0 y0 p1_0 p1_1 p1_2 z1 y1 p2_0 p2_1 p2_2 z2 y2
  clear hb BX
  have BX := Lib.hid bx
  clear bx
  have p0_0 : x7.cell? ⟨w.heap.size, 0, none⟩ = some (.int .i64 50) := (BX.out.bl 0 _ _ _ rfl).val rfl
  have p0_1 : x7.cell? ⟨w.heap.size, 1, none⟩ = some (.int .i64 10) := (BX.out.bl 0 _ _ _ rfl).val rfl
  have p0_2 : x7.cell? ⟨w.heap.size, 2, none⟩ = some (.int .i64 0) := (BX.out.bl 0 _ _ _ rfl).val rfl
  have z0 : ∀ k, x7.frozen? ⟨w.heap.size, k, none⟩ = false := (BX.out.bl 0 _ _ _ rfl).free
  have y0 : w.heap.size < x7.heap.size := (BX.out.bl 0 _ _ _ rfl).size
  have p1_0 : x7.cell? ⟨x2.heap.size, 0, none⟩ = some (.bool true) := (BX.out.bl 1 _ _ _ rfl).val rfl
  have p1_1 : x7.cell? ⟨x2.heap.size, 1, none⟩ = some (.int .i64 0) := (BX.out.bl 1 _ _ _ rfl).val rfl
  have p1_2 : x7.cell? ⟨x2.heap.size, 2, none⟩ = some (.int .u64 1) := (BX.out.bl 1 _ _ _ rfl).val rfl
  have z1 : ∀ k, x7.frozen? ⟨x2.heap.size, k, none⟩ = false := (BX.out.bl 1 _ _ _ rfl).free
  have y1 : x2.heap.size < x7.heap.size := (BX.out.bl 1 _ _ _ rfl).size
  have p2_0 : x7.cell? ⟨x4.heap.size, 0, none⟩ = some (.bool true) := (BX.out.bl 2 _ _ _ rfl).val rfl
  have p2_1 : x7.cell? ⟨x4.heap.size, 1, none⟩ = some (.int .i64 0) := (BX.out.bl 2 _ _ _ rfl).val rfl
  have p2_2 : x7.cell? ⟨x4.heap.size, 2, none⟩ = some (.int .u64 1) := (BX.out.bl 2 _ _ _ rfl).val rfl
  have z2 : ∀ k, x7.frozen? ⟨x4.heap.size, k, none⟩ = false := (BX.out.bl 2 _ _ _ rfl).free
  have y2 : x4.heap.size < x7.heap.size := (BX.out.bl 2 _ _ _ rfl).size
  go_wp2_with fail
  refine (mturn_lit (li := true) (si := 0) (tu := 1) (li' := false) (si' := 0) (tu' := 2) 50 10 0 0 9 1 (by rfl) _ ⟨by decide, by decide, by decide, by decide⟩ (by decide) (by decide)).mono ?_
  rintro e x8 ⟨rfl, hb⟩
  have bx : Bxs w x8 [(w.heap.size, 26, [.int .i64 50, .int .i64 10, .int .i64 0]), (x2.heap.size, 24, [.bool true, .int .i64 0, .int .u64 1]), (x4.heap.size, 24, [.bool true, .int .i64 0, .int .u64 1])] := (BX.out).below hb
  clear p0_0 p0_1 p0_2 z0 y0 p1_0 p1_1 p1_2 z1 y1 p2_0 p2_1 p2_2 z2 y2
  clear hb BX
  have BX := Lib.hid bx
  clear bx
  have p0_0 : x8.cell? ⟨w.heap.size, 0, none⟩ = some (.int .i64 50) := (BX.out.bl 0 _ _ _ rfl).val rfl
  have p0_1 : x8.cell? ⟨w.heap.size, 1, none⟩ = some (.int .i64 10) := (BX.out.bl 0 _ _ _ rfl).val rfl
  have p0_2 : x8.cell? ⟨w.heap.size, 2, none⟩ = some (.int .i64 0) := (BX.out.bl 0 _ _ _ rfl).val rfl
  have z0 : ∀ k, x8.frozen? ⟨w.heap.size, k, none⟩ = false := (BX.out.bl 0 _ _ _ rfl).free
  have y0 : w.heap.size < x8.heap.size := (BX.out.bl 0 _ _ _ rfl).size
  have p1_0 : x8.cell? ⟨x2.heap.size, 0, none⟩ = some (.bool true) := (BX.out.bl 1 _ _ _ rfl).val rfl
  have p1_1 : x8.cell? ⟨x2.heap.size, 1, none⟩ = some (.int .i64 0) := (BX.out.bl 1 _ _ _ rfl).val rfl
  have p1_2 : x8.cell? ⟨x2.heap.size, 2, none⟩ = some (.int .u64 1) := (BX.out.bl 1 _ _ _ rfl).val rfl
  have z1 : ∀ k, x8.frozen? ⟨x2.heap.size, k, none⟩ = false := (BX.out.bl 1 _ _ _ rfl).free
  have y1 : x2.heap.size < x8.heap.size := (BX.out.bl 1 _ _ _ rfl).size
  have p2_0 : x8.cell? ⟨x4.heap.size, 0, none⟩ = some (.bool true) := (BX.out.bl 2 _ _ _ rfl).val rfl
  have p2_1 : x8.cell? ⟨x4.heap.size, 1, none⟩ = some (.int .i64 0) := (BX.out.bl 2 _ _ _ rfl).val rfl
  have p2_2 : x8.cell? ⟨x4.heap.size, 2, none⟩ = some (.int .u64 1) := (BX.out.bl 2 _ _ _ rfl).val rfl
  have z2 : ∀ k, x8.frozen? ⟨x4.heap.size, k, none⟩ = false := (BX.out.bl 2 _ _ _ rfl).free
  have y2 : x4.heap.size < x8.heap.size := (BX.out.bl 2 _ _ _ rfl).size
  go_wp2_with fail
  refine (mback_any _ _ _ _).mono ?_
  rintro e x9 ⟨rfl, hb⟩
  have bx : Bxs w x9 [(w.heap.size, 26, [.int .i64 50, .int .i64 10, .int .i64 0]), (x2.heap.size, 24, [.bool true, .int .i64 0, .int .u64 1]), (x4.heap.size, 24, [.bool true, .int .i64 0, .int .u64 1])] := (BX.out).below hb
  clear p0_0 p0_1 p0_2 z0 y0 p1_0 p1_1 p1_2 z1 y1 p2_0 p2_1 p2_2 z2 y2
  clear hb BX
  have BX := Lib.hid bx
  clear bx
  have p0_0 : x9.cell? ⟨w.heap.size, 0, none⟩ = some (.int .i64 50) := (BX.out.bl 0 _ _ _ rfl).val rfl
  have p0_1 : x9.cell? ⟨w.heap.size, 1, none⟩ = some (.int .i64 10) := (BX.out.bl 0 _ _ _ rfl).val rfl
  have p0_2 : x9.cell? ⟨w.heap.size, 2, none⟩ = some (.int .i64 0) := (BX.out.bl 0 _ _ _ rfl).val rfl
  have z0 : ∀ k, x9.frozen? ⟨w.heap.size, k, none⟩ = false := (BX.out.bl 0 _ _ _ rfl).free
  have y0 : w.heap.size < x9.heap.size := (BX.out.bl 0 _ _ _ rfl).size
  have p1_0 : x9.cell? ⟨x2.heap.size, 0, none⟩ = some (.bool true) := (BX.out.bl 1 _ _ _ rfl).val rfl
  have p1_1 : x9.cell? ⟨x2.heap.size, 1, none⟩ = some (.int .i64 0) := (BX.out.bl 1 _ _ _ rfl).val rfl
  have p1_2 : x9.cell? ⟨x2.heap.size, 2, none⟩ = some (.int .u64 1) := (BX.out.bl 1 _ _ _ rfl).val rfl
  have z1 : ∀ k, x9.frozen? ⟨x2.heap.size, k, none⟩ = false := (BX.out.bl 1 _ _ _ rfl).free
  have y1 : x2.heap.size < x9.heap.size := (BX.out.bl 1 _ _ _ rfl).size
  have p2_0 : x9.cell? ⟨x4.heap.size, 0, none⟩ = some (.bool true) := (BX.out.bl 2 _ _ _ rfl).val rfl
  have p2_1 : x9.cell? ⟨x4.heap.size, 1, none⟩ = some (.int .i64 0) := (BX.out.bl 2 _ _ _ rfl).val rfl
  have p2_2 : x9.cell? ⟨x4.heap.size, 2, none⟩ = some (.int .u64 1) := (BX.out.bl 2 _ _ _ rfl).val rfl
  have z2 : ∀ k, x9.frozen? ⟨x4.heap.size, k, none⟩ = false := (BX.out.bl 2 _ _ _ rfl).free
  have y2 : x4.heap.size < x9.heap.size := (BX.out.bl 2 _ _ _ rfl).size
  go_wp2_with fail
  refine (mright_r 50 10 0 true (Lib.hid (by decide)) _).mono ?_
  rintro e x10 ⟨rfl, hb⟩
  have bx : Bxs w x10 [(w.heap.size, 26, [.int .i64 50, .int .i64 10, .int .i64 0]), (x2.heap.size, 24, [.bool true, .int .i64 0, .int .u64 1]), (x4.heap.size, 24, [.bool true, .int .i64 0, .int .u64 1])] := (BX.out).below hb
  clear p0_0 p0_1 p0_2 z0 y0 p1_0 p1_1 p1_2 z1 y1 p2_0 p2_1 p2_2 z2 y2
  clear hb BX
  have BX := Lib.hid bx
  clear bx
  have p0_0 : x10.cell? ⟨w.heap.size, 0, none⟩ = some (.int .i64 50) := (BX.out.bl 0 _ _ _ rfl).val rfl
  have p0_1 : x10.cell? ⟨w.heap.size, 1, none⟩ = some (.int .i64 10) := (BX.out.bl 0 _ _ _ rfl).val rfl
  have p0_2 : x10.cell? ⟨w.heap.size, 2, none⟩ = some (.int .i64 0) := (BX.out.bl 0 _ _ _ rfl).val rfl
  have z0 : ∀ k, x10.frozen? ⟨w.heap.size, k, none⟩ = false := (BX.out.bl 0 _ _ _ rfl).free
  have y0 : w.heap.size < x10.heap.size := (BX.out.bl 0 _ _ _ rfl).size
  have p1_0 : x10.cell? ⟨x2.heap.size, 0, none⟩ = some (.bool true) := (BX.out.bl 1 _ _ _ rfl).val rfl
  have p1_1 : x10.cell? ⟨x2.heap.size, 1, none⟩ = some (.int .i64 0) := (BX.out.bl 1 _ _ _ rfl).val rfl
  have p1_2 : x10.cell? ⟨x2.heap.size, 2, none⟩ = some (.int .u64 1) := (BX.out.bl 1 _ _ _ rfl).val rfl
  have z1 : ∀ k, x10.frozen? ⟨x2.heap.size, k, none⟩ = false := (BX.out.bl 1 _ _ _ rfl).free
  have y1 : x2.heap.size < x10.heap.size := (BX.out.bl 1 _ _ _ rfl).size
  have p2_0 : x10.cell? ⟨x4.heap.size, 0, none⟩ = some (.bool true) := (BX.out.bl 2 _ _ _ rfl).val rfl
  have p2_1 : x10.cell? ⟨x4.heap.size, 1, none⟩ = some (.int .i64 0) := (BX.out.bl 2 _ _ _ rfl).val rfl
  have p2_2 : x10.cell? ⟨x4.heap.size, 2, none⟩ = some (.int .u64 1) := (BX.out.bl 2 _ _ _ rfl).val rfl
  have z2 : ∀ k, x10.frozen? ⟨x4.heap.size, k, none⟩ = false := (BX.out.bl 2 _ _ _ rfl).free
  have y2 : x4.heap.size < x10.heap.size := (BX.out.bl 2 _ _ _ rfl).size
  go_wp2_with fail
  refine bodyPost_ret (v := .bool true) (by simp [results, Try.results6, go_sem, *]) rfl ⟨rfl, ?_⟩
  exact (BX.out).be
end Go.Proofs.Ytmkdmjcmgbpomaa
