/- A text is parsed: the whole. -/
import Derived.Test.YtbajmmgdnegoiaaDoorCnoa
namespace Go.Proofs.YtbajmmgdnegoiaaDoor
open Go.ChangeShapes Go.WideShapes Go.ChangeAt Go.RowKit Kn
set_option linter.unusedVariables false
set_option linter.unusedSimpArgs false
set_option maxRecDepth 20000 in
set_option maxHeartbeats 8000000 in
theorem parse_short (s : ByteArray) (h : ¬ 20000 < s.size) (w : World) (hs : Std w) :
    Calls Tryd.prog 21 #[.string s] w fun e w' => e = .returned (.tuple #[(endV (linesE (s.size + 1) s (fun _ => false) dfv)).v, .int .i64 (endE (linesE (s.size + 1) s (fun _ => false) dfv))]) ∧ Below w.heap.size w w' := by
  obtain ⟨R, hR⟩ : ∃ R, linesE (s.size + 1) s (fun _ => false) dfv = R := ⟨_, rfl⟩
  rw [hR]
  have HR := Lib.hid hR
  clear hR
  have h1 : ¬ 20000 < (s.size : Int) := by omega
  have HS := Lib.hid hs
  clear hs
  go_enter Tryd.func21, Tryd.ntmps21
  go_upto_region 1 with fail
  refine wp_worldx (fun wx => Bxs w wx [(w.heap.size, 24, [.int .i64 0, .int .i64 0, .int .i64 0, .int .i64 0, .int .i64 0, .int .i64 0, .int .i64 0, .int .i64 0, .int .i64 0, .int .i64 0, .int .i64 0, .int .i64 0, .int .i64 0, .int .i64 0, .int .i64 0, .int .i64 0])]) ((Bxs.nil_ w).alloc_ _ _ (by simp)) ?_
  rintro x1 bx
  have BX := Lib.hid bx
  clear bx
  have p0_0 : x1.cell? ⟨w.heap.size, 0, none⟩ = some (.int .i64 0) := (BX.out.bl 0 _ _ _ rfl).val rfl
  have p0_1 : x1.cell? ⟨w.heap.size, 1, none⟩ = some (.int .i64 0) := (BX.out.bl 0 _ _ _ rfl).val rfl
  have p0_2 : x1.cell? ⟨w.heap.size, 2, none⟩ = some (.int .i64 0) := (BX.out.bl 0 _ _ _ rfl).val rfl
  have p0_3 : x1.cell? ⟨w.heap.size, 3, none⟩ = some (.int .i64 0) := (BX.out.bl 0 _ _ _ rfl).val rfl
  have p0_4 : x1.cell? ⟨w.heap.size, 4, none⟩ = some (.int .i64 0) := (BX.out.bl 0 _ _ _ rfl).val rfl
  have p0_5 : x1.cell? ⟨w.heap.size, 5, none⟩ = some (.int .i64 0) := (BX.out.bl 0 _ _ _ rfl).val rfl
  have p0_6 : x1.cell? ⟨w.heap.size, 6, none⟩ = some (.int .i64 0) := (BX.out.bl 0 _ _ _ rfl).val rfl
  have p0_7 : x1.cell? ⟨w.heap.size, 7, none⟩ = some (.int .i64 0) := (BX.out.bl 0 _ _ _ rfl).val rfl
  have p0_8 : x1.cell? ⟨w.heap.size, 8, none⟩ = some (.int .i64 0) := (BX.out.bl 0 _ _ _ rfl).val rfl
  have p0_9 : x1.cell? ⟨w.heap.size, 9, none⟩ = some (.int .i64 0) := (BX.out.bl 0 _ _ _ rfl).val rfl
  have p0_10 : x1.cell? ⟨w.heap.size, 10, none⟩ = some (.int .i64 0) := (BX.out.bl 0 _ _ _ rfl).val rfl
  have p0_11 : x1.cell? ⟨w.heap.size, 11, none⟩ = some (.int .i64 0) := (BX.out.bl 0 _ _ _ rfl).val rfl
  have p0_12 : x1.cell? ⟨w.heap.size, 12, none⟩ = some (.int .i64 0) := (BX.out.bl 0 _ _ _ rfl).val rfl
  have p0_13 : x1.cell? ⟨w.heap.size, 13, none⟩ = some (.int .i64 0) := (BX.out.bl 0 _ _ _ rfl).val rfl
  have p0_14 : x1.cell? ⟨w.heap.size, 14, none⟩ = some (.int .i64 0) := (BX.out.bl 0 _ _ _ rfl).val rfl
  have p0_15 : x1.cell? ⟨w.heap.size, 15, none⟩ = some (.int .i64 0) := (BX.out.bl 0 _ _ _ rfl).val rfl
  have z0 : ∀ k, x1.frozen? ⟨w.heap.size, k, none⟩ = false := (BX.out.bl 0 _ _ _ rfl).free
  have y0 : w.heap.size < x1.heap.size := (BX.out.bl 0 _ _ _ rfl).size
  have hx : True := trivial
  refine wp_scope_jumps 0 (fun a' w' => ∃ gf gc bx, ParR w R w.heap.size gf gc bx a' w') (fun a' _ => lenOf a') rfl ?_ ?_
  rotate_left
  · intro a' w' hJ
    apply wp_seq_k
    intro hk ha
    apply wp_skip
    exact ha _ _ (parse_pass w HS.out R rfl rfl a' w' hJ)
  go_wp2_with fail
  refine (cdef_any _).mono ?_
  rintro e x2 ⟨rfl, hb⟩
  have bx : Bxs w x2 [(w.heap.size, 24, [.int .i64 0, .int .i64 0, .int .i64 0, .int .i64 0, .int .i64 0, .int .i64 0, .int .i64 0, .int .i64 0, .int .i64 0, .int .i64 0, .int .i64 0, .int .i64 0, .int .i64 0, .int .i64 0, .int .i64 0, .int .i64 0])] := (BX.out).below hb
  clear p0_0 p0_1 p0_2 p0_3 p0_4 p0_5 p0_6 p0_7 p0_8 p0_9 p0_10 p0_11 p0_12 p0_13 p0_14 p0_15 z0 y0
  clear hb BX
  have BX := Lib.hid bx
  clear bx
  have p0_0 : x2.cell? ⟨w.heap.size, 0, none⟩ = some (.int .i64 0) := (BX.out.bl 0 _ _ _ rfl).val rfl
  have p0_1 : x2.cell? ⟨w.heap.size, 1, none⟩ = some (.int .i64 0) := (BX.out.bl 0 _ _ _ rfl).val rfl
  have p0_2 : x2.cell? ⟨w.heap.size, 2, none⟩ = some (.int .i64 0) := (BX.out.bl 0 _ _ _ rfl).val rfl
  have p0_3 : x2.cell? ⟨w.heap.size, 3, none⟩ = some (.int .i64 0) := (BX.out.bl 0 _ _ _ rfl).val rfl
  have p0_4 : x2.cell? ⟨w.heap.size, 4, none⟩ = some (.int .i64 0) := (BX.out.bl 0 _ _ _ rfl).val rfl
  have p0_5 : x2.cell? ⟨w.heap.size, 5, none⟩ = some (.int .i64 0) := (BX.out.bl 0 _ _ _ rfl).val rfl
  have p0_6 : x2.cell? ⟨w.heap.size, 6, none⟩ = some (.int .i64 0) := (BX.out.bl 0 _ _ _ rfl).val rfl
  have p0_7 : x2.cell? ⟨w.heap.size, 7, none⟩ = some (.int .i64 0) := (BX.out.bl 0 _ _ _ rfl).val rfl
  have p0_8 : x2.cell? ⟨w.heap.size, 8, none⟩ = some (.int .i64 0) := (BX.out.bl 0 _ _ _ rfl).val rfl
  have p0_9 : x2.cell? ⟨w.heap.size, 9, none⟩ = some (.int .i64 0) := (BX.out.bl 0 _ _ _ rfl).val rfl
  have p0_10 : x2.cell? ⟨w.heap.size, 10, none⟩ = some (.int .i64 0) := (BX.out.bl 0 _ _ _ rfl).val rfl
  have p0_11 : x2.cell? ⟨w.heap.size, 11, none⟩ = some (.int .i64 0) := (BX.out.bl 0 _ _ _ rfl).val rfl
  have p0_12 : x2.cell? ⟨w.heap.size, 12, none⟩ = some (.int .i64 0) := (BX.out.bl 0 _ _ _ rfl).val rfl
  have p0_13 : x2.cell? ⟨w.heap.size, 13, none⟩ = some (.int .i64 0) := (BX.out.bl 0 _ _ _ rfl).val rfl
  have p0_14 : x2.cell? ⟨w.heap.size, 14, none⟩ = some (.int .i64 0) := (BX.out.bl 0 _ _ _ rfl).val rfl
  have p0_15 : x2.cell? ⟨w.heap.size, 15, none⟩ = some (.int .i64 0) := (BX.out.bl 0 _ _ _ rfl).val rfl
  have z0 : ∀ k, x2.frozen? ⟨w.heap.size, k, none⟩ = false := (BX.out.bl 0 _ _ _ rfl).free
  have y0 : w.heap.size < x2.heap.size := (BX.out.bl 0 _ _ _ rfl).size
  go_upto_region 4 with fail
  clear p0_0 p0_1 p0_2 p0_3 p0_4 p0_5 p0_6 p0_7 p0_8 p0_9 p0_10 p0_11 p0_12 p0_13 p0_14 p0_15 z0 y0
  refine wp_worldx (fun wx => Bxs w wx [(w.heap.size, 24, [.int .i64 0, .int .i64 0, .int .i64 0, .int .i64 0, .int .i64 0, .int .i64 0, .int .i64 0, .int .i64 0, .int .i64 0, .int .i64 0, .int .i64 0, .int .i64 0, .int .i64 0, .int .i64 0, .int .i64 0, .int .i64 0]), (x2.heap.size, 24, [.int .i64 4, .int .i64 64, .int .i64 5, .int .i64 100, .int .i64 50, .int .i64 10, .int .i64 20, .int .i64 1000, .int .i64 2147483648, .int .i64 4294967296, .int .i64 1073741824, .int .i64 0, .int .i64 1099511627776, .int .i64 64, .int .i64 4, .int .i64 4])]) ((BX.out).alloc_ _ _ (by simp)) ?_
  clear BX
  rintro x3 bx
  have BX := Lib.hid bx
  clear bx
  have p0_0 : x3.cell? ⟨w.heap.size, 0, none⟩ = some (.int .i64 0) := (BX.out.bl 0 _ _ _ rfl).val rfl
  have p0_1 : x3.cell? ⟨w.heap.size, 1, none⟩ = some (.int .i64 0) := (BX.out.bl 0 _ _ _ rfl).val rfl
  have p0_2 : x3.cell? ⟨w.heap.size, 2, none⟩ = some (.int .i64 0) := (BX.out.bl 0 _ _ _ rfl).val rfl
  have p0_3 : x3.cell? ⟨w.heap.size, 3, none⟩ = some (.int .i64 0) := (BX.out.bl 0 _ _ _ rfl).val rfl
  have p0_4 : x3.cell? ⟨w.heap.size, 4, none⟩ = some (.int .i64 0) := (BX.out.bl 0 _ _ _ rfl).val rfl
  have p0_5 : x3.cell? ⟨w.heap.size, 5, none⟩ = some (.int .i64 0) := (BX.out.bl 0 _ _ _ rfl).val rfl
  have p0_6 : x3.cell? ⟨w.heap.size, 6, none⟩ = some (.int .i64 0) := (BX.out.bl 0 _ _ _ rfl).val rfl
  have p0_7 : x3.cell? ⟨w.heap.size, 7, none⟩ = some (.int .i64 0) := (BX.out.bl 0 _ _ _ rfl).val rfl
  have p0_8 : x3.cell? ⟨w.heap.size, 8, none⟩ = some (.int .i64 0) := (BX.out.bl 0 _ _ _ rfl).val rfl
  have p0_9 : x3.cell? ⟨w.heap.size, 9, none⟩ = some (.int .i64 0) := (BX.out.bl 0 _ _ _ rfl).val rfl
  have p0_10 : x3.cell? ⟨w.heap.size, 10, none⟩ = some (.int .i64 0) := (BX.out.bl 0 _ _ _ rfl).val rfl
  have p0_11 : x3.cell? ⟨w.heap.size, 11, none⟩ = some (.int .i64 0) := (BX.out.bl 0 _ _ _ rfl).val rfl
  have p0_12 : x3.cell? ⟨w.heap.size, 12, none⟩ = some (.int .i64 0) := (BX.out.bl 0 _ _ _ rfl).val rfl
  have p0_13 : x3.cell? ⟨w.heap.size, 13, none⟩ = some (.int .i64 0) := (BX.out.bl 0 _ _ _ rfl).val rfl
  have p0_14 : x3.cell? ⟨w.heap.size, 14, none⟩ = some (.int .i64 0) := (BX.out.bl 0 _ _ _ rfl).val rfl
  have p0_15 : x3.cell? ⟨w.heap.size, 15, none⟩ = some (.int .i64 0) := (BX.out.bl 0 _ _ _ rfl).val rfl
  have z0 : ∀ k, x3.frozen? ⟨w.heap.size, k, none⟩ = false := (BX.out.bl 0 _ _ _ rfl).free
  have y0 : w.heap.size < x3.heap.size := (BX.out.bl 0 _ _ _ rfl).size
  have p1_0 : x3.cell? ⟨x2.heap.size, 0, none⟩ = some (.int .i64 4) := (BX.out.bl 1 _ _ _ rfl).val rfl
  have p1_1 : x3.cell? ⟨x2.heap.size, 1, none⟩ = some (.int .i64 64) := (BX.out.bl 1 _ _ _ rfl).val rfl
  have p1_2 : x3.cell? ⟨x2.heap.size, 2, none⟩ = some (.int .i64 5) := (BX.out.bl 1 _ _ _ rfl).val rfl
  have p1_3 : x3.cell? ⟨x2.heap.size, 3, none⟩ = some (.int .i64 100) := (BX.out.bl 1 _ _ _ rfl).val rfl
  have p1_4 : x3.cell? ⟨x2.heap.size, 4, none⟩ = some (.int .i64 50) := (BX.out.bl 1 _ _ _ rfl).val rfl
  have p1_5 : x3.cell? ⟨x2.heap.size, 5, none⟩ = some (.int .i64 10) := (BX.out.bl 1 _ _ _ rfl).val rfl
  have p1_6 : x3.cell? ⟨x2.heap.size, 6, none⟩ = some (.int .i64 20) := (BX.out.bl 1 _ _ _ rfl).val rfl
  have p1_7 : x3.cell? ⟨x2.heap.size, 7, none⟩ = some (.int .i64 1000) := (BX.out.bl 1 _ _ _ rfl).val rfl
  have p1_8 : x3.cell? ⟨x2.heap.size, 8, none⟩ = some (.int .i64 2147483648) := (BX.out.bl 1 _ _ _ rfl).val rfl
  have p1_9 : x3.cell? ⟨x2.heap.size, 9, none⟩ = some (.int .i64 4294967296) := (BX.out.bl 1 _ _ _ rfl).val rfl
  have p1_10 : x3.cell? ⟨x2.heap.size, 10, none⟩ = some (.int .i64 1073741824) := (BX.out.bl 1 _ _ _ rfl).val rfl
  have p1_11 : x3.cell? ⟨x2.heap.size, 11, none⟩ = some (.int .i64 0) := (BX.out.bl 1 _ _ _ rfl).val rfl
  have p1_12 : x3.cell? ⟨x2.heap.size, 12, none⟩ = some (.int .i64 1099511627776) := (BX.out.bl 1 _ _ _ rfl).val rfl
  have p1_13 : x3.cell? ⟨x2.heap.size, 13, none⟩ = some (.int .i64 64) := (BX.out.bl 1 _ _ _ rfl).val rfl
  have p1_14 : x3.cell? ⟨x2.heap.size, 14, none⟩ = some (.int .i64 4) := (BX.out.bl 1 _ _ _ rfl).val rfl
  have p1_15 : x3.cell? ⟨x2.heap.size, 15, none⟩ = some (.int .i64 4) := (BX.out.bl 1 _ _ _ rfl).val rfl
  have z1 : ∀ k, x3.frozen? ⟨x2.heap.size, k, none⟩ = false := (BX.out.bl 1 _ _ _ rfl).free
  have y1 : x2.heap.size < x3.heap.size := (BX.out.bl 1 _ _ _ rfl).size
  go_wp2_with fail
  refine (fields_any x2.heap.size _).mono ?_
  rintro e x4 ⟨gf, bx, rfl, g1, g2, hf, hb⟩
  have q7 : w.heap.size ≤ gf := Nat.le_trans BX.out.be.size g1
  have BX4 := Lib.hid (BX.out.below hb)
  clear p0_0 p0_1 p0_2 p0_3 p0_4 p0_5 p0_6 p0_7 p0_8 p0_9 p0_10 p0_11 p0_12 p0_13 p0_14 p0_15 z0 y0 p1_0 p1_1 p1_2 p1_3 p1_4 p1_5 p1_6 p1_7 p1_8 p1_9 p1_10 p1_11 p1_12 p1_13 p1_14 p1_15 z1 y1
  clear BX
  have HF := Lib.hid hf
  clear hf hb
  go_wp2_with fail
  have q1 := BX4.out.bl 0 _ _ _ rfl
  have q2 := BX4.out.bl 1 _ _ _ rfl
  have q3 := BX4.out.ne 0 1 _ _ _ _ _ _ rfl rfl (by decide)
  have q4 := BX4.out.lo 1 _ _ _ rfl
  have q5 := BX4.out.be
  have HI := Lib.hid (show PInv w x4 w.heap.size gf x2.heap.size bx (fun _ => false) dfv from ⟨⟨HF.out, q2⟩, q1, q3, ⟨Nat.le_refl _, q7, q4⟩, q5⟩)
  clear q1 q2 q3 q4 q5 HF BX4 g1 g2
  have hsz : s.size ≤ 20000 := by omega
  go_step3
  rename_i hk ha
  refine ha _ _ ?_
  refine Code.wp_mono (fun _ _ _ h => jump_mono (fun _ _ h => h.1) h) (parse_pass w HS.out R rfl rfl _ _ ?_)
  exact ⟨gf, x2.heap.size, bx, s, fun _ => false, dfv, _, _, _, _, _, _, _, _, _, _, _, _, _, _, _, _, _, _, _, _, _, _, _, _, _, _, _, _, _, _, _, _, _, _, rfl, hsz, HR.out, HI.out⟩
end Go.Proofs.YtbajmmgdnegoiaaDoor
