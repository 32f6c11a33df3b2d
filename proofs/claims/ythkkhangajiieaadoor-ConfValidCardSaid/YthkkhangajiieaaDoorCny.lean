/- ConfValid's region 8: what may be is right in its parts. -/
import Derived.Test.YthkkhangajiieaaDoorCnr
namespace Go.Proofs.YthkkhangajiieaaDoor
open Go.ChangeShapes Go.WideShapes Go.ChangeAt Go.RowKit Kn
set_option linter.unusedVariables false
set_option linter.unusedSimpArgs false
def Held8 (w : World) (g : Nat) (c : Cf) (g2 g3 : Nat) (w' : World) : Prop := CfBox w' w.heap.size c ∧ Row16 w' g c ∧ Blk w' g2 34 #[.int .i64 c.hg, .int .i64 c.lo, .int .i64 c.dw] ∧ Blk w' g3 37 #[.int .i64 c.sp, .int .i64 c.kp, .int .i64 c.ki, .int .i64 c.kd, .int .i64 c.lm, .int .i64 c.st, .int .i64 (mostW c)] ∧ Below w.heap.size w w'
theorem held8_below {w w1 w2 : World} {g g2 g3 : Nat} {c : Cf} (h : Held8 w g c g2 g3 w1) (hb : Below w1.heap.size w1 w2) : Held8 w g c g2 g3 w2 :=
  ⟨h.1.below_ hb h.1.size, h.2.1.below_ hb h.2.1.size, h.2.2.1.below_ hb h.2.2.1.size, h.2.2.2.1.below_ hb h.2.2.2.1.size, h.2.2.2.2.trans (hb.mono h.2.2.2.2.size)⟩
theorem held8_drew {w w1 : World} {g g2 g3 : Nat} {c : Cf} (h : Held8 w g c g2 g3 w1) : Held8 w g c g2 g3 w1.drew := ⟨h.1.drew_, h.2.1.drew_, h.2.2.1.drew_, h.2.2.2.1.drew_, h.2.2.2.2.drew⟩
theorem mostW_comm (c : Cf) : wrap64 (128 * c.ti) = mostW c := by unfold mostW; rw [Int.mul_comm]
set_option maxRecDepth 20000 in
set_option maxHeartbeats 8000000 in
theorem reg8f {ops : Array Oper} (hops : Tryd.f3.body.bind (findReg 8) = some ops) (c : Cf) (g g2 g3 : Nat) (w x : World) (hV : Held8 w g c g2 g3 x) (y0 y2 y3 y5 y8 y9 y10 y11 y12 y13 y14 y15 y16 y17 y18 y19 y20 y21 y22 y23 y24 y25 y26 y27 y28 y29 y30 y31 y32 y33 y34 y35 y36 y37 y38 y39 y40 y41 y42 y43 y44 y45 y46 y47 y48 y49 y50 y51 y52 y53 y54 y55 y56 y57 y58 y59 y60 y61 y62 y63 y64 y65 y66 y67 y68 y69 y70 y71 y72 y73 y74 y75 y76 y77 y78 y79 y80 y81 y82 y83 y84 y85 y86 y87 y88 y89 y90 y91 y92 y93 y94 y1 y4 y6 y7 : Value) (h1 : y1 = .pointer (some ⟨w.heap.size, 0, none⟩)) (h4 : y4 = .int .i64 1) (h6 : y6 = .pointer (some ⟨g2, 0, none⟩)) (h7 : y7 = .pointer (some ⟨g3, 0, none⟩)) :
    (Code.region 8 ops true).wp Tryd.prog (fun e a' w' => e = .normal ∧ Held8 w g c g2 g3 w' ∧ ∃ z95 z96 z97 z98 z99 z100 z101 z102 z103 z104 z105 z106 z107 z108 z109 z110 z111 z112 z113 z114 z115 z116 z117 z118 z119 z120 : Value, a' = ⟨#[y0, .pointer (some ⟨w.heap.size, 0, none⟩), y2, y3, .int .i64 1, y5, .pointer (some ⟨g2, 0, none⟩), .pointer (some ⟨g3, 0, none⟩), y8, y9, y10, y11, y12, y13, y14, y15, y16, y17, y18, y19, y20, y21, y22, y23, y24, y25, y26, y27, y28, y29, y30, y31, y32, y33, y34, y35, y36, y37, y38, y39, y40, y41, y42, y43, y44, y45, y46, y47, y48, y49, y50, y51, y52, y53, y54, y55, y56, y57, y58, y59, y60, y61, y62, y63, y64, y65, y66, y67, y68, y69, y70, y71, y72, y73, y74, y75, y76, y77, y78, y79, y80, y81, y82, y83, y84, y85, y86, y87, y88, y89, y90, y91, y92, y93, y94, z95, z96, z97, z98, z99, z100, z101, z102, z103, z104, z105, z106, z107, z108, z109, z110, z111, z112, z113, z114, z115, z116, z117, z118, z119, z120, .bool false, undef, undef, undef, undef, undef, undef, undef, undef, undef, undef, undef, undef, undef, undef, undef, undef, undef, undef, undef, undef, undef, undef, undef, undef], []⟩) ⟨#[y0, y1, y2, y3, y4, y5, y6, y7, y8, y9, y10, y11, y12, y13, y14, y15, y16, y17, y18, y19, y20, y21, y22, y23, y24, y25, y26, y27, y28, y29, y30, y31, y32, y33, y34, y35, y36, y37, y38, y39, y40, y41, y42, y43, y44, y45, y46, y47, y48, y49, y50, y51, y52, y53, y54, y55, y56, y57, y58, y59, y60, y61, y62, y63, y64, y65, y66, y67, y68, y69, y70, y71, y72, y73, y74, y75, y76, y77, y78, y79, y80, y81, y82, y83, y84, y85, y86, y87, y88, y89, y90, y91, y92, y93, y94, undef, undef, undef, undef, undef, undef, undef, undef, undef, undef, undef, undef, undef, undef, undef, undef, undef, undef, undef, undef, undef, undef, undef, undef, undef, undef, undef, undef, undef, undef, undef, undef, undef, undef, undef, undef, undef, undef, undef, undef, undef, undef, undef, undef, undef, undef, undef, undef, undef, undef, undef], []⟩ x := by
  subst h1 h4 h6 h7
  obtain rfl := Option.some.inj (hops.symm.trans (rfl : Tryd.f3.body.bind (findReg 8) = some _))
  clear hops
  refine wp_region_noPanic ?_
  refine wp_region_held_drew (S := (Held8 w g c g2 g3)) (by kernel_rfl) (by exact held8_drew hV) (fun hHeld => ?_)
  refine wpAnyH_take (i := 0) (v := ?_) rfl (by kernel_rfl) (by kernel_rfl) (by kernel_rfl) (fun _ _ _ h => h) (Or.inl ⟨by rfl, ?_⟩) (by assumption) ?_
  rotate_left
  · (intro wS hSw; clear hSw; (first | (go_simp; done) | (go_simp; with_reducible rfl)))
  try simp only [Act.put, List.getElem_toArray, List.getElem_cons_zero, List.getElem_cons_succ, List.setIfInBounds_toArray, List.set_cons_zero, List.set_cons_succ]
  refine wpAnyH_take (i := 1) (v := ?_) rfl (by kernel_rfl) (by kernel_rfl) (by kernel_rfl) (fun _ _ _ h => h) (Or.inl ⟨by rfl, ?_⟩) (by assumption) ?_
  rotate_left
  · (intro wS hSw; clear hSw; (first | (go_simp; done) | (go_simp; with_reducible rfl)))
  try simp only [Act.put, List.getElem_toArray, List.getElem_cons_zero, List.getElem_cons_succ, List.setIfInBounds_toArray, List.set_cons_zero, List.set_cons_succ]
  refine wpAnyH_take (i := 2) (v := ?_) rfl (by kernel_rfl) (by kernel_rfl) (by kernel_rfl) (fun _ _ _ h => h) (Or.inl ⟨by rfl, ?_⟩) (by assumption) ?_
  rotate_left
  · (intro wS hSw; clear hSw; (first | (go_simp; done) | (go_simp; with_reducible rfl)))
  try simp only [Act.put, List.getElem_toArray, List.getElem_cons_zero, List.getElem_cons_succ, List.setIfInBounds_toArray, List.set_cons_zero, List.set_cons_succ]
  refine wpAnyH_take (i := 3) (v := undef) rfl (by kernel_rfl) (by kernel_rfl) (by kernel_rfl) (fun _ _ _ h => h) (Or.inr ⟨by rfl, rfl⟩) (by assumption) ?_
  try simp only [Act.put, List.getElem_toArray, List.getElem_cons_zero, List.getElem_cons_succ, List.setIfInBounds_toArray, List.set_cons_zero, List.set_cons_succ]
  refine wpAnyH_take (i := 4) (v := undef) rfl (by kernel_rfl) (by kernel_rfl) (by kernel_rfl) (fun _ _ _ h => h) (Or.inr ⟨by rfl, rfl⟩) (by assumption) ?_
  try simp only [Act.put, List.getElem_toArray, List.getElem_cons_zero, List.getElem_cons_succ, List.setIfInBounds_toArray, List.set_cons_zero, List.set_cons_succ]
  refine wpAnyH_take (i := 5) (v := undef) rfl (by kernel_rfl) (by kernel_rfl) (by kernel_rfl) (fun _ _ _ h => h) (Or.inr ⟨by rfl, rfl⟩) (by assumption) ?_
  try simp only [Act.put, List.getElem_toArray, List.getElem_cons_zero, List.getElem_cons_succ, List.setIfInBounds_toArray, List.set_cons_zero, List.set_cons_succ]
  refine wpAnyH_take (i := 6) (v := undef) rfl (by kernel_rfl) (by kernel_rfl) (by kernel_rfl) (fun _ _ _ h => h) (Or.inr ⟨by rfl, rfl⟩) (by assumption) ?_
  try simp only [Act.put, List.getElem_toArray, List.getElem_cons_zero, List.getElem_cons_succ, List.setIfInBounds_toArray, List.set_cons_zero, List.set_cons_succ]
  refine wpAnyH_take (i := 7) (v := undef) rfl (by kernel_rfl) (by kernel_rfl) (by kernel_rfl) (fun _ _ _ h => h) (Or.inr ⟨by rfl, rfl⟩) (by assumption) ?_
  try simp only [Act.put, List.getElem_toArray, List.getElem_cons_zero, List.getElem_cons_succ, List.setIfInBounds_toArray, List.set_cons_zero, List.set_cons_succ]
  refine wpAnyH_take (i := 8) (v := undef) rfl (by kernel_rfl) (by kernel_rfl) (by kernel_rfl) (fun _ _ _ h => h) (Or.inr ⟨by rfl, rfl⟩) (by assumption) ?_
  try simp only [Act.put, List.getElem_toArray, List.getElem_cons_zero, List.getElem_cons_succ, List.setIfInBounds_toArray, List.set_cons_zero, List.set_cons_succ]
  refine wpAnyH_take (i := 9) (v := undef) rfl (by kernel_rfl) (by kernel_rfl) (by kernel_rfl) (fun _ _ _ h => h) (Or.inr ⟨by rfl, rfl⟩) (by assumption) ?_
  try simp only [Act.put, List.getElem_toArray, List.getElem_cons_zero, List.getElem_cons_succ, List.setIfInBounds_toArray, List.set_cons_zero, List.set_cons_succ]
  refine wpAnyH_take (i := 10) (v := undef) rfl (by kernel_rfl) (by kernel_rfl) (by kernel_rfl) (fun _ _ _ h => h) (Or.inr ⟨by rfl, rfl⟩) (by assumption) ?_
  try simp only [Act.put, List.getElem_toArray, List.getElem_cons_zero, List.getElem_cons_succ, List.setIfInBounds_toArray, List.set_cons_zero, List.set_cons_succ]
  refine wpAnyH_take (i := 11) (v := undef) rfl (by kernel_rfl) (by kernel_rfl) (by kernel_rfl) (fun _ _ _ h => h) (Or.inr ⟨by rfl, rfl⟩) (by assumption) ?_
  try simp only [Act.put, List.getElem_toArray, List.getElem_cons_zero, List.getElem_cons_succ, List.setIfInBounds_toArray, List.set_cons_zero, List.set_cons_succ]
  refine wpAnyH_take (i := 12) (v := undef) rfl (by kernel_rfl) (by kernel_rfl) (by kernel_rfl) (fun _ _ _ h => h) (Or.inr ⟨by rfl, rfl⟩) (by assumption) ?_
  try simp only [Act.put, List.getElem_toArray, List.getElem_cons_zero, List.getElem_cons_succ, List.setIfInBounds_toArray, List.set_cons_zero, List.set_cons_succ]
  refine wpAnyH_take (i := 13) (v := undef) rfl (by kernel_rfl) (by kernel_rfl) (by kernel_rfl) (fun _ _ _ h => h) (Or.inr ⟨by rfl, rfl⟩) (by assumption) ?_
  try simp only [Act.put, List.getElem_toArray, List.getElem_cons_zero, List.getElem_cons_succ, List.setIfInBounds_toArray, List.set_cons_zero, List.set_cons_succ]
  refine wpAnyH_take (i := 14) (v := undef) rfl (by kernel_rfl) (by kernel_rfl) (by kernel_rfl) (fun _ _ _ h => h) (Or.inr ⟨by rfl, rfl⟩) (by assumption) ?_
  try simp only [Act.put, List.getElem_toArray, List.getElem_cons_zero, List.getElem_cons_succ, List.setIfInBounds_toArray, List.set_cons_zero, List.set_cons_succ]
  refine wpAnyH_take (i := 15) (v := undef) rfl (by kernel_rfl) (by kernel_rfl) (by kernel_rfl) (fun _ _ _ h => h) (Or.inr ⟨by rfl, rfl⟩) (by assumption) ?_
  try simp only [Act.put, List.getElem_toArray, List.getElem_cons_zero, List.getElem_cons_succ, List.setIfInBounds_toArray, List.set_cons_zero, List.set_cons_succ]
  refine wpAnyH_take (i := 16) (v := undef) rfl (by kernel_rfl) (by kernel_rfl) (by kernel_rfl) (fun _ _ _ h => h) (Or.inr ⟨by rfl, rfl⟩) (by assumption) ?_
  try simp only [Act.put, List.getElem_toArray, List.getElem_cons_zero, List.getElem_cons_succ, List.setIfInBounds_toArray, List.set_cons_zero, List.set_cons_succ]
  refine wpAnyH_take (i := 17) (v := undef) rfl (by kernel_rfl) (by kernel_rfl) (by kernel_rfl) (fun _ _ _ h => h) (Or.inr ⟨by rfl, rfl⟩) (by assumption) ?_
  try simp only [Act.put, List.getElem_toArray, List.getElem_cons_zero, List.getElem_cons_succ, List.setIfInBounds_toArray, List.set_cons_zero, List.set_cons_succ]
  refine wpAnyH_take (i := 18) (v := undef) rfl (by kernel_rfl) (by kernel_rfl) (by kernel_rfl) (fun _ _ _ h => h) (Or.inr ⟨by rfl, rfl⟩) (by assumption) ?_
  try simp only [Act.put, List.getElem_toArray, List.getElem_cons_zero, List.getElem_cons_succ, List.setIfInBounds_toArray, List.set_cons_zero, List.set_cons_succ]
  refine wpAnyH_take (i := 19) (v := undef) rfl (by kernel_rfl) (by kernel_rfl) (by kernel_rfl) (fun _ _ _ h => h) (Or.inr ⟨by rfl, rfl⟩) (by assumption) ?_
  try simp only [Act.put, List.getElem_toArray, List.getElem_cons_zero, List.getElem_cons_succ, List.setIfInBounds_toArray, List.set_cons_zero, List.set_cons_succ]
  refine wpAnyH_take (i := 20) (v := undef) rfl (by kernel_rfl) (by kernel_rfl) (by kernel_rfl) (fun _ _ _ h => h) (Or.inr ⟨by rfl, rfl⟩) (by assumption) ?_
  try simp only [Act.put, List.getElem_toArray, List.getElem_cons_zero, List.getElem_cons_succ, List.setIfInBounds_toArray, List.set_cons_zero, List.set_cons_succ]
  refine wpAnyH_take (i := 21) (v := undef) rfl (by kernel_rfl) (by kernel_rfl) (by kernel_rfl) (fun _ _ _ h => h) (Or.inr ⟨by rfl, rfl⟩) (by assumption) ?_
  try simp only [Act.put, List.getElem_toArray, List.getElem_cons_zero, List.getElem_cons_succ, List.setIfInBounds_toArray, List.set_cons_zero, List.set_cons_succ]
  refine wpAnyH_take (i := 22) (v := undef) rfl (by kernel_rfl) (by kernel_rfl) (by kernel_rfl) (fun _ _ _ h => h) (Or.inr ⟨by rfl, rfl⟩) (by assumption) ?_
  try simp only [Act.put, List.getElem_toArray, List.getElem_cons_zero, List.getElem_cons_succ, List.setIfInBounds_toArray, List.set_cons_zero, List.set_cons_succ]
  refine wpAnyH_take (i := 23) (v := undef) rfl (by kernel_rfl) (by kernel_rfl) (by kernel_rfl) (fun _ _ _ h => h) (Or.inr ⟨by rfl, rfl⟩) (by assumption) ?_
  try simp only [Act.put, List.getElem_toArray, List.getElem_cons_zero, List.getElem_cons_succ, List.setIfInBounds_toArray, List.set_cons_zero, List.set_cons_succ]
  refine wpAnyH_take (i := 24) (v := undef) rfl (by kernel_rfl) (by kernel_rfl) (by kernel_rfl) (fun _ _ _ h => h) (Or.inr ⟨by rfl, rfl⟩) (by assumption) ?_
  try simp only [Act.put, List.getElem_toArray, List.getElem_cons_zero, List.getElem_cons_succ, List.setIfInBounds_toArray, List.set_cons_zero, List.set_cons_succ]
  refine wpAnyH_take (i := 25) (v := undef) rfl (by kernel_rfl) (by kernel_rfl) (by kernel_rfl) (fun _ _ _ h => h) (Or.inr ⟨by rfl, rfl⟩) (by assumption) ?_
  try simp only [Act.put, List.getElem_toArray, List.getElem_cons_zero, List.getElem_cons_succ, List.setIfInBounds_toArray, List.set_cons_zero, List.set_cons_succ]
  refine wpAnyH_take (i := 26) (v := ?_) rfl (by kernel_rfl) (by kernel_rfl) (by kernel_rfl) (fun _ _ _ h => h) (Or.inl ⟨by rfl, ?_⟩) (by assumption) ?_
  rotate_left
  · (intro wS hSw; clear hSw; (first | (go_simp; done) | (go_simp; with_reducible rfl)))
  try simp only [Act.put, List.getElem_toArray, List.getElem_cons_zero, List.getElem_cons_succ, List.setIfInBounds_toArray, List.set_cons_zero, List.set_cons_succ]
  refine wpAnyH_done (by kernel_rfl) ?_ _
  refine NoPanic.normal ?_
  exact ⟨rfl, hHeld, _, _, _, _, _, _, _, _, _, _, _, _, _, _, _, _, _, _, _, _, _, _, _, _, _, _, rfl⟩
set_option maxRecDepth 20000 in
set_option maxHeartbeats 8000000 in
theorem reg8t {ops : Array Oper} (hops : Tryd.f3.body.bind (findReg 8) = some ops) (c : Cf) (g g2 g3 : Nat) (w x : World) (hV : Held8 w g c g2 g3 x) (hp : pidB c.kp c.ki c.kd c.lm c.st (mostW c) = true) (hm : modeB c.hg c.lo c.dw = true) (y0 y2 y3 y5 y8 y9 y10 y11 y12 y13 y14 y15 y16 y17 y18 y19 y20 y21 y22 y23 y24 y25 y26 y27 y28 y29 y30 y31 y32 y33 y34 y35 y36 y37 y38 y39 y40 y41 y42 y43 y44 y45 y46 y47 y48 y49 y50 y51 y52 y53 y54 y55 y56 y57 y58 y59 y60 y61 y62 y63 y64 y65 y66 y67 y68 y69 y70 y71 y72 y73 y74 y75 y76 y77 y78 y79 y80 y81 y82 y83 y84 y85 y86 y87 y88 y89 y90 y91 y92 y93 y94 y1 y4 y6 y7 : Value) (h1 : y1 = .pointer (some ⟨w.heap.size, 0, none⟩)) (h4 : y4 = .int .i64 0) (h6 : y6 = .pointer (some ⟨g2, 0, none⟩)) (h7 : y7 = .pointer (some ⟨g3, 0, none⟩)) :
    (Code.region 8 ops true).wp Tryd.prog (fun e a' w' => e = .normal ∧ Held8 w g c g2 g3 w' ∧ ∃ z95 z96 z97 z98 z99 z100 z101 z102 z103 z104 z105 z106 z107 z108 z109 z110 z111 z112 z113 z114 z115 z116 z117 z118 z119 z120 : Value, a' = ⟨#[y0, .pointer (some ⟨w.heap.size, 0, none⟩), y2, y3, .int .i64 0, y5, .pointer (some ⟨g2, 0, none⟩), .pointer (some ⟨g3, 0, none⟩), y8, y9, y10, y11, y12, y13, y14, y15, y16, y17, y18, y19, y20, y21, y22, y23, y24, y25, y26, y27, y28, y29, y30, y31, y32, y33, y34, y35, y36, y37, y38, y39, y40, y41, y42, y43, y44, y45, y46, y47, y48, y49, y50, y51, y52, y53, y54, y55, y56, y57, y58, y59, y60, y61, y62, y63, y64, y65, y66, y67, y68, y69, y70, y71, y72, y73, y74, y75, y76, y77, y78, y79, y80, y81, y82, y83, y84, y85, y86, y87, y88, y89, y90, y91, y92, y93, y94, z95, z96, z97, z98, z99, z100, z101, z102, z103, z104, z105, z106, z107, z108, z109, z110, z111, z112, z113, z114, z115, z116, z117, z118, z119, z120, .bool false, undef, undef, undef, undef, undef, undef, undef, undef, undef, undef, undef, undef, undef, undef, undef, undef, undef, undef, undef, undef, undef, undef, undef, undef], []⟩) ⟨#[y0, y1, y2, y3, y4, y5, y6, y7, y8, y9, y10, y11, y12, y13, y14, y15, y16, y17, y18, y19, y20, y21, y22, y23, y24, y25, y26, y27, y28, y29, y30, y31, y32, y33, y34, y35, y36, y37, y38, y39, y40, y41, y42, y43, y44, y45, y46, y47, y48, y49, y50, y51, y52, y53, y54, y55, y56, y57, y58, y59, y60, y61, y62, y63, y64, y65, y66, y67, y68, y69, y70, y71, y72, y73, y74, y75, y76, y77, y78, y79, y80, y81, y82, y83, y84, y85, y86, y87, y88, y89, y90, y91, y92, y93, y94, undef, undef, undef, undef, undef, undef, undef, undef, undef, undef, undef, undef, undef, undef, undef, undef, undef, undef, undef, undef, undef, undef, undef, undef, undef, undef, undef, undef, undef, undef, undef, undef, undef, undef, undef, undef, undef, undef, undef, undef, undef, undef, undef, undef, undef, undef, undef, undef, undef, undef, undef], []⟩ x := by
  subst h1 h4 h6 h7
  obtain rfl := Option.some.inj (hops.symm.trans (rfl : Tryd.f3.body.bind (findReg 8) = some _))
  clear hops
  have e128 : IntKind.i64.wrap (128 * c.ti) = mostW c := by first | (rw [IntKind.wrap_i64]; exact mostW_comm c) | (have z := mostW_comm c; unfold wrap64 at z; rw [← z]; simp [IntKind.wrap_i64])
  refine wp_region_noPanic ?_
  refine wp_region_held_drew (S := (Held8 w g c g2 g3)) (by kernel_rfl) (by exact held8_drew hV) (fun hHeld => ?_)
  refine wpAnyH_take (i := 0) (v := ?_) rfl (by kernel_rfl) (by kernel_rfl) (by kernel_rfl) (fun _ _ _ h => h) (Or.inl ⟨by rfl, ?_⟩) (by assumption) ?_
  rotate_left
  · (intro wS hSw; clear hSw; (first | (go_simp; done) | (go_simp; with_reducible rfl)))
  try simp only [Act.put, List.getElem_toArray, List.getElem_cons_zero, List.getElem_cons_succ, List.setIfInBounds_toArray, List.set_cons_zero, List.set_cons_succ]
  refine wpAnyH_take (i := 1) (v := ?_) rfl (by kernel_rfl) (by kernel_rfl) (by kernel_rfl) (fun _ _ _ h => h) (Or.inl ⟨by rfl, ?_⟩) (by assumption) ?_
  rotate_left
  · (intro wS hSw; clear hSw; (first | (go_simp; done) | (go_simp; with_reducible rfl)))
  try simp only [Act.put, List.getElem_toArray, List.getElem_cons_zero, List.getElem_cons_succ, List.setIfInBounds_toArray, List.set_cons_zero, List.set_cons_succ]
  refine wpAnyH_take (i := 2) (v := ?_) rfl (by kernel_rfl) (by kernel_rfl) (by kernel_rfl) (fun _ _ _ h => h) (Or.inl ⟨by rfl, ?_⟩) (by assumption) ?_
  rotate_left
  · (intro wS hSw; clear hSw; (first | (go_simp; done) | (go_simp; with_reducible rfl)))
  try simp only [Act.put, List.getElem_toArray, List.getElem_cons_zero, List.getElem_cons_succ, List.setIfInBounds_toArray, List.set_cons_zero, List.set_cons_succ]
  refine wpAnyH_take (i := 3) (v := ?_) rfl (by kernel_rfl) (by kernel_rfl) (by kernel_rfl) (fun _ _ _ h => h) (Or.inl ⟨by rfl, ?_⟩) (by assumption) ?_
  rotate_left
  · (intro wS hSw; clear hSw; (first | (go_simp; done) | (go_simp; with_reducible rfl)))
  try simp only [Act.put, List.getElem_toArray, List.getElem_cons_zero, List.getElem_cons_succ, List.setIfInBounds_toArray, List.set_cons_zero, List.set_cons_succ]
  refine wpAnyH_take (i := 4) (v := ?_) rfl (by kernel_rfl) (by kernel_rfl) (by kernel_rfl) (fun _ _ _ h => h) (Or.inl ⟨by rfl, ?_⟩) (by assumption) ?_
  rotate_left
  · (intro wS hSw; obtain ⟨fb, fr, f2, f3, fbe⟩ := hSw; have c0 : wS.cell? ⟨w.heap.size, 0, none⟩ = some (.int .i64 c.ti) := fb.val (i := 0) rfl; have c1 : wS.cell? ⟨w.heap.size, 1, none⟩ = some (.int .i64 c.ro) := fb.val (i := 1) rfl; have c2 : wS.cell? ⟨w.heap.size, 2, none⟩ = some (.int .i64 c.ta) := fb.val (i := 2) rfl; have c3 : wS.cell? ⟨w.heap.size, 3, none⟩ = some (.int .i64 c.iv) := fb.val (i := 3) rfl; have c4 : wS.cell? ⟨w.heap.size, 4, none⟩ = some (.int .i64 c.hg) := fb.val (i := 4) rfl; have c5 : wS.cell? ⟨w.heap.size, 5, none⟩ = some (.int .i64 c.lo) := fb.val (i := 5) rfl; have c6 : wS.cell? ⟨w.heap.size, 6, none⟩ = some (.int .i64 c.dw) := fb.val (i := 6) rfl; have c7 : wS.cell? ⟨w.heap.size, 7, none⟩ = some (.int .i64 c.ho) := fb.val (i := 7) rfl; have c8 : wS.cell? ⟨w.heap.size, 8, none⟩ = some (.int .i64 c.sp) := fb.val (i := 8) rfl; have c9 : wS.cell? ⟨w.heap.size, 9, none⟩ = some (.int .i64 c.kp) := fb.val (i := 9) rfl; have c10 : wS.cell? ⟨w.heap.size, 10, none⟩ = some (.int .i64 c.ki) := fb.val (i := 10) rfl; have c11 : wS.cell? ⟨w.heap.size, 11, none⟩ = some (.int .i64 c.kd) := fb.val (i := 11) rfl; have c12 : wS.cell? ⟨w.heap.size, 12, none⟩ = some (.int .i64 c.lm) := fb.val (i := 12) rfl; have c13 : wS.cell? ⟨w.heap.size, 13, none⟩ = some (.int .i64 c.st) := fb.val (i := 13) rfl; have c14 : wS.cell? ⟨w.heap.size, 14, none⟩ = some (.int .i64 c.th) := fb.val (i := 14) rfl; have c15 : wS.cell? ⟨w.heap.size, 15, none⟩ = some (.int .i64 c.rg) := fb.val (i := 15) rfl; have k2_0 : wS.cell? ⟨g2, 0, none⟩ = some (.int .i64 c.hg) := f2.val (i := 0) rfl; have k2_1 : wS.cell? ⟨g2, 1, none⟩ = some (.int .i64 c.lo) := f2.val (i := 1) rfl; have k2_2 : wS.cell? ⟨g2, 2, none⟩ = some (.int .i64 c.dw) := f2.val (i := 2) rfl; have k3_0 : wS.cell? ⟨g3, 0, none⟩ = some (.int .i64 c.sp) := f3.val (i := 0) rfl; have k3_1 : wS.cell? ⟨g3, 1, none⟩ = some (.int .i64 c.kp) := f3.val (i := 1) rfl; have k3_2 : wS.cell? ⟨g3, 2, none⟩ = some (.int .i64 c.ki) := f3.val (i := 2) rfl; have k3_3 : wS.cell? ⟨g3, 3, none⟩ = some (.int .i64 c.kd) := f3.val (i := 3) rfl; have k3_4 : wS.cell? ⟨g3, 4, none⟩ = some (.int .i64 c.lm) := f3.val (i := 4) rfl; have k3_5 : wS.cell? ⟨g3, 5, none⟩ = some (.int .i64 c.st) := f3.val (i := 5) rfl; have k3_6 : wS.cell? ⟨g3, 6, none⟩ = some (.int .i64 (mostW c)) := f3.val (i := 6) rfl; (first | (go_simp; done) | (go_simp; with_reducible rfl)))
  try simp only [Act.put, List.getElem_toArray, List.getElem_cons_zero, List.getElem_cons_succ, List.setIfInBounds_toArray, List.set_cons_zero, List.set_cons_succ]
  refine wpAnyH_take (i := 5) (v := ?_) rfl (by kernel_rfl) (by kernel_rfl) (by kernel_rfl) (fun _ _ _ h => h) (Or.inl ⟨by rfl, ?_⟩) (by assumption) ?_
  rotate_left
  · (intro wS hSw; clear hSw; (first | (go_simp; done) | (go_simp; with_reducible rfl)))
  try simp only [Act.put, List.getElem_toArray, List.getElem_cons_zero, List.getElem_cons_succ, List.setIfInBounds_toArray, List.set_cons_zero, List.set_cons_succ]
  refine wpAnyH_take (i := 6) (v := ?_) rfl (by kernel_rfl) (by kernel_rfl) (by kernel_rfl) (fun _ _ _ h => h) (Or.inl ⟨by rfl, ?_⟩) (by assumption) ?_
  rotate_left
  · (intro wS hSw; obtain ⟨fb, fr, f2, f3, fbe⟩ := hSw; have c0 : wS.cell? ⟨w.heap.size, 0, none⟩ = some (.int .i64 c.ti) := fb.val (i := 0) rfl; have c1 : wS.cell? ⟨w.heap.size, 1, none⟩ = some (.int .i64 c.ro) := fb.val (i := 1) rfl; have c2 : wS.cell? ⟨w.heap.size, 2, none⟩ = some (.int .i64 c.ta) := fb.val (i := 2) rfl; have c3 : wS.cell? ⟨w.heap.size, 3, none⟩ = some (.int .i64 c.iv) := fb.val (i := 3) rfl; have c4 : wS.cell? ⟨w.heap.size, 4, none⟩ = some (.int .i64 c.hg) := fb.val (i := 4) rfl; have c5 : wS.cell? ⟨w.heap.size, 5, none⟩ = some (.int .i64 c.lo) := fb.val (i := 5) rfl; have c6 : wS.cell? ⟨w.heap.size, 6, none⟩ = some (.int .i64 c.dw) := fb.val (i := 6) rfl; have c7 : wS.cell? ⟨w.heap.size, 7, none⟩ = some (.int .i64 c.ho) := fb.val (i := 7) rfl; have c8 : wS.cell? ⟨w.heap.size, 8, none⟩ = some (.int .i64 c.sp) := fb.val (i := 8) rfl; have c9 : wS.cell? ⟨w.heap.size, 9, none⟩ = some (.int .i64 c.kp) := fb.val (i := 9) rfl; have c10 : wS.cell? ⟨w.heap.size, 10, none⟩ = some (.int .i64 c.ki) := fb.val (i := 10) rfl; have c11 : wS.cell? ⟨w.heap.size, 11, none⟩ = some (.int .i64 c.kd) := fb.val (i := 11) rfl; have c12 : wS.cell? ⟨w.heap.size, 12, none⟩ = some (.int .i64 c.lm) := fb.val (i := 12) rfl; have c13 : wS.cell? ⟨w.heap.size, 13, none⟩ = some (.int .i64 c.st) := fb.val (i := 13) rfl; have c14 : wS.cell? ⟨w.heap.size, 14, none⟩ = some (.int .i64 c.th) := fb.val (i := 14) rfl; have c15 : wS.cell? ⟨w.heap.size, 15, none⟩ = some (.int .i64 c.rg) := fb.val (i := 15) rfl; have k2_0 : wS.cell? ⟨g2, 0, none⟩ = some (.int .i64 c.hg) := f2.val (i := 0) rfl; have k2_1 : wS.cell? ⟨g2, 1, none⟩ = some (.int .i64 c.lo) := f2.val (i := 1) rfl; have k2_2 : wS.cell? ⟨g2, 2, none⟩ = some (.int .i64 c.dw) := f2.val (i := 2) rfl; have k3_0 : wS.cell? ⟨g3, 0, none⟩ = some (.int .i64 c.sp) := f3.val (i := 0) rfl; have k3_1 : wS.cell? ⟨g3, 1, none⟩ = some (.int .i64 c.kp) := f3.val (i := 1) rfl; have k3_2 : wS.cell? ⟨g3, 2, none⟩ = some (.int .i64 c.ki) := f3.val (i := 2) rfl; have k3_3 : wS.cell? ⟨g3, 3, none⟩ = some (.int .i64 c.kd) := f3.val (i := 3) rfl; have k3_4 : wS.cell? ⟨g3, 4, none⟩ = some (.int .i64 c.lm) := f3.val (i := 4) rfl; have k3_5 : wS.cell? ⟨g3, 5, none⟩ = some (.int .i64 c.st) := f3.val (i := 5) rfl; have k3_6 : wS.cell? ⟨g3, 6, none⟩ = some (.int .i64 (mostW c)) := f3.val (i := 6) rfl; (first | (go_simp; done) | (go_simp; with_reducible rfl)))
  try simp only [Act.put, List.getElem_toArray, List.getElem_cons_zero, List.getElem_cons_succ, List.setIfInBounds_toArray, List.set_cons_zero, List.set_cons_succ]
  refine wpAnyH_take (i := 7) (v := .int .i64 (mostW c)) rfl (by kernel_rfl) (by kernel_rfl) (by kernel_rfl) (fun _ _ _ h => h) (Or.inl ⟨by rfl, ?_⟩) (by assumption) ?_
  · (intro wS hSw; clear hSw; (first | (go_simp; done) | (go_simp; with_reducible rfl) | (go_simp; simp; done) | (go_simp; trace_state)))
  try simp only [Act.put, List.getElem_toArray, List.getElem_cons_zero, List.getElem_cons_succ, List.setIfInBounds_toArray, List.set_cons_zero, List.set_cons_succ]
  refine wpAnyH_take (i := 8) (v := .bool false) rfl (by kernel_rfl) (by kernel_rfl) (by kernel_rfl) (fun _ _ _ h => h) (Or.inl ⟨by rfl, ?_⟩) (by assumption) ?_
  · (intro wS hSw; clear hSw; (first | (go_simp; done) | (go_simp; with_reducible rfl) | (go_simp; simp; done) | (go_simp; trace_state)))
  try simp only [Act.put, List.getElem_toArray, List.getElem_cons_zero, List.getElem_cons_succ, List.setIfInBounds_toArray, List.set_cons_zero, List.set_cons_succ]
  refine wpAnyH_take (i := 9) (v := ?_) rfl (by kernel_rfl) (by kernel_rfl) (by kernel_rfl) (fun _ _ _ h => h) (Or.inl ⟨by rfl, ?_⟩) (by assumption) ?_
  rotate_left
  · (intro wS hSw; clear hSw; (first | (go_simp; done) | (go_simp; with_reducible rfl)))
  try simp only [Act.put, List.getElem_toArray, List.getElem_cons_zero, List.getElem_cons_succ, List.setIfInBounds_toArray, List.set_cons_zero, List.set_cons_succ]
  refine wpAnyH_take (i := 10) (v := ?_) rfl (by kernel_rfl) (by kernel_rfl) (by kernel_rfl) (fun _ _ _ h => h) (Or.inl ⟨by rfl, ?_⟩) (by assumption) ?_
  rotate_left
  · (intro wS hSw; obtain ⟨fb, fr, f2, f3, fbe⟩ := hSw; have c0 : wS.cell? ⟨w.heap.size, 0, none⟩ = some (.int .i64 c.ti) := fb.val (i := 0) rfl; have c1 : wS.cell? ⟨w.heap.size, 1, none⟩ = some (.int .i64 c.ro) := fb.val (i := 1) rfl; have c2 : wS.cell? ⟨w.heap.size, 2, none⟩ = some (.int .i64 c.ta) := fb.val (i := 2) rfl; have c3 : wS.cell? ⟨w.heap.size, 3, none⟩ = some (.int .i64 c.iv) := fb.val (i := 3) rfl; have c4 : wS.cell? ⟨w.heap.size, 4, none⟩ = some (.int .i64 c.hg) := fb.val (i := 4) rfl; have c5 : wS.cell? ⟨w.heap.size, 5, none⟩ = some (.int .i64 c.lo) := fb.val (i := 5) rfl; have c6 : wS.cell? ⟨w.heap.size, 6, none⟩ = some (.int .i64 c.dw) := fb.val (i := 6) rfl; have c7 : wS.cell? ⟨w.heap.size, 7, none⟩ = some (.int .i64 c.ho) := fb.val (i := 7) rfl; have c8 : wS.cell? ⟨w.heap.size, 8, none⟩ = some (.int .i64 c.sp) := fb.val (i := 8) rfl; have c9 : wS.cell? ⟨w.heap.size, 9, none⟩ = some (.int .i64 c.kp) := fb.val (i := 9) rfl; have c10 : wS.cell? ⟨w.heap.size, 10, none⟩ = some (.int .i64 c.ki) := fb.val (i := 10) rfl; have c11 : wS.cell? ⟨w.heap.size, 11, none⟩ = some (.int .i64 c.kd) := fb.val (i := 11) rfl; have c12 : wS.cell? ⟨w.heap.size, 12, none⟩ = some (.int .i64 c.lm) := fb.val (i := 12) rfl; have c13 : wS.cell? ⟨w.heap.size, 13, none⟩ = some (.int .i64 c.st) := fb.val (i := 13) rfl; have c14 : wS.cell? ⟨w.heap.size, 14, none⟩ = some (.int .i64 c.th) := fb.val (i := 14) rfl; have c15 : wS.cell? ⟨w.heap.size, 15, none⟩ = some (.int .i64 c.rg) := fb.val (i := 15) rfl; have k2_0 : wS.cell? ⟨g2, 0, none⟩ = some (.int .i64 c.hg) := f2.val (i := 0) rfl; have k2_1 : wS.cell? ⟨g2, 1, none⟩ = some (.int .i64 c.lo) := f2.val (i := 1) rfl; have k2_2 : wS.cell? ⟨g2, 2, none⟩ = some (.int .i64 c.dw) := f2.val (i := 2) rfl; have k3_0 : wS.cell? ⟨g3, 0, none⟩ = some (.int .i64 c.sp) := f3.val (i := 0) rfl; have k3_1 : wS.cell? ⟨g3, 1, none⟩ = some (.int .i64 c.kp) := f3.val (i := 1) rfl; have k3_2 : wS.cell? ⟨g3, 2, none⟩ = some (.int .i64 c.ki) := f3.val (i := 2) rfl; have k3_3 : wS.cell? ⟨g3, 3, none⟩ = some (.int .i64 c.kd) := f3.val (i := 3) rfl; have k3_4 : wS.cell? ⟨g3, 4, none⟩ = some (.int .i64 c.lm) := f3.val (i := 4) rfl; have k3_5 : wS.cell? ⟨g3, 5, none⟩ = some (.int .i64 c.st) := f3.val (i := 5) rfl; have k3_6 : wS.cell? ⟨g3, 6, none⟩ = some (.int .i64 (mostW c)) := f3.val (i := 6) rfl; (first | (go_simp; done) | (go_simp; with_reducible rfl)))
  try simp only [Act.put, List.getElem_toArray, List.getElem_cons_zero, List.getElem_cons_succ, List.setIfInBounds_toArray, List.set_cons_zero, List.set_cons_succ]
  refine wpAnyH_take (i := 12) (v := ?_) rfl (by kernel_rfl) (by kernel_rfl) (by kernel_rfl) (fun _ _ _ h => h) (Or.inl ⟨by rfl, ?_⟩) (by assumption) ?_
  rotate_left
  · (intro wS hSw; clear hSw; (first | (go_simp; done) | (go_simp; with_reducible rfl)))
  try simp only [Act.put, List.getElem_toArray, List.getElem_cons_zero, List.getElem_cons_succ, List.setIfInBounds_toArray, List.set_cons_zero, List.set_cons_succ]
  refine wpAnyH_take (i := 13) (v := ?_) rfl (by kernel_rfl) (by kernel_rfl) (by kernel_rfl) (fun _ _ _ h => h) (Or.inl ⟨by rfl, ?_⟩) (by assumption) ?_
  rotate_left
  · (intro wS hSw; obtain ⟨fb, fr, f2, f3, fbe⟩ := hSw; have c0 : wS.cell? ⟨w.heap.size, 0, none⟩ = some (.int .i64 c.ti) := fb.val (i := 0) rfl; have c1 : wS.cell? ⟨w.heap.size, 1, none⟩ = some (.int .i64 c.ro) := fb.val (i := 1) rfl; have c2 : wS.cell? ⟨w.heap.size, 2, none⟩ = some (.int .i64 c.ta) := fb.val (i := 2) rfl; have c3 : wS.cell? ⟨w.heap.size, 3, none⟩ = some (.int .i64 c.iv) := fb.val (i := 3) rfl; have c4 : wS.cell? ⟨w.heap.size, 4, none⟩ = some (.int .i64 c.hg) := fb.val (i := 4) rfl; have c5 : wS.cell? ⟨w.heap.size, 5, none⟩ = some (.int .i64 c.lo) := fb.val (i := 5) rfl; have c6 : wS.cell? ⟨w.heap.size, 6, none⟩ = some (.int .i64 c.dw) := fb.val (i := 6) rfl; have c7 : wS.cell? ⟨w.heap.size, 7, none⟩ = some (.int .i64 c.ho) := fb.val (i := 7) rfl; have c8 : wS.cell? ⟨w.heap.size, 8, none⟩ = some (.int .i64 c.sp) := fb.val (i := 8) rfl; have c9 : wS.cell? ⟨w.heap.size, 9, none⟩ = some (.int .i64 c.kp) := fb.val (i := 9) rfl; have c10 : wS.cell? ⟨w.heap.size, 10, none⟩ = some (.int .i64 c.ki) := fb.val (i := 10) rfl; have c11 : wS.cell? ⟨w.heap.size, 11, none⟩ = some (.int .i64 c.kd) := fb.val (i := 11) rfl; have c12 : wS.cell? ⟨w.heap.size, 12, none⟩ = some (.int .i64 c.lm) := fb.val (i := 12) rfl; have c13 : wS.cell? ⟨w.heap.size, 13, none⟩ = some (.int .i64 c.st) := fb.val (i := 13) rfl; have c14 : wS.cell? ⟨w.heap.size, 14, none⟩ = some (.int .i64 c.th) := fb.val (i := 14) rfl; have c15 : wS.cell? ⟨w.heap.size, 15, none⟩ = some (.int .i64 c.rg) := fb.val (i := 15) rfl; have k2_0 : wS.cell? ⟨g2, 0, none⟩ = some (.int .i64 c.hg) := f2.val (i := 0) rfl; have k2_1 : wS.cell? ⟨g2, 1, none⟩ = some (.int .i64 c.lo) := f2.val (i := 1) rfl; have k2_2 : wS.cell? ⟨g2, 2, none⟩ = some (.int .i64 c.dw) := f2.val (i := 2) rfl; have k3_0 : wS.cell? ⟨g3, 0, none⟩ = some (.int .i64 c.sp) := f3.val (i := 0) rfl; have k3_1 : wS.cell? ⟨g3, 1, none⟩ = some (.int .i64 c.kp) := f3.val (i := 1) rfl; have k3_2 : wS.cell? ⟨g3, 2, none⟩ = some (.int .i64 c.ki) := f3.val (i := 2) rfl; have k3_3 : wS.cell? ⟨g3, 3, none⟩ = some (.int .i64 c.kd) := f3.val (i := 3) rfl; have k3_4 : wS.cell? ⟨g3, 4, none⟩ = some (.int .i64 c.lm) := f3.val (i := 4) rfl; have k3_5 : wS.cell? ⟨g3, 5, none⟩ = some (.int .i64 c.st) := f3.val (i := 5) rfl; have k3_6 : wS.cell? ⟨g3, 6, none⟩ = some (.int .i64 (mostW c)) := f3.val (i := 6) rfl; (first | (go_simp; done) | (go_simp; with_reducible rfl)))
  try simp only [Act.put, List.getElem_toArray, List.getElem_cons_zero, List.getElem_cons_succ, List.setIfInBounds_toArray, List.set_cons_zero, List.set_cons_succ]
  refine wpAnyH_ready (rs := [11]) (by kernel_rfl) (by simp) ?_
  refine AllReadyH.cons rfl (fun K hK => ?_) AllReadyH.nil
  rw [if_pos (by rfl)]
  refine wp_enter (by go_simp; exact ⟨rfl, rfl⟩) ?_
  refine (cmost_any c _).mono ?_
  rintro e wn ⟨rfl, hbn⟩
  have hS2 := held8_below hHeld hbn
  clear hHeld hbn
  refine ⟨_, rfl, ?_⟩
  refine hK.out _ _ hS2 (fun hHeld => ?_)
  clear hK K hS2
  try simp only [Act.put, List.getElem_toArray, List.getElem_cons_zero, List.getElem_cons_succ, List.setIfInBounds_toArray, List.set_cons_zero, List.set_cons_succ]
  refine wpAnyH_take (i := 14) (v := .bool false) rfl (by kernel_rfl) (by kernel_rfl) (by kernel_rfl) (fun _ _ _ h => h) (Or.inl ⟨by rfl, ?_⟩) (by assumption) ?_
  · (intro wS hSw; clear hSw; (first | (go_simp; done) | (go_simp; with_reducible rfl) | (go_simp; simp; done) | (go_simp; trace_state)))
  try simp only [Act.put, List.getElem_toArray, List.getElem_cons_zero, List.getElem_cons_succ, List.setIfInBounds_toArray, List.set_cons_zero, List.set_cons_succ]
  refine wpAnyH_take (i := 15) (v := ?_) rfl (by kernel_rfl) (by kernel_rfl) (by kernel_rfl) (fun _ _ _ h => h) (Or.inl ⟨by rfl, ?_⟩) (by assumption) ?_
  rotate_left
  · (intro wS hSw; clear hSw; (first | (go_simp; done) | (go_simp; with_reducible rfl)))
  try simp only [Act.put, List.getElem_toArray, List.getElem_cons_zero, List.getElem_cons_succ, List.setIfInBounds_toArray, List.set_cons_zero, List.set_cons_succ]
  refine wpAnyH_take (i := 16) (v := ?_) rfl (by kernel_rfl) (by kernel_rfl) (by kernel_rfl) (fun _ _ _ h => h) (Or.inl ⟨by rfl, ?_⟩) (by assumption) ?_
  rotate_left
  · (intro wS hSw; clear hSw; (first | (go_simp; done) | (go_simp; with_reducible rfl)))
  try simp only [Act.put, List.getElem_toArray, List.getElem_cons_zero, List.getElem_cons_succ, List.setIfInBounds_toArray, List.set_cons_zero, List.set_cons_succ]
  refine wpAnyH_take (i := 17) (v := ?_) rfl (by kernel_rfl) (by kernel_rfl) (by kernel_rfl) (fun _ _ _ h => h) (Or.inl ⟨by rfl, ?_⟩) (by assumption) ?_
  rotate_left
  · (intro wS hSw; obtain ⟨fb, fr, f2, f3, fbe⟩ := hSw; have c0 : wS.cell? ⟨w.heap.size, 0, none⟩ = some (.int .i64 c.ti) := fb.val (i := 0) rfl; have c1 : wS.cell? ⟨w.heap.size, 1, none⟩ = some (.int .i64 c.ro) := fb.val (i := 1) rfl; have c2 : wS.cell? ⟨w.heap.size, 2, none⟩ = some (.int .i64 c.ta) := fb.val (i := 2) rfl; have c3 : wS.cell? ⟨w.heap.size, 3, none⟩ = some (.int .i64 c.iv) := fb.val (i := 3) rfl; have c4 : wS.cell? ⟨w.heap.size, 4, none⟩ = some (.int .i64 c.hg) := fb.val (i := 4) rfl; have c5 : wS.cell? ⟨w.heap.size, 5, none⟩ = some (.int .i64 c.lo) := fb.val (i := 5) rfl; have c6 : wS.cell? ⟨w.heap.size, 6, none⟩ = some (.int .i64 c.dw) := fb.val (i := 6) rfl; have c7 : wS.cell? ⟨w.heap.size, 7, none⟩ = some (.int .i64 c.ho) := fb.val (i := 7) rfl; have c8 : wS.cell? ⟨w.heap.size, 8, none⟩ = some (.int .i64 c.sp) := fb.val (i := 8) rfl; have c9 : wS.cell? ⟨w.heap.size, 9, none⟩ = some (.int .i64 c.kp) := fb.val (i := 9) rfl; have c10 : wS.cell? ⟨w.heap.size, 10, none⟩ = some (.int .i64 c.ki) := fb.val (i := 10) rfl; have c11 : wS.cell? ⟨w.heap.size, 11, none⟩ = some (.int .i64 c.kd) := fb.val (i := 11) rfl; have c12 : wS.cell? ⟨w.heap.size, 12, none⟩ = some (.int .i64 c.lm) := fb.val (i := 12) rfl; have c13 : wS.cell? ⟨w.heap.size, 13, none⟩ = some (.int .i64 c.st) := fb.val (i := 13) rfl; have c14 : wS.cell? ⟨w.heap.size, 14, none⟩ = some (.int .i64 c.th) := fb.val (i := 14) rfl; have c15 : wS.cell? ⟨w.heap.size, 15, none⟩ = some (.int .i64 c.rg) := fb.val (i := 15) rfl; have k2_0 : wS.cell? ⟨g2, 0, none⟩ = some (.int .i64 c.hg) := f2.val (i := 0) rfl; have k2_1 : wS.cell? ⟨g2, 1, none⟩ = some (.int .i64 c.lo) := f2.val (i := 1) rfl; have k2_2 : wS.cell? ⟨g2, 2, none⟩ = some (.int .i64 c.dw) := f2.val (i := 2) rfl; have k3_0 : wS.cell? ⟨g3, 0, none⟩ = some (.int .i64 c.sp) := f3.val (i := 0) rfl; have k3_1 : wS.cell? ⟨g3, 1, none⟩ = some (.int .i64 c.kp) := f3.val (i := 1) rfl; have k3_2 : wS.cell? ⟨g3, 2, none⟩ = some (.int .i64 c.ki) := f3.val (i := 2) rfl; have k3_3 : wS.cell? ⟨g3, 3, none⟩ = some (.int .i64 c.kd) := f3.val (i := 3) rfl; have k3_4 : wS.cell? ⟨g3, 4, none⟩ = some (.int .i64 c.lm) := f3.val (i := 4) rfl; have k3_5 : wS.cell? ⟨g3, 5, none⟩ = some (.int .i64 c.st) := f3.val (i := 5) rfl; have k3_6 : wS.cell? ⟨g3, 6, none⟩ = some (.int .i64 (mostW c)) := f3.val (i := 6) rfl; (first | (go_simp; done) | (go_simp; with_reducible rfl)))
  try simp only [Act.put, List.getElem_toArray, List.getElem_cons_zero, List.getElem_cons_succ, List.setIfInBounds_toArray, List.set_cons_zero, List.set_cons_succ]
  refine wpAnyH_ready (rs := [18]) (by kernel_rfl) (by simp) ?_
  refine AllReadyH.cons rfl (fun K hK => ?_) AllReadyH.nil
  rw [if_pos (by rfl)]
  refine wp_enter (by go_simp; exact ⟨rfl, rfl⟩) ?_
  refine (pright_any _ _ _ _ _ _ _ _).mono ?_
  rw [hp]
  rintro e wn ⟨rfl, hbn⟩
  have hS2 := held8_below hHeld hbn
  clear hHeld hbn
  refine ⟨_, rfl, ?_⟩
  refine hK.out _ _ hS2 (fun hHeld => ?_)
  clear hK K hS2
  try simp only [Act.put, List.getElem_toArray, List.getElem_cons_zero, List.getElem_cons_succ, List.setIfInBounds_toArray, List.set_cons_zero, List.set_cons_succ]
  refine wpAnyH_take (i := 19) (v := .bool false) rfl (by kernel_rfl) (by kernel_rfl) (by kernel_rfl) (fun _ _ _ h => h) (Or.inl ⟨by rfl, ?_⟩) (by assumption) ?_
  · (intro wS hSw; clear hSw; (first | (go_simp; done) | (go_simp; with_reducible rfl) | (go_simp; simp; done) | (go_simp; trace_state)))
  try simp only [Act.put, List.getElem_toArray, List.getElem_cons_zero, List.getElem_cons_succ, List.setIfInBounds_toArray, List.set_cons_zero, List.set_cons_succ]
  refine wpAnyH_take (i := 20) (v := ?_) rfl (by kernel_rfl) (by kernel_rfl) (by kernel_rfl) (fun _ _ _ h => h) (Or.inl ⟨by rfl, ?_⟩) (by assumption) ?_
  rotate_left
  · (intro wS hSw; clear hSw; (first | (go_simp; done) | (go_simp; with_reducible rfl)))
  try simp only [Act.put, List.getElem_toArray, List.getElem_cons_zero, List.getElem_cons_succ, List.setIfInBounds_toArray, List.set_cons_zero, List.set_cons_succ]
  refine wpAnyH_take (i := 21) (v := ?_) rfl (by kernel_rfl) (by kernel_rfl) (by kernel_rfl) (fun _ _ _ h => h) (Or.inl ⟨by rfl, ?_⟩) (by assumption) ?_
  rotate_left
  · (intro wS hSw; clear hSw; (first | (go_simp; done) | (go_simp; with_reducible rfl)))
  try simp only [Act.put, List.getElem_toArray, List.getElem_cons_zero, List.getElem_cons_succ, List.setIfInBounds_toArray, List.set_cons_zero, List.set_cons_succ]
  refine wpAnyH_take (i := 22) (v := ?_) rfl (by kernel_rfl) (by kernel_rfl) (by kernel_rfl) (fun _ _ _ h => h) (Or.inl ⟨by rfl, ?_⟩) (by assumption) ?_
  rotate_left
  · (intro wS hSw; obtain ⟨fb, fr, f2, f3, fbe⟩ := hSw; have c0 : wS.cell? ⟨w.heap.size, 0, none⟩ = some (.int .i64 c.ti) := fb.val (i := 0) rfl; have c1 : wS.cell? ⟨w.heap.size, 1, none⟩ = some (.int .i64 c.ro) := fb.val (i := 1) rfl; have c2 : wS.cell? ⟨w.heap.size, 2, none⟩ = some (.int .i64 c.ta) := fb.val (i := 2) rfl; have c3 : wS.cell? ⟨w.heap.size, 3, none⟩ = some (.int .i64 c.iv) := fb.val (i := 3) rfl; have c4 : wS.cell? ⟨w.heap.size, 4, none⟩ = some (.int .i64 c.hg) := fb.val (i := 4) rfl; have c5 : wS.cell? ⟨w.heap.size, 5, none⟩ = some (.int .i64 c.lo) := fb.val (i := 5) rfl; have c6 : wS.cell? ⟨w.heap.size, 6, none⟩ = some (.int .i64 c.dw) := fb.val (i := 6) rfl; have c7 : wS.cell? ⟨w.heap.size, 7, none⟩ = some (.int .i64 c.ho) := fb.val (i := 7) rfl; have c8 : wS.cell? ⟨w.heap.size, 8, none⟩ = some (.int .i64 c.sp) := fb.val (i := 8) rfl; have c9 : wS.cell? ⟨w.heap.size, 9, none⟩ = some (.int .i64 c.kp) := fb.val (i := 9) rfl; have c10 : wS.cell? ⟨w.heap.size, 10, none⟩ = some (.int .i64 c.ki) := fb.val (i := 10) rfl; have c11 : wS.cell? ⟨w.heap.size, 11, none⟩ = some (.int .i64 c.kd) := fb.val (i := 11) rfl; have c12 : wS.cell? ⟨w.heap.size, 12, none⟩ = some (.int .i64 c.lm) := fb.val (i := 12) rfl; have c13 : wS.cell? ⟨w.heap.size, 13, none⟩ = some (.int .i64 c.st) := fb.val (i := 13) rfl; have c14 : wS.cell? ⟨w.heap.size, 14, none⟩ = some (.int .i64 c.th) := fb.val (i := 14) rfl; have c15 : wS.cell? ⟨w.heap.size, 15, none⟩ = some (.int .i64 c.rg) := fb.val (i := 15) rfl; have k2_0 : wS.cell? ⟨g2, 0, none⟩ = some (.int .i64 c.hg) := f2.val (i := 0) rfl; have k2_1 : wS.cell? ⟨g2, 1, none⟩ = some (.int .i64 c.lo) := f2.val (i := 1) rfl; have k2_2 : wS.cell? ⟨g2, 2, none⟩ = some (.int .i64 c.dw) := f2.val (i := 2) rfl; have k3_0 : wS.cell? ⟨g3, 0, none⟩ = some (.int .i64 c.sp) := f3.val (i := 0) rfl; have k3_1 : wS.cell? ⟨g3, 1, none⟩ = some (.int .i64 c.kp) := f3.val (i := 1) rfl; have k3_2 : wS.cell? ⟨g3, 2, none⟩ = some (.int .i64 c.ki) := f3.val (i := 2) rfl; have k3_3 : wS.cell? ⟨g3, 3, none⟩ = some (.int .i64 c.kd) := f3.val (i := 3) rfl; have k3_4 : wS.cell? ⟨g3, 4, none⟩ = some (.int .i64 c.lm) := f3.val (i := 4) rfl; have k3_5 : wS.cell? ⟨g3, 5, none⟩ = some (.int .i64 c.st) := f3.val (i := 5) rfl; have k3_6 : wS.cell? ⟨g3, 6, none⟩ = some (.int .i64 (mostW c)) := f3.val (i := 6) rfl; (first | (go_simp; done) | (go_simp; with_reducible rfl)))
  try simp only [Act.put, List.getElem_toArray, List.getElem_cons_zero, List.getElem_cons_succ, List.setIfInBounds_toArray, List.set_cons_zero, List.set_cons_succ]
  refine wpAnyH_ready (rs := [23]) (by kernel_rfl) (by simp) ?_
  refine AllReadyH.cons rfl (fun K hK => ?_) AllReadyH.nil
  rw [if_pos (by rfl)]
  refine wp_enter (by go_simp; exact ⟨rfl, rfl⟩) ?_
  refine (mright_any _ _ _ _).mono ?_
  rw [hm]
  rintro e wn ⟨rfl, hbn⟩
  have hS2 := held8_below hHeld hbn
  clear hHeld hbn
  refine ⟨_, rfl, ?_⟩
  refine hK.out _ _ hS2 (fun hHeld => ?_)
  clear hK K hS2
  try simp only [Act.put, List.getElem_toArray, List.getElem_cons_zero, List.getElem_cons_succ, List.setIfInBounds_toArray, List.set_cons_zero, List.set_cons_succ]
  refine wpAnyH_take (i := 24) (v := .bool false) rfl (by kernel_rfl) (by kernel_rfl) (by kernel_rfl) (fun _ _ _ h => h) (Or.inl ⟨by rfl, ?_⟩) (by assumption) ?_
  · (intro wS hSw; clear hSw; (first | (go_simp; done) | (go_simp; with_reducible rfl) | (go_simp; simp; done) | (go_simp; trace_state)))
  try simp only [Act.put, List.getElem_toArray, List.getElem_cons_zero, List.getElem_cons_succ, List.setIfInBounds_toArray, List.set_cons_zero, List.set_cons_succ]
  refine wpAnyH_take (i := 25) (v := ?_) rfl (by kernel_rfl) (by kernel_rfl) (by kernel_rfl) (fun _ _ _ h => h) (Or.inl ⟨by rfl, ?_⟩) (by assumption) ?_
  rotate_left
  · (intro wS hSw; clear hSw; (first | (go_simp; done) | (go_simp; with_reducible rfl)))
  try simp only [Act.put, List.getElem_toArray, List.getElem_cons_zero, List.getElem_cons_succ, List.setIfInBounds_toArray, List.set_cons_zero, List.set_cons_succ]
  refine wpAnyH_take (i := 26) (v := ?_) rfl (by kernel_rfl) (by kernel_rfl) (by kernel_rfl) (fun _ _ _ h => h) (Or.inl ⟨by rfl, ?_⟩) (by assumption) ?_
  rotate_left
  · (intro wS hSw; clear hSw; (first | (go_simp; done) | (go_simp; with_reducible rfl)))
  try simp only [Act.put, List.getElem_toArray, List.getElem_cons_zero, List.getElem_cons_succ, List.setIfInBounds_toArray, List.set_cons_zero, List.set_cons_succ]
  refine wpAnyH_done (by kernel_rfl) ?_ _
  refine NoPanic.normal ?_
  exact ⟨rfl, hHeld, _, _, _, _, _, _, _, _, _, _, _, _, _, _, _, _, _, _, _, _, _, _, _, _, _, _, rfl⟩
end Go.Proofs.YthkkhangajiieaaDoor
