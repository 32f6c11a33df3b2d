/- SwingTells is true of every two rows of numbers and every point, and changes nothing that it was given. -/
import Derived.Test.YtcbpocannmconaaSwf
import Derived.Test.YtcbpocannmconaaSwg
import Derived.Test.YtcbpocannmconaaHelpc
import Derived.Test.YtcbpocannmconaaAny
import Derived.Test.YtcbpocannmconaaRowb
import Derived.Test.YtcbpocannmconaaRows
import Derived.WalkKit
import Derived.ProofKit
import Derived.OpenShut
import Derived.Deep.DeepCutAuto
import Derived.Deep.CutBlock
import Derived.BigQuiet
import Derived.Deep.QuietTactic
import Derived.Deep.RegionHeld3
namespace Go.Proofs.Ytcbpocannmconaa.swingTells
open Go.ChangeShapes Go.WideShapes Go.ChangeAt Go.RowKit
set_option linter.unusedVariables false
theorem own : ownKnob Try.prog.godebug = none := by kernel_rfl
theorem laidOut : laidOutB Try.prog = true := by kernel_rfl
theorem reads : (Try.f3.params.toList.all fun t => Try.prog.readableRec t && decide (t < Try.prog.types.size)) = true := by kernel_rfl
set_option linter.unusedSimpArgs false
set_option maxRecDepth 100000 in
set_option maxHeartbeats 8000000 in
theorem walk (AU : Option Addr) (lu cu : Nat) (U : Nat → Int) (AL : Option Addr) (ll cl : Nat) (L : Nat → Int) (u v : Int) (w : World) (hlu : lu ≤ cu) (hcu : cu ≤ maxLen) (hU : SeqAt w w.heap.size AU lu 1 (fun i => [.int .i64 (U i)])) (hUo : ∀ i, -9223372036854775808 ≤ U i ∧ U i ≤ 9223372036854775807) (hll : ll ≤ cl) (hcl : cl ≤ maxLen) (hL : SeqAt w w.heap.size AL ll 1 (fun i => [.int .i64 (L i)])) (hLo : ∀ i, -9223372036854775808 ≤ L i ∧ L i ≤ 9223372036854775807) (u0 : -9223372036854775808 ≤ u) (u1 : u ≤ 9223372036854775807) (v0 : -9223372036854775808 ≤ v) (v1 : v ≤ 9223372036854775807) :
    Calls Try.prog 3 #[.slice AU lu cu, .slice AL ll cl, .int .i64 u, .int .i64 v] w fun e w' => e = .returned (.bool true) ∧ Below w.heap.size w w' := by
  unfold maxLen at hcu hcl
  have HU := Lib.hid hU
  have HL := Lib.hid hL
  clear hU hL hUo hLo
  go_enter Try.func3, Try.ntmps3
  go_wp2_with fail
  refine (awake12 _).mono ?_
  rintro e x1 ⟨rfl, hb1⟩
  have h1s := hb1.size
  have HU1 := Lib.hid (HU.out.up hb1 h1s)
  have HL1 := Lib.hid (HL.out.up hb1 h1s)
  have HB1 := Lib.hid hb1
  clear HU HL hb1
  go_wp2_with fail
  refine (way_any HU1.out HL1.out (by omega) (by omega)).mono ?_
  rintro e x2 ⟨v6, v7, n, rfl, hn, ho1, ho2, hb2⟩
  obtain ⟨A6, c6, rfl, hp⟩ := pts_of ho1
  obtain ⟨A7, c7, rfl, hr⟩ := rpts_of ho2
  have HB2 := Lib.hid (HB1.out.trans (hb2.mono h1s))
  have h2s := HB2.out.size
  have n60 : n ≤ 60 := by omega
  obtain ⟨a, ha⟩ : ∃ a : Nat → Int, (fun i => clampZ (U i)) = a := ⟨_, rfl⟩
  obtain ⟨b, hb⟩ : ∃ b : Nat → Int, (fun i => clampZ (L i)) = b := ⟨_, rfl⟩
  rw [ha, hb] at hp hr
  have HP := Lib.hid hp
  have HR := Lib.hid hr
  clear ha hb hp hr ho1 ho2 hn hb2 HU1 HL1 HB1
  have hcu1 : ∀ W, (convert 2 33 (.int .i64 (clampZ u))).run Try.prog W = .ok (.float .f64 (wd u)) W := fun W => run_convert_int_float W _ _ _ _ _ (by rw [Try.underlying2]; rfl) Try.underlying33
  have hcv1 : ∀ W, (convert 2 33 (.int .i64 (clampZ v))).run Try.prog W = .ok (.float .f64 (wd v)) W := fun W => run_convert_int_float W _ _ _ _ _ (by rw [Try.underlying2]; rfl) Try.underlying33
  have ou : FloatKind.f64.format.order (wd u) (wd u) = some .eq := by have := (wd_fl u).order (wd_fl u); rw [show compare (clampZ u) (clampZ u) = .eq from by simp [compare, compareOfLessAndEq]] at this; exact this
  have ov : FloatKind.f64.format.order (wd v) (wd v) = some .eq := by have := (wd_fl v).order (wd_fl v); rw [show compare (clampZ v) (clampZ v) = .eq from by simp [compare, compareOfLessAndEq]] at this; exact this
  have nu : ∀ W, (binOp .neq 33 (.float .f64 (wd u)) (.float .f64 (wd u))).run Try.prog W = .ok (.bool false) W := fun W => by rw [binOp_float_cmp_neq, ou]; rfl
  have nv : ∀ W, (binOp .neq 33 (.float .f64 (wd v)) (.float .f64 (wd v))).run Try.prog W = .ok (.bool false) W := fun W => by rw [binOp_float_cmp_neq, ov]; rfl
  obtain ⟨cu', hcu'⟩ : ∃ z, clampZ u = z := ⟨_, rfl⟩
  obtain ⟨cv', hcv'⟩ : ∃ z, clampZ v = z := ⟨_, rfl⟩
  have FU := wd_fl u
  have FV := wd_fl v
  have GU := clampZ_abs u
  have GV := clampZ_abs v
  have hpt := fun W => rpoint_any u v W
  rw [hcu'] at FU GU hcu1 hpt
  rw [hcv'] at FV GV hcv1 hpt
  have HPT := Lib.hid hpt
  have HFU := Lib.hid FU
  have HFV := Lib.hid FV
  clear hcu' hcv' FU FV hpt
  go_upto_region 5 with (first
    | (go_at_call 9; refine (at_any _ _ _).mono ?_; rintro e w1 ⟨rfl, rfl⟩)
    | (go_at_call 10; refine (HPT.out _).mono ?_; rintro e x3 ⟨rfl, hb3⟩))
  have BX : Hid (Bxs x2 x3 []) := Lib.hid ((Bxs.nil_ x2).below hb3)
  clear hb3
  refine wp_worldx (fun wx => Bxs x2 wx [(x3.heap.size, 31, [.int .i64 cu', .int .i64 cv'])]) ((BX.out).alloc_ _ _ (by simp)) ?_
  clear BX
  rintro x21 bx
  have BX := Lib.hid bx
  clear bx
  have p0_0 : x21.cell? ⟨x3.heap.size, 0, none⟩ = some (.int .i64 cu') := (BX.out.bl 0 _ _ _ rfl).val rfl
  have p0_1 : x21.cell? ⟨x3.heap.size, 1, none⟩ = some (.int .i64 cv') := (BX.out.bl 0 _ _ _ rfl).val rfl
  have z0 : ∀ k, x21.frozen? ⟨x3.heap.size, k, none⟩ = false := (BX.out.bl 0 _ _ _ rfl).free
  have y0 : x3.heap.size < x21.heap.size := (BX.out.bl 0 _ _ _ rfl).size
  refine wp_region_noPanic ?_
  refine begun (fun w' => w'.cell? ⟨x3.heap.size, 0, none⟩ = some (.int .i64 cu') ∧ w'.cell? ⟨x3.heap.size, 1, none⟩ = some (.int .i64 cv')) [] (by kernel_rfl) (by (repeat (first | with_reducible assumption | refine ⟨?_, ?_⟩ | with_reducible refine kdrew ?_ | with_reducible refine kalloc ?_ _ | with_reducible refine kother ?_ (by simp; try omega)))) (fun hShut hHeld => ?_)
  refine anyB_take 40 (i := 0) (v := ?_) rfl (by kernel_rfl) (by kernel_rfl) (by kernel_rfl) (by kernel_rfl) (by kernel_rfl) (fun _ _ _ h => h) hShut hHeld (Or.inl ⟨by rfl, ?_⟩) (fun hShut => ?_)
  rotate_left
  · (intro wS hSw; (try dsimp only at hSw); (first | (go_simp; done) | (go_simp; with_reducible rfl)))
  try simp only [Act.put, List.getElem_toArray, List.getElem_cons_zero, List.getElem_cons_succ, List.setIfInBounds_toArray, List.set_cons_zero, List.set_cons_succ]
  refine anyB_take 40 (i := 1) (v := ?_) rfl (by kernel_rfl) (by kernel_rfl) (by kernel_rfl) (by kernel_rfl) (by kernel_rfl) (fun _ _ _ h => h) hShut hHeld (Or.inl ⟨by rfl, ?_⟩) (fun hShut => ?_)
  rotate_left
  · (intro wS hSw; (try dsimp only at hSw); (first | (go_simp; done) | (go_simp; with_reducible rfl)))
  try simp only [Act.put, List.getElem_toArray, List.getElem_cons_zero, List.getElem_cons_succ, List.setIfInBounds_toArray, List.set_cons_zero, List.set_cons_succ]
  refine anyB_take 40 (i := 2) (v := ?_) rfl (by kernel_rfl) (by kernel_rfl) (by kernel_rfl) (by kernel_rfl) (by kernel_rfl) (fun _ _ _ h => h) hShut hHeld (Or.inl ⟨by rfl, ?_⟩) (fun hShut => ?_)
  rotate_left
  · (intro wS hSw; (try dsimp only at hSw); (first | (go_simp; done) | (go_simp; with_reducible rfl)))
  try simp only [Act.put, List.getElem_toArray, List.getElem_cons_zero, List.getElem_cons_succ, List.setIfInBounds_toArray, List.set_cons_zero, List.set_cons_succ]
  refine anyB_take 40 (i := 3) (v := ?_) rfl (by kernel_rfl) (by kernel_rfl) (by kernel_rfl) (by kernel_rfl) (by kernel_rfl) (fun _ _ _ h => h) hShut hHeld (Or.inl ⟨by rfl, ?_⟩) (fun hShut => ?_)
  rotate_left
  · (intro wS hSw; (try dsimp only at hSw); (first | (go_simp; done) | (go_simp; with_reducible rfl)))
  try simp only [Act.put, List.getElem_toArray, List.getElem_cons_zero, List.getElem_cons_succ, List.setIfInBounds_toArray, List.set_cons_zero, List.set_cons_succ]
  refine anyB_take 40 (i := 4) (v := ?_) rfl (by kernel_rfl) (by kernel_rfl) (by kernel_rfl) (by kernel_rfl) (by kernel_rfl) (fun _ _ _ h => h) hShut hHeld (Or.inl ⟨by rfl, ?_⟩) (fun hShut => ?_)
  rotate_left
  · (intro wS hSw; (try dsimp only at hSw); (first | (go_simp; done) | (go_simp; with_reducible rfl)))
  try simp only [Act.put, List.getElem_toArray, List.getElem_cons_zero, List.getElem_cons_succ, List.setIfInBounds_toArray, List.set_cons_zero, List.set_cons_succ]
  refine anyB_take 40 (i := 5) (v := ?_) rfl (by kernel_rfl) (by kernel_rfl) (by kernel_rfl) (by kernel_rfl) (by kernel_rfl) (fun _ _ _ h => h) hShut hHeld (Or.inl ⟨by rfl, ?_⟩) (fun hShut => ?_)
  rotate_left
  · (intro wS hSw; (try dsimp only at hSw); (first | (go_simp; done) | (go_simp; with_reducible rfl)))
  try simp only [Act.put, List.getElem_toArray, List.getElem_cons_zero, List.getElem_cons_succ, List.setIfInBounds_toArray, List.set_cons_zero, List.set_cons_succ]
  refine anyB_take 40 (i := 6) (v := ?_) rfl (by kernel_rfl) (by kernel_rfl) (by kernel_rfl) (by kernel_rfl) (by kernel_rfl) (fun _ _ _ h => h) hShut hHeld (Or.inl ⟨by rfl, ?_⟩) (fun hShut => ?_)
  rotate_left
  · (intro wS hSw; (try dsimp only at hSw); (first | (go_simp; done) | (go_simp; with_reducible rfl)))
  try simp only [Act.put, List.getElem_toArray, List.getElem_cons_zero, List.getElem_cons_succ, List.setIfInBounds_toArray, List.set_cons_zero, List.set_cons_succ]
  refine anyB_take 40 (i := 7) (v := ?_) rfl (by kernel_rfl) (by kernel_rfl) (by kernel_rfl) (by kernel_rfl) (by kernel_rfl) (fun _ _ _ h => h) hShut hHeld (Or.inl ⟨by rfl, ?_⟩) (fun hShut => ?_)
  rotate_left
  · (intro wS hSw; (try dsimp only at hSw); (first | (go_simp; done) | (go_simp; with_reducible rfl)))
  try simp only [Act.put, List.getElem_toArray, List.getElem_cons_zero, List.getElem_cons_succ, List.setIfInBounds_toArray, List.set_cons_zero, List.set_cons_succ]
  refine anyB_take 40 (i := 8) (v := ?_) rfl (by kernel_rfl) (by kernel_rfl) (by kernel_rfl) (by kernel_rfl) (by kernel_rfl) (fun _ _ _ h => h) hShut hHeld (Or.inl ⟨by rfl, ?_⟩) (fun hShut => ?_)
  rotate_left
  · (intro wS hSw; (try dsimp only at hSw); (first | (go_simp; done) | (go_simp; with_reducible rfl)))
  try simp only [Act.put, List.getElem_toArray, List.getElem_cons_zero, List.getElem_cons_succ, List.setIfInBounds_toArray, List.set_cons_zero, List.set_cons_succ]
  refine anyB_take 40 (i := 9) (v := ?_) rfl (by kernel_rfl) (by kernel_rfl) (by kernel_rfl) (by kernel_rfl) (by kernel_rfl) (fun _ _ _ h => h) hShut hHeld (Or.inl ⟨by rfl, ?_⟩) (fun hShut => ?_)
  rotate_left
  · (intro wS hSw; (try dsimp only at hSw); (first | (go_simp; done) | (go_simp; with_reducible rfl)))
  try simp only [Act.put, List.getElem_toArray, List.getElem_cons_zero, List.getElem_cons_succ, List.setIfInBounds_toArray, List.set_cons_zero, List.set_cons_succ]
  refine anyB_take 40 (i := 10) (v := ?_) rfl (by kernel_rfl) (by kernel_rfl) (by kernel_rfl) (by kernel_rfl) (by kernel_rfl) (fun _ _ _ h => h) hShut hHeld (Or.inl ⟨by rfl, ?_⟩) (fun hShut => ?_)
  rotate_left
  · (intro wS hSw; (try dsimp only at hSw); (first | (go_simp; done) | (go_simp; with_reducible rfl)))
  try simp only [Act.put, List.getElem_toArray, List.getElem_cons_zero, List.getElem_cons_succ, List.setIfInBounds_toArray, List.set_cons_zero, List.set_cons_succ]
  refine anyB_take 40 (i := 11) (v := ?_) rfl (by kernel_rfl) (by kernel_rfl) (by kernel_rfl) (by kernel_rfl) (by kernel_rfl) (fun _ _ _ h => h) hShut hHeld (Or.inl ⟨by rfl, ?_⟩) (fun hShut => ?_)
  rotate_left
  · (intro wS hSw; (try dsimp only at hSw); (first | (go_simp; done) | (go_simp; with_reducible rfl)))
  try simp only [Act.put, List.getElem_toArray, List.getElem_cons_zero, List.getElem_cons_succ, List.setIfInBounds_toArray, List.set_cons_zero, List.set_cons_succ]
  refine anyB_take 40 (i := 12) (v := ?_) rfl (by kernel_rfl) (by kernel_rfl) (by kernel_rfl) (by kernel_rfl) (by kernel_rfl) (fun _ _ _ h => h) hShut hHeld (Or.inl ⟨by rfl, ?_⟩) (fun hShut => ?_)
  rotate_left
  · (intro wS hSw; (try dsimp only at hSw); (first | (go_simp; done) | (go_simp; with_reducible rfl)))
  try simp only [Act.put, List.getElem_toArray, List.getElem_cons_zero, List.getElem_cons_succ, List.setIfInBounds_toArray, List.set_cons_zero, List.set_cons_succ]
  refine anyB_take 40 (i := 13) (v := ?_) rfl (by kernel_rfl) (by kernel_rfl) (by kernel_rfl) (by kernel_rfl) (by kernel_rfl) (fun _ _ _ h => h) hShut hHeld (Or.inl ⟨by rfl, ?_⟩) (fun hShut => ?_)
  rotate_left
  · (intro wS hSw; (try dsimp only at hSw); (first | (go_simp; done) | (go_simp; with_reducible rfl)))
  try simp only [Act.put, List.getElem_toArray, List.getElem_cons_zero, List.getElem_cons_succ, List.setIfInBounds_toArray, List.set_cons_zero, List.set_cons_succ]
  refine anyB_take 40 (i := 14) (v := ?_) rfl (by kernel_rfl) (by kernel_rfl) (by kernel_rfl) (by kernel_rfl) (by kernel_rfl) (fun _ _ _ h => h) hShut hHeld (Or.inl ⟨by rfl, ?_⟩) (fun hShut => ?_)
  rotate_left
  · (intro wS hSw; (try dsimp only at hSw); (first | (go_simp; done) | (go_simp; with_reducible rfl)))
  try simp only [Act.put, List.getElem_toArray, List.getElem_cons_zero, List.getElem_cons_succ, List.setIfInBounds_toArray, List.set_cons_zero, List.set_cons_succ]
  refine anyB_take 40 (i := 15) (v := ?_) rfl (by kernel_rfl) (by kernel_rfl) (by kernel_rfl) (by kernel_rfl) (by kernel_rfl) (fun _ _ _ h => h) hShut hHeld (Or.inl ⟨by rfl, ?_⟩) (fun hShut => ?_)
  rotate_left
  · (intro wS hSw; (try dsimp only at hSw); (first | (go_simp; done) | (go_simp; with_reducible rfl)))
  try simp only [Act.put, List.getElem_toArray, List.getElem_cons_zero, List.getElem_cons_succ, List.setIfInBounds_toArray, List.set_cons_zero, List.set_cons_succ]
  refine anyB_take 40 (i := 17) (v := ?_) rfl (by kernel_rfl) (by kernel_rfl) (by kernel_rfl) (by kernel_rfl) (by kernel_rfl) (fun _ _ _ h => h) hShut hHeld (Or.inl ⟨by rfl, ?_⟩) (fun hShut => ?_)
  rotate_left
  · (intro wS hSw; (try dsimp only at hSw); (first | (go_simp; done) | (go_simp; with_reducible rfl)))
  try simp only [Act.put, List.getElem_toArray, List.getElem_cons_zero, List.getElem_cons_succ, List.setIfInBounds_toArray, List.set_cons_zero, List.set_cons_succ]
  refine anyB_each (rs := [16]) hShut (by kernel_rfl) (by simp) ?_
  refine List.forall_mem_cons.2 ⟨fun hShut => wpOp_step rfl (fun K hK => ?_), fun _ h => by cases h⟩
  rw [if_pos (by rfl)]
  refine wp_enter (by go_simp; exact ⟨rfl, rfl⟩) ?_
  refine (area_any (HP.out.below (by first | exact BX.out.be | exact BX.out.drew_.be | exact (BX.out.drewN_ _).be)) (by first | exact BX.out.be.size | exact BX.out.drew_.be.size | exact (BX.out.drewN_ _).be.size) (by omega)).mono ?_
  rintro e wn ⟨rfl, hbn⟩
  have bx : Bxs x2 wn [(x3.heap.size, 31, [.int .i64 cu', .int .i64 cv'])] := (by first | exact BX.out.below hbn | exact BX.out.drew_.below hbn | exact (BX.out.drewN_ _).below hbn)
  clear hbn BX p0_0 p0_1 z0 y0
  have BX := Lib.hid bx
  clear bx
  have p0_0 : wn.cell? ⟨x3.heap.size, 0, none⟩ = some (.int .i64 cu') := (BX.out.bl 0 _ _ _ rfl).val rfl
  have p0_1 : wn.cell? ⟨x3.heap.size, 1, none⟩ = some (.int .i64 cv') := (BX.out.bl 0 _ _ _ rfl).val rfl
  have z0 : ∀ k, wn.frozen? ⟨x3.heap.size, k, none⟩ = false := (BX.out.bl 0 _ _ _ rfl).free
  have y0 : x3.heap.size < wn.heap.size := (BX.out.bl 0 _ _ _ rfl).size
  refine ⟨_, rfl, ?_⟩
  refine held hK (by (repeat (first | with_reducible assumption | refine ⟨?_, ?_⟩ | with_reducible refine kdrew ?_ | with_reducible refine kalloc ?_ _ | with_reducible refine kother ?_ (by simp; try omega)))) (fun hHeld => ?_)
  clear hK K
  try simp only [Act.put, List.getElem_toArray, List.getElem_cons_zero, List.getElem_cons_succ, List.setIfInBounds_toArray, List.set_cons_zero, List.set_cons_succ]
  refine anyB_each (rs := [18]) hShut (by kernel_rfl) (by simp) ?_
  refine List.forall_mem_cons.2 ⟨fun hShut => wpOp_step rfl (fun K hK => ?_), fun _ h => by cases h⟩
  rw [if_pos (by rfl)]
  refine wp_enter (by go_simp; exact ⟨rfl, rfl⟩) ?_
  refine (rarea_any (HR.out.below (by first | exact BX.out.be | exact BX.out.drew_.be | exact (BX.out.drewN_ _).be)) (by first | exact BX.out.be.size | exact BX.out.drew_.be.size | exact (BX.out.drewN_ _).be.size) (by omega)).mono ?_
  rintro e wn ⟨rfl, hbn⟩
  have bx : Bxs x2 wn [(x3.heap.size, 31, [.int .i64 cu', .int .i64 cv'])] := (by first | exact BX.out.below hbn | exact BX.out.drew_.below hbn | exact (BX.out.drewN_ _).below hbn)
  clear hbn BX p0_0 p0_1 z0 y0
  have BX := Lib.hid bx
  clear bx
  have p0_0 : wn.cell? ⟨x3.heap.size, 0, none⟩ = some (.int .i64 cu') := (BX.out.bl 0 _ _ _ rfl).val rfl
  have p0_1 : wn.cell? ⟨x3.heap.size, 1, none⟩ = some (.int .i64 cv') := (BX.out.bl 0 _ _ _ rfl).val rfl
  have z0 : ∀ k, wn.frozen? ⟨x3.heap.size, k, none⟩ = false := (BX.out.bl 0 _ _ _ rfl).free
  have y0 : x3.heap.size < wn.heap.size := (BX.out.bl 0 _ _ _ rfl).size
  refine ⟨_, rfl, ?_⟩
  refine held hK (by (repeat (first | with_reducible assumption | refine ⟨?_, ?_⟩ | with_reducible refine kdrew ?_ | with_reducible refine kalloc ?_ _ | with_reducible refine kother ?_ (by simp; try omega)))) (fun hHeld => ?_)
  clear hK K
  try simp only [Act.put, List.getElem_toArray, List.getElem_cons_zero, List.getElem_cons_succ, List.setIfInBounds_toArray, List.set_cons_zero, List.set_cons_succ]
  refine anyB_take 40 (i := 19) (v := ?_) rfl (by kernel_rfl) (by kernel_rfl) (by kernel_rfl) (by kernel_rfl) (by kernel_rfl) (fun _ _ _ h => h) hShut hHeld (Or.inl ⟨by rfl, ?_⟩) (fun hShut => ?_)
  rotate_left
  · (intro wS hSw; (try dsimp only at hSw); (first | (go_simp; done) | (go_simp; with_reducible rfl)))
  try simp only [Act.put, List.getElem_toArray, List.getElem_cons_zero, List.getElem_cons_succ, List.setIfInBounds_toArray, List.set_cons_zero, List.set_cons_succ]
  refine anyB_take 40 (i := 20) (v := ?_) rfl (by kernel_rfl) (by kernel_rfl) (by kernel_rfl) (by kernel_rfl) (by kernel_rfl) (fun _ _ _ h => h) hShut hHeld (Or.inl ⟨by rfl, ?_⟩) (fun hShut => ?_)
  rotate_left
  · (intro wS hSw; (try dsimp only at hSw); (first | (go_simp; done) | (go_simp; with_reducible rfl)))
  try simp only [Act.put, List.getElem_toArray, List.getElem_cons_zero, List.getElem_cons_succ, List.setIfInBounds_toArray, List.set_cons_zero, List.set_cons_succ]
  refine anyB_take 40 (i := 21) (v := ?_) rfl (by kernel_rfl) (by kernel_rfl) (by kernel_rfl) (by kernel_rfl) (by kernel_rfl) (fun _ _ _ h => h) hShut hHeld (Or.inl ⟨by rfl, ?_⟩) (fun hShut => ?_)
  rotate_left
  · (intro wS hSw; (try dsimp only at hSw); (first | (go_simp; done) | (go_simp; with_reducible rfl)))
  try simp only [Act.put, List.getElem_toArray, List.getElem_cons_zero, List.getElem_cons_succ, List.setIfInBounds_toArray, List.set_cons_zero, List.set_cons_succ]
  refine anyB_take 40 (i := 22) (v := ?_) rfl (by kernel_rfl) (by kernel_rfl) (by kernel_rfl) (by kernel_rfl) (by kernel_rfl) (fun _ _ _ h => h) hShut hHeld (Or.inl ⟨by rfl, ?_⟩) (fun hShut => ?_)
  rotate_left
  · (intro wS hSw; (try dsimp only at hSw); (first | (go_simp; done) | (go_simp; with_reducible rfl)))
  try simp only [Act.put, List.getElem_toArray, List.getElem_cons_zero, List.getElem_cons_succ, List.setIfInBounds_toArray, List.set_cons_zero, List.set_cons_succ]
  refine anyB_take 40 (i := 23) (v := ?_) rfl (by kernel_rfl) (by kernel_rfl) (by kernel_rfl) (by kernel_rfl) (by kernel_rfl) (fun _ _ _ h => h) hShut hHeld (Or.inl ⟨by rfl, ?_⟩) (fun hShut => ?_)
  rotate_left
  · (intro wS hSw; (try dsimp only at hSw); (first | (go_simp; done) | (go_simp; with_reducible rfl)))
  try simp only [Act.put, List.getElem_toArray, List.getElem_cons_zero, List.getElem_cons_succ, List.setIfInBounds_toArray, List.set_cons_zero, List.set_cons_succ]
  refine anyB_take 40 (i := 25) (v := ?_) rfl (by kernel_rfl) (by kernel_rfl) (by kernel_rfl) (by kernel_rfl) (by kernel_rfl) (fun _ _ _ h => h) hShut hHeld (Or.inl ⟨by rfl, ?_⟩) (fun hShut => ?_)
  rotate_left
  · (intro wS hSw; (try dsimp only at hSw); (first | (go_simp; done) | (go_simp; with_reducible rfl)))
  try simp only [Act.put, List.getElem_toArray, List.getElem_cons_zero, List.getElem_cons_succ, List.setIfInBounds_toArray, List.set_cons_zero, List.set_cons_succ]
  refine anyB_take 40 (i := 26) (v := ?_) rfl (by kernel_rfl) (by kernel_rfl) (by kernel_rfl) (by kernel_rfl) (by kernel_rfl) (fun _ _ _ h => h) hShut hHeld (Or.inl ⟨by rfl, ?_⟩) (fun hShut => ?_)
  rotate_left
  · (intro wS hSw; (try dsimp only at hSw); (first | (go_simp; done) | (go_simp; with_reducible rfl)))
  try simp only [Act.put, List.getElem_toArray, List.getElem_cons_zero, List.getElem_cons_succ, List.setIfInBounds_toArray, List.set_cons_zero, List.set_cons_succ]
  refine anyB_each (rs := [24]) hShut (by kernel_rfl) (by simp) ?_
  refine List.forall_mem_cons.2 ⟨fun hShut => wpOp_step rfl (fun K hK => ?_), fun _ h => by cases h⟩
  rw [if_pos (by rfl)]
  refine wp_enter (by go_simp; exact ⟨rfl, rfl⟩) ?_
  refine (far_any (HP.out.below (by first | exact BX.out.be | exact BX.out.drew_.be | exact (BX.out.drewN_ _).be)) (by first | exact BX.out.be.size | exact BX.out.drew_.be.size | exact (BX.out.drewN_ _).be.size) HFU.out HFV.out GU GV (by omega)).mono ?_
  rintro e wn ⟨rfl, rfl⟩
  refine ⟨_, rfl, ?_⟩
  refine held hK (by (repeat (first | with_reducible assumption | refine ⟨?_, ?_⟩ | with_reducible refine kdrew ?_ | with_reducible refine kalloc ?_ _ | with_reducible refine kother ?_ (by simp; try omega)))) (fun hHeld => ?_)
  clear hK K
  try simp only [Act.put, List.getElem_toArray, List.getElem_cons_zero, List.getElem_cons_succ, List.setIfInBounds_toArray, List.set_cons_zero, List.set_cons_succ]
  refine anyB_each (rs := [27]) hShut (by kernel_rfl) (by simp) ?_
  refine List.forall_mem_cons.2 ⟨fun hShut => wpOp_step rfl (fun K hK => ?_), fun _ h => by cases h⟩
  rw [if_pos (by rfl)]
  refine wp_enter (by go_simp; exact ⟨rfl, rfl⟩) ?_
  refine (rfar_any (HR.out.below (by first | exact BX.out.be | exact BX.out.drew_.be | exact (BX.out.drewN_ _).be)) (by first | exact BX.out.be.size | exact BX.out.drew_.be.size | exact (BX.out.drewN_ _).be.size) GU GV (by omega)).mono ?_
  rintro e wn ⟨rfl, hbn⟩
  have bx : Bxs x2 wn [(x3.heap.size, 31, [.int .i64 cu', .int .i64 cv'])] := (by first | exact BX.out.below hbn | exact BX.out.drew_.below hbn | exact (BX.out.drewN_ _).below hbn)
  clear hbn BX p0_0 p0_1 z0 y0
  have BX := Lib.hid bx
  clear bx
  have p0_0 : wn.cell? ⟨x3.heap.size, 0, none⟩ = some (.int .i64 cu') := (BX.out.bl 0 _ _ _ rfl).val rfl
  have p0_1 : wn.cell? ⟨x3.heap.size, 1, none⟩ = some (.int .i64 cv') := (BX.out.bl 0 _ _ _ rfl).val rfl
  have z0 : ∀ k, wn.frozen? ⟨x3.heap.size, k, none⟩ = false := (BX.out.bl 0 _ _ _ rfl).free
  have y0 : x3.heap.size < wn.heap.size := (BX.out.bl 0 _ _ _ rfl).size
  refine ⟨_, rfl, ?_⟩
  refine held hK (by (repeat (first | with_reducible assumption | refine ⟨?_, ?_⟩ | with_reducible refine kdrew ?_ | with_reducible refine kalloc ?_ _ | with_reducible refine kother ?_ (by simp; try omega)))) (fun hHeld => ?_)
  clear hK K
  try simp only [Act.put, List.getElem_toArray, List.getElem_cons_zero, List.getElem_cons_succ, List.setIfInBounds_toArray, List.set_cons_zero, List.set_cons_succ]
  refine anyB_take 40 (i := 28) (v := ?_) rfl (by kernel_rfl) (by kernel_rfl) (by kernel_rfl) (by kernel_rfl) (by kernel_rfl) (fun _ _ _ h => h) hShut hHeld (Or.inl ⟨by rfl, ?_⟩) (fun hShut => ?_)
  rotate_left
  · (intro wS hSw; (try dsimp only at hSw); (first | (go_simp; done) | (go_simp; with_reducible rfl)))
  try simp only [Act.put, List.getElem_toArray, List.getElem_cons_zero, List.getElem_cons_succ, List.setIfInBounds_toArray, List.set_cons_zero, List.set_cons_succ]
  refine anyB_take 40 (i := 29) (v := ?_) rfl (by kernel_rfl) (by kernel_rfl) (by kernel_rfl) (by kernel_rfl) (by kernel_rfl) (fun _ _ _ h => h) hShut hHeld (Or.inl ⟨by rfl, ?_⟩) (fun hShut => ?_)
  rotate_left
  · (intro wS hSw; (try dsimp only at hSw); (first | (go_simp; done) | (go_simp; with_reducible rfl)))
  try simp only [Act.put, List.getElem_toArray, List.getElem_cons_zero, List.getElem_cons_succ, List.setIfInBounds_toArray, List.set_cons_zero, List.set_cons_succ]
  refine anyB_take 40 (i := 30) (v := ?_) rfl (by kernel_rfl) (by kernel_rfl) (by kernel_rfl) (by kernel_rfl) (by kernel_rfl) (fun _ _ _ h => h) hShut hHeld (Or.inl ⟨by rfl, ?_⟩) (fun hShut => ?_)
  rotate_left
  · (intro wS hSw; (try dsimp only at hSw); (first | (go_simp; done) | (go_simp; with_reducible rfl)))
  try simp only [Act.put, List.getElem_toArray, List.getElem_cons_zero, List.getElem_cons_succ, List.setIfInBounds_toArray, List.set_cons_zero, List.set_cons_succ]
  refine anyB_take 40 (i := 31) (v := ?_) rfl (by kernel_rfl) (by kernel_rfl) (by kernel_rfl) (by kernel_rfl) (by kernel_rfl) (fun _ _ _ h => h) hShut hHeld (Or.inl ⟨by rfl, ?_⟩) (fun hShut => ?_)
  rotate_left
  · (intro wS hSw; (try dsimp only at hSw); (first | (go_simp; done) | (go_simp; with_reducible rfl)))
  try simp only [Act.put, List.getElem_toArray, List.getElem_cons_zero, List.getElem_cons_succ, List.setIfInBounds_toArray, List.set_cons_zero, List.set_cons_succ]
  refine anyB_take 40 (i := 32) (v := ?_) rfl (by kernel_rfl) (by kernel_rfl) (by kernel_rfl) (by kernel_rfl) (by kernel_rfl) (fun _ _ _ h => h) hShut hHeld (Or.inl ⟨by rfl, ?_⟩) (fun hShut => ?_)
  rotate_left
  · (intro wS hSw; (try dsimp only at hSw); (first | (go_simp; done) | (go_simp; with_reducible rfl)))
  try simp only [Act.put, List.getElem_toArray, List.getElem_cons_zero, List.getElem_cons_succ, List.setIfInBounds_toArray, List.set_cons_zero, List.set_cons_succ]
  refine anyB_take 40 (i := 34) (v := ?_) rfl (by kernel_rfl) (by kernel_rfl) (by kernel_rfl) (by kernel_rfl) (by kernel_rfl) (fun _ _ _ h => h) hShut hHeld (Or.inl ⟨by rfl, ?_⟩) (fun hShut => ?_)
  rotate_left
  · (intro wS hSw; (try dsimp only at hSw); (first | (go_simp; done) | (go_simp; with_reducible rfl)))
  try simp only [Act.put, List.getElem_toArray, List.getElem_cons_zero, List.getElem_cons_succ, List.setIfInBounds_toArray, List.set_cons_zero, List.set_cons_succ]
  refine anyB_take 40 (i := 35) (v := ?_) rfl (by kernel_rfl) (by kernel_rfl) (by kernel_rfl) (by kernel_rfl) (by kernel_rfl) (fun _ _ _ h => h) hShut hHeld (Or.inl ⟨by rfl, ?_⟩) (fun hShut => ?_)
  rotate_left
  · (intro wS hSw; (try dsimp only at hSw); (first | (go_simp; done) | (go_simp; with_reducible rfl)))
  try simp only [Act.put, List.getElem_toArray, List.getElem_cons_zero, List.getElem_cons_succ, List.setIfInBounds_toArray, List.set_cons_zero, List.set_cons_succ]
  refine anyB_each (rs := [33]) hShut (by kernel_rfl) (by simp) ?_
  refine List.forall_mem_cons.2 ⟨fun hShut => wpOp_step rfl (fun K hK => ?_), fun _ h => by cases h⟩
  rw [if_pos (by rfl)]
  refine wp_enter (by go_simp; exact ⟨rfl, rfl⟩) ?_
  refine (turns_any (HP.out.below (by first | exact BX.out.be | exact BX.out.drew_.be | exact (BX.out.drewN_ _).be)) (by first | exact BX.out.be.size | exact BX.out.drew_.be.size | exact (BX.out.drewN_ _).be.size) HFU.out HFV.out GU GV (by omega)).mono ?_
  rintro e wn ⟨rfl, hbn⟩
  have bx : Bxs x2 wn [(x3.heap.size, 31, [.int .i64 cu', .int .i64 cv'])] := (by first | exact BX.out.below hbn | exact BX.out.drew_.below hbn | exact (BX.out.drewN_ _).below hbn)
  clear hbn BX p0_0 p0_1 z0 y0
  have BX := Lib.hid bx
  clear bx
  have p0_0 : wn.cell? ⟨x3.heap.size, 0, none⟩ = some (.int .i64 cu') := (BX.out.bl 0 _ _ _ rfl).val rfl
  have p0_1 : wn.cell? ⟨x3.heap.size, 1, none⟩ = some (.int .i64 cv') := (BX.out.bl 0 _ _ _ rfl).val rfl
  have z0 : ∀ k, wn.frozen? ⟨x3.heap.size, k, none⟩ = false := (BX.out.bl 0 _ _ _ rfl).free
  have y0 : x3.heap.size < wn.heap.size := (BX.out.bl 0 _ _ _ rfl).size
  refine ⟨_, rfl, ?_⟩
  refine held hK (by (repeat (first | with_reducible assumption | refine ⟨?_, ?_⟩ | with_reducible refine kdrew ?_ | with_reducible refine kalloc ?_ _ | with_reducible refine kother ?_ (by simp; try omega)))) (fun hHeld => ?_)
  clear hK K
  try simp only [Act.put, List.getElem_toArray, List.getElem_cons_zero, List.getElem_cons_succ, List.setIfInBounds_toArray, List.set_cons_zero, List.set_cons_succ]
  refine anyB_each (rs := [36]) hShut (by kernel_rfl) (by simp) ?_
  refine List.forall_mem_cons.2 ⟨fun hShut => wpOp_step rfl (fun K hK => ?_), fun _ h => by cases h⟩
  rw [if_pos (by rfl)]
  refine wp_enter (by go_simp; exact ⟨rfl, rfl⟩) ?_
  refine (rturns_any (HR.out.below (by first | exact BX.out.be | exact BX.out.drew_.be | exact (BX.out.drewN_ _).be)) (by first | exact BX.out.be.size | exact BX.out.drew_.be.size | exact (BX.out.drewN_ _).be.size) GU GV (by omega)).mono ?_
  rintro e wn ⟨rfl, hbn⟩
  have bx : Bxs x2 wn [(x3.heap.size, 31, [.int .i64 cu', .int .i64 cv'])] := (by first | exact BX.out.below hbn | exact BX.out.drew_.below hbn | exact (BX.out.drewN_ _).below hbn)
  clear hbn BX p0_0 p0_1 z0 y0
  have BX := Lib.hid bx
  clear bx
  have p0_0 : wn.cell? ⟨x3.heap.size, 0, none⟩ = some (.int .i64 cu') := (BX.out.bl 0 _ _ _ rfl).val rfl
  have p0_1 : wn.cell? ⟨x3.heap.size, 1, none⟩ = some (.int .i64 cv') := (BX.out.bl 0 _ _ _ rfl).val rfl
  have z0 : ∀ k, wn.frozen? ⟨x3.heap.size, k, none⟩ = false := (BX.out.bl 0 _ _ _ rfl).free
  have y0 : x3.heap.size < wn.heap.size := (BX.out.bl 0 _ _ _ rfl).size
  refine ⟨_, rfl, ?_⟩
  refine held hK (by (repeat (first | with_reducible assumption | refine ⟨?_, ?_⟩ | with_reducible refine kdrew ?_ | with_reducible refine kalloc ?_ _ | with_reducible refine kother ?_ (by simp; try omega)))) (fun hHeld => ?_)
  clear hK K
  try simp only [Act.put, List.getElem_toArray, List.getElem_cons_zero, List.getElem_cons_succ, List.setIfInBounds_toArray, List.set_cons_zero, List.set_cons_succ]
  refine anyB_take 40 (i := 37) (v := ?_) rfl (by kernel_rfl) (by kernel_rfl) (by kernel_rfl) (by kernel_rfl) (by kernel_rfl) (fun _ _ _ h => h) hShut hHeld (Or.inl ⟨by rfl, ?_⟩) (fun hShut => ?_)
  rotate_left
  · (intro wS hSw; (try dsimp only at hSw); (first | (go_simp; done) | (go_simp; with_reducible rfl)))
  try simp only [Act.put, List.getElem_toArray, List.getElem_cons_zero, List.getElem_cons_succ, List.setIfInBounds_toArray, List.set_cons_zero, List.set_cons_succ]
  refine anyB_take 40 (i := 38) (v := ?_) rfl (by kernel_rfl) (by kernel_rfl) (by kernel_rfl) (by kernel_rfl) (by kernel_rfl) (fun _ _ _ h => h) hShut hHeld (Or.inl ⟨by rfl, ?_⟩) (fun hShut => ?_)
  rotate_left
  · (intro wS hSw; (try dsimp only at hSw); (first | (go_simp; done) | (go_simp; with_reducible rfl)))
  try simp only [Act.put, List.getElem_toArray, List.getElem_cons_zero, List.getElem_cons_succ, List.setIfInBounds_toArray, List.set_cons_zero, List.set_cons_succ]
  refine anyB_done (by kernel_rfl) ?_ _
  refine NoPanic.normal ?_
  go_upto_region 7 with fail
  clear p0_0 p0_1 z0 y0
  have BZ := Lib.hid (by first | exact BX.out.be | exact BX.out.drew_.be | exact (BX.out.drewN_ _).be)
  refine wp_worldx (fun wx => Below x2.heap.size x2 wx) (by first | exact BX.out.be | exact BX.out.drew_.be | exact (BX.out.drewN_ _).be) ?_
  clear BX
  rintro x22 hbx
  have BY := Lib.hid hbx
  have hys := hbx.size
  clear hbx BZ
  by_cases h0 : 0 < n
  · go_wp2_with fail
    refine (corners_some (HP.out.below BY.out) hys h0 (by omega)).mono ?_
    rintro e xc ⟨⟨x1, y1, x2c, y2, c1, d1, c2, d2, rfl, cor⟩, hbc⟩
    have BC := Lib.hid (BY.out.trans (hbc.mono hys))
    have hcs := BC.out.size
    have G1 := cor.g1
    have G2 := cor.g2
    have G3 := cor.g3
    have G4 := cor.g4
    have k1 : ∀ W, (convert 33 2 (.float .f64 x1)).run Try.prog W = .ok (.int .i64 c1) W := fun W => run_convert_float_int W _ _ _ _ _ _ (by rw [Try.underlying33]; rfl) Try.underlying2 (cor.f1.toInt (by omega) (by omega))
    have k2 : ∀ W, (convert 33 2 (.float .f64 y1)).run Try.prog W = .ok (.int .i64 d1) W := fun W => run_convert_float_int W _ _ _ _ _ _ (by rw [Try.underlying33]; rfl) Try.underlying2 (cor.f2.toInt (by omega) (by omega))
    have k3 : ∀ W, (convert 33 2 (.float .f64 x2c)).run Try.prog W = .ok (.int .i64 c2) W := fun W => run_convert_float_int W _ _ _ _ _ _ (by rw [Try.underlying33]; rfl) Try.underlying2 (cor.f3.toInt (by omega) (by omega))
    have k4 : ∀ W, (convert 33 2 (.float .f64 y2)).run Try.prog W = .ok (.int .i64 d2) W := fun W => run_convert_float_int W _ _ _ _ _ _ (by rw [Try.underlying33]; rfl) Try.underlying2 (cor.f4.toInt (by omega) (by omega))
    have CA := Lib.hid cor.all
    clear cor hbc G1 G2 G3 G4 BY hys
    go_wp2_with fail
    go_loopw [77] (fun s77 wr => ∃ k : Nat, k ≤ n ∧ s77 = .int .i64 k ∧ Below x2.heap.size x2 wr) (fun i _ => n - (intOf i).toNat)
    case atStart => exact ⟨0, Nat.zero_le _, rfl, BC.out⟩
    case round =>
      obtain ⟨k, hk, rfl, hbr⟩ := hrel
      have HBR := Lib.hid hbr
      by_cases hlt : k < n
      · obtain ⟨kb, ko, rfl, hkb, hc⟩ := HR.out h0
        obtain ⟨q0, q1, -, -⟩ := hc k hlt
        have kc := fun i => hbr.cell (p := ⟨kb, i, none⟩) hkb
        rw [← kc] at q0 q1
        have hrr : kb < wr.heap.size := by have := hbr.size; omega
        obtain ⟨r1, r2, r3, r4⟩ := CA.out k hlt
        have d1' : decide (a k < c1) = false := by simp; omega
        have d2' : decide (b k < d1) = false := by simp; omega
        have d3' : decide (c2 < a k) = false := by simp; omega
        have d4' : decide (d2 < b k) = false := by simp; omega
        clear kc hc hbr
        go_wp2_with fail
        go_roundw
        case rel => exact ⟨k + 1, by omega, by go_num, by first | exact HBR.out.alloc HBR.out.size _ | exact ((HBR.out.alloc HBR.out.size _).setCell (by have := HBR.out.size; simp; omega) _).setCell (by have := HBR.out.size; simp; omega) _⟩
        case measure => simp [intOf]; omega
      · obtain rfl : k = n := by omega
        have e1 : decide ((0 : Int) < (k : Int)) = true := by simp; omega
        have e2 : decide (0 < k) = true := by simp; omega
        clear hbr
        go_wp2_with fail
        go_ret
        exact ⟨rfl, HB2.out.trans (HBR.out.mono h2s)⟩
  · obtain rfl : n = 0 := by omega
    have z0 : FloatKind.f64.format.order 0 0 = some .eq := by have := Fl.zero.order Fl.zero; exact this
    have ze : ∀ W, (binOp .eql 28 (.complex .f64 0 0) (.complex .f64 0 0)).run Try.prog W = .ok (.bool true) W := fun W => by rw [run_eql_complex, z0]; rfl
    go_wp2_with fail
    refine (corners_none _).mono ?_
    rintro e xc ⟨rfl, hbc⟩
    have BC := Lib.hid (BY.out.trans (hbc.mono hys))
    clear hbc
    go_wp2_with fail
    go_loopw [77] (fun s77 wr => ∃ k : Nat, k ≤ 0 ∧ s77 = .int .i64 k ∧ Below x2.heap.size x2 wr) (fun i _ => 0 - (intOf i).toNat)
    case atStart => exact ⟨0, Nat.le_refl _, rfl, BC.out⟩
    case round =>
      obtain ⟨k, hk, rfl, hbr⟩ := hrel
      obtain rfl : k = 0 := by omega
      have HBR := Lib.hid hbr
      clear hbr
      go_wp2_with fail
      go_ret
      exact ⟨rfl, HB2.out.trans (HBR.out.mono h2s)⟩
set_option maxRecDepth 100000 in
theorem lifted (os : Os) (started : os.Started) (H : Type) (enc : TypeId × Value → H) :
    ReturnsInHanded {} Try.checked os 3 .any (Rows.swingTellsSpec.pre6 enc Try.prog Try.f3 Rows.swingTellsRow.domain false) (Rows.swingTellsSpec.post enc Try.prog Try.f3 false true false false) := by
  refine returnsInHanded_of_change (C := Try.checked) own started (by kernel_rfl) Try.func3
    (ChangeSpec.witness6 (enc := enc) (C := Try.checked) false ⟨#[], #[.slice none 0 0, .slice none 0 0, .int .i64 0, .int .i64 0], []⟩ 8 (by kernel_rfl) (by kernel_rfl) (by kernel_rfl) (by kernel_rfl)) ?_
  intro W base args ds gs before hval0 hW hcnd _
  have hval : ∀ (j : Nat) t v, Try.f3.params[j]? = some t → args[j]? = some v → Value.okWide Try.prog W .any base t v := hval0
  have hW' := hW
  obtain ⟨p, q, hA0, hV, rfl, hfz, hnd⟩ := hW
  have hA : DataW.TrodAll enc Try.prog W 0 (fun _ => true) true Try.f3.params.toList args.toList ds p := hA0
  rw [Try.params3] at hA hval
  obtain ⟨v0, vs0, d0, ds0, p0, q0, hargs, rfl, rfl, h0, r0⟩ := trodAll_cons hA
  obtain ⟨v1, vs1, d1, ds1, p1, q1, rfl, rfl, rfl, h1, r1⟩ := trodAll_cons r0
  obtain ⟨v2, vs2, d2, ds2, p2, q2, rfl, rfl, rfl, h2, r2⟩ := trodAll_cons r1
  obtain ⟨v3, vs3, d3, ds3, p3, q3, rfl, rfl, rfl, h3, r3⟩ := trodAll_cons r2
  obtain ⟨rfl, rfl, rfl⟩ := trodAll_nil r3
  obtain rfl : args = #[v0, v1, v2, v3] := by cases args; simp_all
  obtain ⟨rfl, rfl⟩ := trodVars_none hV
  obtain ⟨A0, len0, cap0, rfl⟩ := okWide_slice Try.underlying22 (hval 0 _ v0 rfl rfl)
  obtain ⟨fu0, g0⟩ := h0
  obtain ⟨s0, t0, Q0, u0, o0⟩ := open_i64s g0
  obtain ⟨A1, len1, cap1, rfl⟩ := okWide_slice Try.underlying22 (hval 1 _ v1 rfl rfl)
  obtain ⟨fu1, g1⟩ := h1
  obtain ⟨s1, t1, Q1, u1, o1⟩ := open_i64s g1
  obtain ⟨a2, rfl, rfl, rfl, w2⟩ := open_int Try.underlying2 (hval 2 _ v2 rfl rfl) h2
  obtain ⟨a3, rfl, rfl, rfl, w3⟩ := open_int Try.underlying2 (hval 3 _ v3 rfl rfl) h3
  clear hA0 hval0
  obtain ⟨l2, m2⟩ := wf_i64 w2
  obtain ⟨l3, m3⟩ := wf_i64 w3
  refine (walk A0 len0 cap0 Q0 A1 len1 cap1 Q1 a2 a3 W s0 t0 u0 o0 s1 t1 u1 o1 l2 m2 l3 m3).mono fun e W' ⟨he, hg⟩ => ?_
  subst he
  exact ⟨_, rfl, post_of_law hW' rfl laidOut reads rfl Try.underlying4 rfl rfl rfl hg⟩
theorem over : Rows.swingTellsRow.holds Try.pinned (OpenSpec.ofChange Rows.swingTellsSpec) :=
  OpenClaim.holds_of_wide 3 Try.f3 rfl rfl rfl rfl rfl rfl rfl ⟨rfl, rfl, rfl, rfl, rfl⟩ rfl rfl rfl rfl rfl (by kernel_rfl) Try.func3 (by kernel_rfl)
    (of_decide_eq_true (by kernel_rfl)) (by unfold Func.isWrapper; first | (rw [if_pos (by decide +kernel)]; kernel_rfl) | (rw [if_neg (by decide +kernel)]; exact ⟨rfl, rfl⟩))
    (fun os started H enc _ => lifted os started H enc)
theorem proved : Rows.SwingTellsSaid := over
end Go.Proofs.Ytcbpocannmconaa.swingTells
