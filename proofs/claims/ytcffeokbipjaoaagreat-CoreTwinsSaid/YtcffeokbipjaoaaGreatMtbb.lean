/- Texts of this claim, one behind the other: Mod. -/
import Derived.Deep.DeepCutAuto
import Derived.BigQuiet
import Derived.Deep.QuietTactic
import Derived.Test.YtcffeokbipjaoaaGreatMtaa
import Derived.Test.YtcffeokbipjaoaaGreatMtam
import Derived.Test.YtcffeokbipjaoaaGreatMtav
import Derived.Test.YtcffeokbipjaoaaGreatMtba
namespace Go.Proofs.YtcffeokbipjaoaaGreat
open Go.ChangeShapes Go.WideShapes Go.ChangeAt Go.RowKit Kn
set_option linter.unusedVariables false
set_option linter.unusedSimpArgs false
structure Mst where
 li : Bool
 si : Int
 tu : Int
abbrev Mst.v (s : Mst) : Value := .agg #[.bool s.li, .int .i64 s.si, .int .u64 s.tu]
structure Mst.ok (s : Mst) : Prop where
 s0 : -9223372036854775808 ≤ s.si
 s1 : s.si ≤ 9223372036854775807
 t0 : 0 ≤ s.tu
 t1 : s.tu ≤ 18446744073709551615
def boundM (li : Bool) (hi lo : Int) : Int := bif li then lo else hi
def mayM (si tu dw now : Int) : Bool := decide (tu = 0) || decide (dw ≤ sat (now - si))
def wantM (li : Bool) (hi lo old bk : Int) : Bool := decide (0 < bk) && decide (boundM li hi lo ≤ old)
def turnM (s : Mst) (hi lo dw now old bk : Int) : Mst :=
 if wantM s.li hi lo old bk = s.li ∨ mayM s.si s.tu dw now = false then s else ⟨!s.li, now, (s.tu + 1) % 18446744073709551616⟩
set_option maxHeartbeats 1000000 in
theorem mbound_t (si tu hi lo dw : Int) (w : World) :
   Calls Tryz.prog 213 #[.agg #[.bool true, .int .i64 si, .int .u64 tu], .agg #[.int .i64 hi, .int .i64 lo, .int .i64 dw]] w fun e w' => e = .returned (.int .i64 lo) ∧ Below w.heap.size w w' := by
 go_enter Tryz.func213, Tryz.ntmps213
 go_upto_region 1 with fail
 refine wp_worldx (fun wx => Bxs w wx [(w.heap.size, 283, [.bool true, .int .i64 si, .int .u64 tu]), (w.heap.size + 1, 136, [.int .i64 hi, .int .i64 lo, .int .i64 dw])]) (((Bxs.nil_ w).alloc_ _ _ (by simp)).alloc_ _ _ (by simp)) ?_
 rintro x1 bx
 have BX := Lib.hid bx
 clear bx
 obtain ⟨p0_0, p0_1, p0_2, z0, y0⟩ := bl3 (BX.out.bl 0 _ _ _ rfl)
 obtain ⟨p1_0, p1_1, p1_2, z1, y1⟩ := bl3 (BX.out.bl 1 _ _ _ rfl)
 go_wp2_with fail
 refine bodyPost_ret (v := .int .i64 lo) (by simp [results, Tryz.results213, go_sem, *]) rfl ⟨rfl, ?_⟩
 exact (BX.out).be
set_option maxHeartbeats 1000000 in
theorem mbound_f (si tu hi lo dw : Int) (w : World) :
   Calls Tryz.prog 213 #[.agg #[.bool false, .int .i64 si, .int .u64 tu], .agg #[.int .i64 hi, .int .i64 lo, .int .i64 dw]] w fun e w' => e = .returned (.int .i64 hi) ∧ Below w.heap.size w w' := by
 go_enter Tryz.func213, Tryz.ntmps213
 go_upto_region 1 with fail
 refine wp_worldx (fun wx => Bxs w wx [(w.heap.size, 283, [.bool false, .int .i64 si, .int .u64 tu]), (w.heap.size + 1, 136, [.int .i64 hi, .int .i64 lo, .int .i64 dw])]) (((Bxs.nil_ w).alloc_ _ _ (by simp)).alloc_ _ _ (by simp)) ?_
 rintro x1 bx
 have BX := Lib.hid bx
 clear bx
 obtain ⟨p0_0, p0_1, p0_2, z0, y0⟩ := bl3 (BX.out.bl 0 _ _ _ rfl)
 obtain ⟨p1_0, p1_1, p1_2, z1, y1⟩ := bl3 (BX.out.bl 1 _ _ _ rfl)
 go_wp2_with fail
 refine bodyPost_ret (v := .int .i64 hi) (by simp [results, Tryz.results213, go_sem, *]) rfl ⟨rfl, ?_⟩
 exact (BX.out).be
theorem mbound_any (li : Bool) (si tu hi lo dw : Int) (w : World) :
   Calls Tryz.prog 213 #[.agg #[.bool li, .int .i64 si, .int .u64 tu], .agg #[.int .i64 hi, .int .i64 lo, .int .i64 dw]] w fun e w' => e = .returned (.int .i64 (boundM li hi lo)) ∧ Below w.heap.size w w' := by
 cases li
 · exact mbound_f si tu hi lo dw w
 · exact mbound_t si tu hi lo dw w
set_option maxHeartbeats 1000000 in
theorem mback_any (li : Bool) (si tu : Int) (w : World) :
   Calls Tryz.prog 182 #[.agg #[.bool li, .int .i64 si, .int .u64 tu]] w fun e w' => e = .returned (.bool li) ∧ Below w.heap.size w w' := by
 go_enter Tryz.func182, Tryz.ntmps182
 go_upto_region 1 with fail
 refine wp_worldx (fun wx => Bxs w wx [(w.heap.size, 283, [.bool li, .int .i64 si, .int .u64 tu])]) ((Bxs.nil_ w).alloc_ _ _ (by simp)) ?_
 rintro x1 bx
 have BX := Lib.hid bx
 clear bx
 obtain ⟨p0_0, p0_1, p0_2, z0, y0⟩ := bl3 (BX.out.bl 0 _ _ _ rfl)
 go_wp2_with fail
 refine bodyPost_ret (v := .bool li) (by simp [results, Tryz.results182, go_sem, *]) rfl ⟨rfl, ?_⟩
 exact (BX.out).be
set_option maxHeartbeats 1000000 in
theorem mmay_r (li : Bool) (si tu hi lo dw now : Int) (r : Bool) (HR : Hid (mayM si tu dw now = r)) (w : World) (now0 : -9223372036854775808 ≤ now) (now1 : now ≤ 9223372036854775807) (si0 : -9223372036854775808 ≤ si) (si1 : si ≤ 9223372036854775807) :
   Calls Tryz.prog 214 #[.agg #[.bool li, .int .i64 si, .int .u64 tu], .agg #[.int .i64 hi, .int .i64 lo, .int .i64 dw], .int .i64 now] w fun e w' => e = .returned (.bool r) ∧ Below w.heap.size w w' := by
 go_enter Tryz.func214, Tryz.ntmps214
 go_upto_region 1 with fail
 refine wp_worldx (fun wx => Bxs w wx [(w.heap.size, 283, [.bool li, .int .i64 si, .int .u64 tu]), (w.heap.size + 1, 136, [.int .i64 hi, .int .i64 lo, .int .i64 dw])]) (((Bxs.nil_ w).alloc_ _ _ (by simp)).alloc_ _ _ (by simp)) ?_
 rintro x1 bx
 have BX := Lib.hid bx
 clear bx
 obtain ⟨p0_0, p0_1, p0_2, z0, y0⟩ := bl3 (BX.out.bl 0 _ _ _ rfl)
 obtain ⟨p1_0, p1_1, p1_2, z1, y1⟩ := bl3 (BX.out.bl 1 _ _ _ rfl)
 by_cases h1 : tu = 0
 · obtain rfl : r = true := by rw [← HR.out]; unfold mayM; simp [h1]
   have e2 : decide (tu = 0) = true := by simp [h1]
   go_wp2_with fail
   go_quiet (fail)
   go_wp2_with fail
   go_ret
   exact ⟨rfl, (BX.out.drewN_ _).be⟩
 · obtain rfl : r = decide (dw ≤ sat (now - si)) := by rw [← HR.out]; unfold mayM; simp [h1]
   have e2 : decide (tu = 0) = false := by simp [h1]
   go_wp2_with fail
   go_quiet ((go_at_call 163; refine Calls.quiet_of_same ((fsub_any _ _ _ now0 now1 si0 si1).mono fun e w' h => ⟨h.1, h.2.symm⟩)))
   go_wp2_with fail
   refine bodyPost_ret (v := .bool (decide (dw ≤ sat (now - si)))) (by simp [results, Tryz.results214, go_sem, e2, h1]) rfl ⟨rfl, (BX.out.drewN_ _).be⟩
theorem mmay_any (li : Bool) (si tu hi lo dw now : Int) (w : World) (now0 : -9223372036854775808 ≤ now) (now1 : now ≤ 9223372036854775807) (si0 : -9223372036854775808 ≤ si) (si1 : si ≤ 9223372036854775807) :
   Calls Tryz.prog 214 #[.agg #[.bool li, .int .i64 si, .int .u64 tu], .agg #[.int .i64 hi, .int .i64 lo, .int .i64 dw], .int .i64 now] w fun e w' => e = .returned (.bool (mayM si tu dw now)) ∧ Below w.heap.size w w' := mmay_r li si tu hi lo dw now _ (Lib.hid rfl) w now0 now1 si0 si1
set_option maxHeartbeats 1000000 in
theorem mturn_pst (si tu hi lo dw now old bk : Int) (w : World) (hb : 0 < bk) (hw : boundM true hi lo ≤ old) (now0 : -9223372036854775808 ≤ now) (now1 : now ≤ 9223372036854775807) (si0 : -9223372036854775808 ≤ si) (si1 : si ≤ 9223372036854775807) :
   Calls Tryz.prog 176 #[.agg #[.bool true, .int .i64 si, .int .u64 tu], .agg #[.int .i64 hi, .int .i64 lo, .int .i64 dw], .int .i64 now, .int .i64 old, .int .i64 bk] w fun e w' => e = .returned (.agg #[.bool true, .int .i64 si, .int .u64 tu]) ∧ Below w.heap.size w w' := by
 go_enter Tryz.func176, Tryz.ntmps176
 go_upto_region 1 with fail
 refine wp_worldx (fun wx => Bxs w wx [(w.heap.size, 283, [.bool true, .int .i64 si, .int .u64 tu]), (w.heap.size + 1, 136, [.int .i64 hi, .int .i64 lo, .int .i64 dw]), (w.heap.size + 1 + 1, 283, [.bool false, .int .i64 0, .int .u64 0])]) ((((Bxs.nil_ w).alloc_ _ _ (by simp)).alloc_ _ _ (by simp)).alloc_ _ _ (by simp)) ?_
 rintro x1 bx
 have BX := Lib.hid bx
 clear bx
 obtain ⟨p0_0, p0_1, p0_2, z0, y0⟩ := bl3 (BX.out.bl 0 _ _ _ rfl)
 obtain ⟨p1_0, p1_1, p1_2, z1, y1⟩ := bl3 (BX.out.bl 1 _ _ _ rfl)
 obtain ⟨p2_0, p2_1, p2_2, z2, y2⟩ := bl3 (BX.out.bl 2 _ _ _ rfl)
 go_wp2_with fail
 refine (mbound_any _ _ _ _ _ _ _).mono ?_
 rintro e x2 ⟨rfl, hb⟩
 have bx : Bxs w x2 [(w.heap.size, 283, [.bool true, .int .i64 si, .int .u64 tu]), (w.heap.size + 1, 136, [.int .i64 hi, .int .i64 lo, .int .i64 dw]), (w.heap.size + 1 + 1, 283, [.bool false, .int .i64 0, .int .u64 0])] := (BX.out).below hb
 clear p0_0 p0_1 p0_2 z0 y0 p1_0 p1_1 p1_2 z1 y1 p2_0 p2_1 p2_2 z2 y2
 clear hb BX
 have BX := Lib.hid bx
 clear bx
 obtain ⟨p0_0, p0_1, p0_2, z0, y0⟩ := bl3 (BX.out.bl 0 _ _ _ rfl)
 obtain ⟨p1_0, p1_1, p1_2, z1, y1⟩ := bl3 (BX.out.bl 1 _ _ _ rfl)
 obtain ⟨p2_0, p2_1, p2_2, z2, y2⟩ := bl3 (BX.out.bl 2 _ _ _ rfl)
 go_wp2_with fail
 refine bodyPost_ret (v := .agg #[.bool true, .int .i64 si, .int .u64 tu]) (by simp [results, Tryz.results176, go_sem, *]) rfl ⟨rfl, ?_⟩
 exact ((((BX.out).set_ 2 0 rfl _).set_ 2 1 rfl _).set_ 2 2 rfl _).be
set_option maxHeartbeats 1000000 in
theorem mturn_psf (si tu hi lo dw now old bk : Int) (w : World) (hb : 0 < bk) (hw : ¬ boundM false hi lo ≤ old) (now0 : -9223372036854775808 ≤ now) (now1 : now ≤ 9223372036854775807) (si0 : -9223372036854775808 ≤ si) (si1 : si ≤ 9223372036854775807) :
   Calls Tryz.prog 176 #[.agg #[.bool false, .int .i64 si, .int .u64 tu], .agg #[.int .i64 hi, .int .i64 lo, .int .i64 dw], .int .i64 now, .int .i64 old, .int .i64 bk] w fun e w' => e = .returned (.agg #[.bool false, .int .i64 si, .int .u64 tu]) ∧ Below w.heap.size w w' := by
 go_enter Tryz.func176, Tryz.ntmps176
 go_upto_region 1 with fail
 refine wp_worldx (fun wx => Bxs w wx [(w.heap.size, 283, [.bool false, .int .i64 si, .int .u64 tu]), (w.heap.size + 1, 136, [.int .i64 hi, .int .i64 lo, .int .i64 dw]), (w.heap.size + 1 + 1, 283, [.bool false, .int .i64 0, .int .u64 0])]) ((((Bxs.nil_ w).alloc_ _ _ (by simp)).alloc_ _ _ (by simp)).alloc_ _ _ (by simp)) ?_
 rintro x1 bx
 have BX := Lib.hid bx
 clear bx
 obtain ⟨p0_0, p0_1, p0_2, z0, y0⟩ := bl3 (BX.out.bl 0 _ _ _ rfl)
 obtain ⟨p1_0, p1_1, p1_2, z1, y1⟩ := bl3 (BX.out.bl 1 _ _ _ rfl)
 obtain ⟨p2_0, p2_1, p2_2, z2, y2⟩ := bl3 (BX.out.bl 2 _ _ _ rfl)
 go_wp2_with fail
 refine (mbound_any _ _ _ _ _ _ _).mono ?_
 rintro e x2 ⟨rfl, hb⟩
 have bx : Bxs w x2 [(w.heap.size, 283, [.bool false, .int .i64 si, .int .u64 tu]), (w.heap.size + 1, 136, [.int .i64 hi, .int .i64 lo, .int .i64 dw]), (w.heap.size + 1 + 1, 283, [.bool false, .int .i64 0, .int .u64 0])] := (BX.out).below hb
 clear p0_0 p0_1 p0_2 z0 y0 p1_0 p1_1 p1_2 z1 y1 p2_0 p2_1 p2_2 z2 y2
 clear hb BX
 have BX := Lib.hid bx
 clear bx
 obtain ⟨p0_0, p0_1, p0_2, z0, y0⟩ := bl3 (BX.out.bl 0 _ _ _ rfl)
 obtain ⟨p1_0, p1_1, p1_2, z1, y1⟩ := bl3 (BX.out.bl 1 _ _ _ rfl)
 obtain ⟨p2_0, p2_1, p2_2, z2, y2⟩ := bl3 (BX.out.bl 2 _ _ _ rfl)
 go_wp2_with fail
 refine bodyPost_ret (v := .agg #[.bool false, .int .i64 si, .int .u64 tu]) (by simp [results, Tryz.results176, go_sem, *]) rfl ⟨rfl, ?_⟩
 exact ((((BX.out).set_ 2 0 rfl _).set_ 2 1 rfl _).set_ 2 2 rfl _).be
set_option maxHeartbeats 1000000 in
theorem mturn_pot (si tu hi lo dw now old bk : Int) (w : World) (hb : 0 < bk) (hw : ¬ boundM true hi lo ≤ old) (hm : mayM si tu dw now = false) (now0 : -9223372036854775808 ≤ now) (now1 : now ≤ 9223372036854775807) (si0 : -9223372036854775808 ≤ si) (si1 : si ≤ 9223372036854775807) :
   Calls Tryz.prog 176 #[.agg #[.bool true, .int .i64 si, .int .u64 tu], .agg #[.int .i64 hi, .int .i64 lo, .int .i64 dw], .int .i64 now, .int .i64 old, .int .i64 bk] w fun e w' => e = .returned (.agg #[.bool true, .int .i64 si, .int .u64 tu]) ∧ Below w.heap.size w w' := by
 go_enter Tryz.func176, Tryz.ntmps176
 go_upto_region 1 with fail
 refine wp_worldx (fun wx => Bxs w wx [(w.heap.size, 283, [.bool true, .int .i64 si, .int .u64 tu]), (w.heap.size + 1, 136, [.int .i64 hi, .int .i64 lo, .int .i64 dw]), (w.heap.size + 1 + 1, 283, [.bool false, .int .i64 0, .int .u64 0])]) ((((Bxs.nil_ w).alloc_ _ _ (by simp)).alloc_ _ _ (by simp)).alloc_ _ _ (by simp)) ?_
 rintro x1 bx
 have BX := Lib.hid bx
 clear bx
 obtain ⟨p0_0, p0_1, p0_2, z0, y0⟩ := bl3 (BX.out.bl 0 _ _ _ rfl)
 obtain ⟨p1_0, p1_1, p1_2, z1, y1⟩ := bl3 (BX.out.bl 1 _ _ _ rfl)
 obtain ⟨p2_0, p2_1, p2_2, z2, y2⟩ := bl3 (BX.out.bl 2 _ _ _ rfl)
 go_wp2_with fail
 refine (mbound_any _ _ _ _ _ _ _).mono ?_
 rintro e x2 ⟨rfl, hb⟩
 have bx : Bxs w x2 [(w.heap.size, 283, [.bool true, .int .i64 si, .int .u64 tu]), (w.heap.size + 1, 136, [.int .i64 hi, .int .i64 lo, .int .i64 dw]), (w.heap.size + 1 + 1, 283, [.bool false, .int .i64 0, .int .u64 0])] := (BX.out).below hb
 clear p0_0 p0_1 p0_2 z0 y0 p1_0 p1_1 p1_2 z1 y1 p2_0 p2_1 p2_2 z2 y2
 clear hb BX
 have BX := Lib.hid bx
 clear bx
 obtain ⟨p0_0, p0_1, p0_2, z0, y0⟩ := bl3 (BX.out.bl 0 _ _ _ rfl)
 obtain ⟨p1_0, p1_1, p1_2, z1, y1⟩ := bl3 (BX.out.bl 1 _ _ _ rfl)
 obtain ⟨p2_0, p2_1, p2_2, z2, y2⟩ := bl3 (BX.out.bl 2 _ _ _ rfl)
 go_wp2_with fail
 refine (mmay_any _ _ _ _ _ _ _ _ now0 now1 si0 si1).mono ?_
 rw [hm]
 rintro e x3 ⟨rfl, hb⟩
 have bx : Bxs w x3 [(w.heap.size, 283, [.bool true, .int .i64 si, .int .u64 tu]), (w.heap.size + 1, 136, [.int .i64 hi, .int .i64 lo, .int .i64 dw]), (w.heap.size + 1 + 1, 283, [.bool false, .int .i64 0, .int .u64 0])] := (BX.out).below hb
 clear p0_0 p0_1 p0_2 z0 y0 p1_0 p1_1 p1_2 z1 y1 p2_0 p2_1 p2_2 z2 y2
 clear hb BX
 have BX := Lib.hid bx
 clear bx
 obtain ⟨p0_0, p0_1, p0_2, z0, y0⟩ := bl3 (BX.out.bl 0 _ _ _ rfl)
 obtain ⟨p1_0, p1_1, p1_2, z1, y1⟩ := bl3 (BX.out.bl 1 _ _ _ rfl)
 obtain ⟨p2_0, p2_1, p2_2, z2, y2⟩ := bl3 (BX.out.bl 2 _ _ _ rfl)
 go_wp2_with fail
 refine bodyPost_ret (v := .agg #[.bool true, .int .i64 si, .int .u64 tu]) (by simp [results, Tryz.results176, go_sem, *]) rfl ⟨rfl, ?_⟩
 exact ((((BX.out).set_ 2 0 rfl _).set_ 2 1 rfl _).set_ 2 2 rfl _).be
set_option maxHeartbeats 1000000 in
theorem mturn_pof (si tu hi lo dw now old bk : Int) (w : World) (hb : 0 < bk) (hw : boundM false hi lo ≤ old) (hm : mayM si tu dw now = false) (now0 : -9223372036854775808 ≤ now) (now1 : now ≤ 9223372036854775807) (si0 : -9223372036854775808 ≤ si) (si1 : si ≤ 9223372036854775807) :
   Calls Tryz.prog 176 #[.agg #[.bool false, .int .i64 si, .int .u64 tu], .agg #[.int .i64 hi, .int .i64 lo, .int .i64 dw], .int .i64 now, .int .i64 old, .int .i64 bk] w fun e w' => e = .returned (.agg #[.bool false, .int .i64 si, .int .u64 tu]) ∧ Below w.heap.size w w' := by
 go_enter Tryz.func176, Tryz.ntmps176
 go_upto_region 1 with fail
 refine wp_worldx (fun wx => Bxs w wx [(w.heap.size, 283, [.bool false, .int .i64 si, .int .u64 tu]), (w.heap.size + 1, 136, [.int .i64 hi, .int .i64 lo, .int .i64 dw]), (w.heap.size + 1 + 1, 283, [.bool false, .int .i64 0, .int .u64 0])]) ((((Bxs.nil_ w).alloc_ _ _ (by simp)).alloc_ _ _ (by simp)).alloc_ _ _ (by simp)) ?_
 rintro x1 bx
 have BX := Lib.hid bx
 clear bx
 obtain ⟨p0_0, p0_1, p0_2, z0, y0⟩ := bl3 (BX.out.bl 0 _ _ _ rfl)
 obtain ⟨p1_0, p1_1, p1_2, z1, y1⟩ := bl3 (BX.out.bl 1 _ _ _ rfl)
 obtain ⟨p2_0, p2_1, p2_2, z2, y2⟩ := bl3 (BX.out.bl 2 _ _ _ rfl)
 go_wp2_with fail
 refine (mbound_any _ _ _ _ _ _ _).mono ?_
 rintro e x2 ⟨rfl, hb⟩
 have bx : Bxs w x2 [(w.heap.size, 283, [.bool false, .int .i64 si, .int .u64 tu]), (w.heap.size + 1, 136, [.int .i64 hi, .int .i64 lo, .int .i64 dw]), (w.heap.size + 1 + 1, 283, [.bool false, .int .i64 0, .int .u64 0])] := (BX.out).below hb
 clear p0_0 p0_1 p0_2 z0 y0 p1_0 p1_1 p1_2 z1 y1 p2_0 p2_1 p2_2 z2 y2
 clear hb BX
 have BX := Lib.hid bx
 clear bx
 obtain ⟨p0_0, p0_1, p0_2, z0, y0⟩ := bl3 (BX.out.bl 0 _ _ _ rfl)
 obtain ⟨p1_0, p1_1, p1_2, z1, y1⟩ := bl3 (BX.out.bl 1 _ _ _ rfl)
 obtain ⟨p2_0, p2_1, p2_2, z2, y2⟩ := bl3 (BX.out.bl 2 _ _ _ rfl)
 go_wp2_with fail
 refine (mmay_any _ _ _ _ _ _ _ _ now0 now1 si0 si1).mono ?_
 rw [hm]
 rintro e x3 ⟨rfl, hb⟩
 have bx : Bxs w x3 [(w.heap.size, 283, [.bool false, .int .i64 si, .int .u64 tu]), (w.heap.size + 1, 136, [.int .i64 hi, .int .i64 lo, .int .i64 dw]), (w.heap.size + 1 + 1, 283, [.bool false, .int .i64 0, .int .u64 0])] := (BX.out).below hb
 clear p0_0 p0_1 p0_2 z0 y0 p1_0 p1_1 p1_2 z1 y1 p2_0 p2_1 p2_2 z2 y2
 clear hb BX
 have BX := Lib.hid bx
 clear bx
 obtain ⟨p0_0, p0_1, p0_2, z0, y0⟩ := bl3 (BX.out.bl 0 _ _ _ rfl)
 obtain ⟨p1_0, p1_1, p1_2, z1, y1⟩ := bl3 (BX.out.bl 1 _ _ _ rfl)
 obtain ⟨p2_0, p2_1, p2_2, z2, y2⟩ := bl3 (BX.out.bl 2 _ _ _ rfl)
 go_wp2_with fail
 refine bodyPost_ret (v := .agg #[.bool false, .int .i64 si, .int .u64 tu]) (by simp [results, Tryz.results176, go_sem, *]) rfl ⟨rfl, ?_⟩
 exact ((((BX.out).set_ 2 0 rfl _).set_ 2 1 rfl _).set_ 2 2 rfl _).be
set_option maxHeartbeats 1000000 in
theorem mturn_ptt (si tu hi lo dw now old bk : Int) (w : World) (hb : 0 < bk) (hw : ¬ boundM true hi lo ≤ old) (hm : mayM si tu dw now = true) (tp : Int) (hT : IntKind.u64.wrap (tu + 1) = tp) (now0 : -9223372036854775808 ≤ now) (now1 : now ≤ 9223372036854775807) (si0 : -9223372036854775808 ≤ si) (si1 : si ≤ 9223372036854775807) :
   Calls Tryz.prog 176 #[.agg #[.bool true, .int .i64 si, .int .u64 tu], .agg #[.int .i64 hi, .int .i64 lo, .int .i64 dw], .int .i64 now, .int .i64 old, .int .i64 bk] w fun e w' => e = .returned (.agg #[.bool false, .int .i64 now, .int .u64 tp]) ∧ Below w.heap.size w w' := by
 go_enter Tryz.func176, Tryz.ntmps176
 go_upto_region 1 with fail
 refine wp_worldx (fun wx => Bxs w wx [(w.heap.size, 283, [.bool true, .int .i64 si, .int .u64 tu]), (w.heap.size + 1, 136, [.int .i64 hi, .int .i64 lo, .int .i64 dw]), (w.heap.size + 1 + 1, 283, [.bool false, .int .i64 0, .int .u64 0])]) ((((Bxs.nil_ w).alloc_ _ _ (by simp)).alloc_ _ _ (by simp)).alloc_ _ _ (by simp)) ?_
 rintro x1 bx
 have BX := Lib.hid bx
 clear bx
 obtain ⟨p0_0, p0_1, p0_2, z0, y0⟩ := bl3 (BX.out.bl 0 _ _ _ rfl)
 obtain ⟨p1_0, p1_1, p1_2, z1, y1⟩ := bl3 (BX.out.bl 1 _ _ _ rfl)
 obtain ⟨p2_0, p2_1, p2_2, z2, y2⟩ := bl3 (BX.out.bl 2 _ _ _ rfl)
 go_wp2_with fail
 refine (mbound_any _ _ _ _ _ _ _).mono ?_
 rintro e x2 ⟨rfl, hb⟩
 have bx : Bxs w x2 [(w.heap.size, 283, [.bool true, .int .i64 si, .int .u64 tu]), (w.heap.size + 1, 136, [.int .i64 hi, .int .i64 lo, .int .i64 dw]), (w.heap.size + 1 + 1, 283, [.bool false, .int .i64 0, .int .u64 0])] := (BX.out).below hb
 clear p0_0 p0_1 p0_2 z0 y0 p1_0 p1_1 p1_2 z1 y1 p2_0 p2_1 p2_2 z2 y2
 clear hb BX
 have BX := Lib.hid bx
 clear bx
 obtain ⟨p0_0, p0_1, p0_2, z0, y0⟩ := bl3 (BX.out.bl 0 _ _ _ rfl)
 obtain ⟨p1_0, p1_1, p1_2, z1, y1⟩ := bl3 (BX.out.bl 1 _ _ _ rfl)
 obtain ⟨p2_0, p2_1, p2_2, z2, y2⟩ := bl3 (BX.out.bl 2 _ _ _ rfl)
 go_wp2_with fail
 refine (mmay_any _ _ _ _ _ _ _ _ now0 now1 si0 si1).mono ?_
 rw [hm]
 rintro e x3 ⟨rfl, hb⟩
 have bx : Bxs w x3 [(w.heap.size, 283, [.bool true, .int .i64 si, .int .u64 tu]), (w.heap.size + 1, 136, [.int .i64 hi, .int .i64 lo, .int .i64 dw]), (w.heap.size + 1 + 1, 283, [.bool false, .int .i64 0, .int .u64 0])] := (BX.out).below hb
 clear p0_0 p0_1 p0_2 z0 y0 p1_0 p1_1 p1_2 z1 y1 p2_0 p2_1 p2_2 z2 y2
 clear hb BX
 have BX := Lib.hid bx
 clear bx
 obtain ⟨p0_0, p0_1, p0_2, z0, y0⟩ := bl3 (BX.out.bl 0 _ _ _ rfl)
 obtain ⟨p1_0, p1_1, p1_2, z1, y1⟩ := bl3 (BX.out.bl 1 _ _ _ rfl)
 obtain ⟨p2_0, p2_1, p2_2, z2, y2⟩ := bl3 (BX.out.bl 2 _ _ _ rfl)
 go_wp2_with fail
 refine bodyPost_ret (v := .agg #[.bool false, .int .i64 now, .int .u64 tp]) (by simp [results, Tryz.results176, go_sem, *]) rfl ⟨rfl, ?_⟩
 exact ((((BX.out).set_ 2 0 rfl _).set_ 2 1 rfl _).set_ 2 2 rfl _).be
set_option maxHeartbeats 1000000 in
theorem mturn_ptf (si tu hi lo dw now old bk : Int) (w : World) (hb : 0 < bk) (hw : boundM false hi lo ≤ old) (hm : mayM si tu dw now = true) (tp : Int) (hT : IntKind.u64.wrap (tu + 1) = tp) (now0 : -9223372036854775808 ≤ now) (now1 : now ≤ 9223372036854775807) (si0 : -9223372036854775808 ≤ si) (si1 : si ≤ 9223372036854775807) :
   Calls Tryz.prog 176 #[.agg #[.bool false, .int .i64 si, .int .u64 tu], .agg #[.int .i64 hi, .int .i64 lo, .int .i64 dw], .int .i64 now, .int .i64 old, .int .i64 bk] w fun e w' => e = .returned (.agg #[.bool true, .int .i64 now, .int .u64 tp]) ∧ Below w.heap.size w w' := by
 go_enter Tryz.func176, Tryz.ntmps176
 go_upto_region 1 with fail
 refine wp_worldx (fun wx => Bxs w wx [(w.heap.size, 283, [.bool false, .int .i64 si, .int .u64 tu]), (w.heap.size + 1, 136, [.int .i64 hi, .int .i64 lo, .int .i64 dw]), (w.heap.size + 1 + 1, 283, [.bool false, .int .i64 0, .int .u64 0])]) ((((Bxs.nil_ w).alloc_ _ _ (by simp)).alloc_ _ _ (by simp)).alloc_ _ _ (by simp)) ?_
 rintro x1 bx
 have BX := Lib.hid bx
 clear bx
 obtain ⟨p0_0, p0_1, p0_2, z0, y0⟩ := bl3 (BX.out.bl 0 _ _ _ rfl)
 obtain ⟨p1_0, p1_1, p1_2, z1, y1⟩ := bl3 (BX.out.bl 1 _ _ _ rfl)
 obtain ⟨p2_0, p2_1, p2_2, z2, y2⟩ := bl3 (BX.out.bl 2 _ _ _ rfl)
 go_wp2_with fail
 refine (mbound_any _ _ _ _ _ _ _).mono ?_
 rintro e x2 ⟨rfl, hb⟩
 have bx : Bxs w x2 [(w.heap.size, 283, [.bool false, .int .i64 si, .int .u64 tu]), (w.heap.size + 1, 136, [.int .i64 hi, .int .i64 lo, .int .i64 dw]), (w.heap.size + 1 + 1, 283, [.bool false, .int .i64 0, .int .u64 0])] := (BX.out).below hb
 clear p0_0 p0_1 p0_2 z0 y0 p1_0 p1_1 p1_2 z1 y1 p2_0 p2_1 p2_2 z2 y2
 clear hb BX
 have BX := Lib.hid bx
 clear bx
 obtain ⟨p0_0, p0_1, p0_2, z0, y0⟩ := bl3 (BX.out.bl 0 _ _ _ rfl)
 obtain ⟨p1_0, p1_1, p1_2, z1, y1⟩ := bl3 (BX.out.bl 1 _ _ _ rfl)
 obtain ⟨p2_0, p2_1, p2_2, z2, y2⟩ := bl3 (BX.out.bl 2 _ _ _ rfl)
 go_wp2_with fail
 refine (mmay_any _ _ _ _ _ _ _ _ now0 now1 si0 si1).mono ?_
 rw [hm]
 rintro e x3 ⟨rfl, hb⟩
 have bx : Bxs w x3 [(w.heap.size, 283, [.bool false, .int .i64 si, .int .u64 tu]), (w.heap.size + 1, 136, [.int .i64 hi, .int .i64 lo, .int .i64 dw]), (w.heap.size + 1 + 1, 283, [.bool false, .int .i64 0, .int .u64 0])] := (BX.out).below hb
 clear p0_0 p0_1 p0_2 z0 y0 p1_0 p1_1 p1_2 z1 y1 p2_0 p2_1 p2_2 z2 y2
 clear hb BX
 have BX := Lib.hid bx
 clear bx
 obtain ⟨p0_0, p0_1, p0_2, z0, y0⟩ := bl3 (BX.out.bl 0 _ _ _ rfl)
 obtain ⟨p1_0, p1_1, p1_2, z1, y1⟩ := bl3 (BX.out.bl 1 _ _ _ rfl)
 obtain ⟨p2_0, p2_1, p2_2, z2, y2⟩ := bl3 (BX.out.bl 2 _ _ _ rfl)
 go_wp2_with fail
 refine bodyPost_ret (v := .agg #[.bool true, .int .i64 now, .int .u64 tp]) (by simp [results, Tryz.results176, go_sem, *]) rfl ⟨rfl, ?_⟩
 exact ((((BX.out).set_ 2 0 rfl _).set_ 2 1 rfl _).set_ 2 2 rfl _).be
set_option maxHeartbeats 1000000 in
theorem mturn_nsf (si tu hi lo dw now old bk : Int) (w : World) (hb : ¬ 0 < bk) (now0 : -9223372036854775808 ≤ now) (now1 : now ≤ 9223372036854775807) (si0 : -9223372036854775808 ≤ si) (si1 : si ≤ 9223372036854775807) :
   Calls Tryz.prog 176 #[.agg #[.bool false, .int .i64 si, .int .u64 tu], .agg #[.int .i64 hi, .int .i64 lo, .int .i64 dw], .int .i64 now, .int .i64 old, .int .i64 bk] w fun e w' => e = .returned (.agg #[.bool false, .int .i64 si, .int .u64 tu]) ∧ Below w.heap.size w w' := by
 go_enter Tryz.func176, Tryz.ntmps176
 go_upto_region 1 with fail
 refine wp_worldx (fun wx => Bxs w wx [(w.heap.size, 283, [.bool false, .int .i64 si, .int .u64 tu]), (w.heap.size + 1, 136, [.int .i64 hi, .int .i64 lo, .int .i64 dw]), (w.heap.size + 1 + 1, 283, [.bool false, .int .i64 0, .int .u64 0])]) ((((Bxs.nil_ w).alloc_ _ _ (by simp)).alloc_ _ _ (by simp)).alloc_ _ _ (by simp)) ?_
 rintro x1 bx
 have BX := Lib.hid bx
 clear bx
 obtain ⟨p0_0, p0_1, p0_2, z0, y0⟩ := bl3 (BX.out.bl 0 _ _ _ rfl)
 obtain ⟨p1_0, p1_1, p1_2, z1, y1⟩ := bl3 (BX.out.bl 1 _ _ _ rfl)
 obtain ⟨p2_0, p2_1, p2_2, z2, y2⟩ := bl3 (BX.out.bl 2 _ _ _ rfl)
 go_wp2_with fail
 refine bodyPost_ret (v := .agg #[.bool false, .int .i64 si, .int .u64 tu]) (by simp [results, Tryz.results176, go_sem, *]) rfl ⟨rfl, ?_⟩
 exact ((((BX.out).set_ 2 0 rfl _).set_ 2 1 rfl _).set_ 2 2 rfl _).be
set_option maxHeartbeats 1000000 in
theorem mturn_not (si tu hi lo dw now old bk : Int) (w : World) (hb : ¬ 0 < bk) (hm : mayM si tu dw now = false) (now0 : -9223372036854775808 ≤ now) (now1 : now ≤ 9223372036854775807) (si0 : -9223372036854775808 ≤ si) (si1 : si ≤ 9223372036854775807) :
   Calls Tryz.prog 176 #[.agg #[.bool true, .int .i64 si, .int .u64 tu], .agg #[.int .i64 hi, .int .i64 lo, .int .i64 dw], .int .i64 now, .int .i64 old, .int .i64 bk] w fun e w' => e = .returned (.agg #[.bool true, .int .i64 si, .int .u64 tu]) ∧ Below w.heap.size w w' := by
 go_enter Tryz.func176, Tryz.ntmps176
 go_upto_region 1 with fail
 refine wp_worldx (fun wx => Bxs w wx [(w.heap.size, 283, [.bool true, .int .i64 si, .int .u64 tu]), (w.heap.size + 1, 136, [.int .i64 hi, .int .i64 lo, .int .i64 dw]), (w.heap.size + 1 + 1, 283, [.bool false, .int .i64 0, .int .u64 0])]) ((((Bxs.nil_ w).alloc_ _ _ (by simp)).alloc_ _ _ (by simp)).alloc_ _ _ (by simp)) ?_
 rintro x1 bx
 have BX := Lib.hid bx
 clear bx
 obtain ⟨p0_0, p0_1, p0_2, z0, y0⟩ := bl3 (BX.out.bl 0 _ _ _ rfl)
 obtain ⟨p1_0, p1_1, p1_2, z1, y1⟩ := bl3 (BX.out.bl 1 _ _ _ rfl)
 obtain ⟨p2_0, p2_1, p2_2, z2, y2⟩ := bl3 (BX.out.bl 2 _ _ _ rfl)
 go_wp2_with fail
 refine (mmay_any _ _ _ _ _ _ _ _ now0 now1 si0 si1).mono ?_
 rw [hm]
 rintro e x2 ⟨rfl, hb⟩
 have bx : Bxs w x2 [(w.heap.size, 283, [.bool true, .int .i64 si, .int .u64 tu]), (w.heap.size + 1, 136, [.int .i64 hi, .int .i64 lo, .int .i64 dw]), (w.heap.size + 1 + 1, 283, [.bool false, .int .i64 0, .int .u64 0])] := (BX.out).below hb
 clear p0_0 p0_1 p0_2 z0 y0 p1_0 p1_1 p1_2 z1 y1 p2_0 p2_1 p2_2 z2 y2
 clear hb BX
 have BX := Lib.hid bx
 clear bx
 obtain ⟨p0_0, p0_1, p0_2, z0, y0⟩ := bl3 (BX.out.bl 0 _ _ _ rfl)
 obtain ⟨p1_0, p1_1, p1_2, z1, y1⟩ := bl3 (BX.out.bl 1 _ _ _ rfl)
 obtain ⟨p2_0, p2_1, p2_2, z2, y2⟩ := bl3 (BX.out.bl 2 _ _ _ rfl)
 go_wp2_with fail
 refine bodyPost_ret (v := .agg #[.bool true, .int .i64 si, .int .u64 tu]) (by simp [results, Tryz.results176, go_sem, *]) rfl ⟨rfl, ?_⟩
 exact ((((BX.out).set_ 2 0 rfl _).set_ 2 1 rfl _).set_ 2 2 rfl _).be
set_option maxHeartbeats 1000000 in
theorem mturn_ntt (si tu hi lo dw now old bk : Int) (w : World) (hb : ¬ 0 < bk) (hm : mayM si tu dw now = true) (tp : Int) (hT : IntKind.u64.wrap (tu + 1) = tp) (now0 : -9223372036854775808 ≤ now) (now1 : now ≤ 9223372036854775807) (si0 : -9223372036854775808 ≤ si) (si1 : si ≤ 9223372036854775807) :
   Calls Tryz.prog 176 #[.agg #[.bool true, .int .i64 si, .int .u64 tu], .agg #[.int .i64 hi, .int .i64 lo, .int .i64 dw], .int .i64 now, .int .i64 old, .int .i64 bk] w fun e w' => e = .returned (.agg #[.bool false, .int .i64 now, .int .u64 tp]) ∧ Below w.heap.size w w' := by
 go_enter Tryz.func176, Tryz.ntmps176
 go_upto_region 1 with fail
 refine wp_worldx (fun wx => Bxs w wx [(w.heap.size, 283, [.bool true, .int .i64 si, .int .u64 tu]), (w.heap.size + 1, 136, [.int .i64 hi, .int .i64 lo, .int .i64 dw]), (w.heap.size + 1 + 1, 283, [.bool false, .int .i64 0, .int .u64 0])]) ((((Bxs.nil_ w).alloc_ _ _ (by simp)).alloc_ _ _ (by simp)).alloc_ _ _ (by simp)) ?_
 rintro x1 bx
 have BX := Lib.hid bx
 clear bx
 obtain ⟨p0_0, p0_1, p0_2, z0, y0⟩ := bl3 (BX.out.bl 0 _ _ _ rfl)
 obtain ⟨p1_0, p1_1, p1_2, z1, y1⟩ := bl3 (BX.out.bl 1 _ _ _ rfl)
 obtain ⟨p2_0, p2_1, p2_2, z2, y2⟩ := bl3 (BX.out.bl 2 _ _ _ rfl)
 go_wp2_with fail
 refine (mmay_any _ _ _ _ _ _ _ _ now0 now1 si0 si1).mono ?_
 rw [hm]
 rintro e x2 ⟨rfl, hb⟩
 have bx : Bxs w x2 [(w.heap.size, 283, [.bool true, .int .i64 si, .int .u64 tu]), (w.heap.size + 1, 136, [.int .i64 hi, .int .i64 lo, .int .i64 dw]), (w.heap.size + 1 + 1, 283, [.bool false, .int .i64 0, .int .u64 0])] := (BX.out).below hb
 clear p0_0 p0_1 p0_2 z0 y0 p1_0 p1_1 p1_2 z1 y1 p2_0 p2_1 p2_2 z2 y2
 clear hb BX
 have BX := Lib.hid bx
 clear bx
 obtain ⟨p0_0, p0_1, p0_2, z0, y0⟩ := bl3 (BX.out.bl 0 _ _ _ rfl)
 obtain ⟨p1_0, p1_1, p1_2, z1, y1⟩ := bl3 (BX.out.bl 1 _ _ _ rfl)
 obtain ⟨p2_0, p2_1, p2_2, z2, y2⟩ := bl3 (BX.out.bl 2 _ _ _ rfl)
 go_wp2_with fail
 refine bodyPost_ret (v := .agg #[.bool false, .int .i64 now, .int .u64 tp]) (by simp [results, Tryz.results176, go_sem, *]) rfl ⟨rfl, ?_⟩
 exact ((((BX.out).set_ 2 0 rfl _).set_ 2 1 rfl _).set_ 2 2 rfl _).be
theorem turnM_same (s : Mst) (hi lo dw now old bk : Int) (h : wantM s.li hi lo old bk = s.li) : turnM s hi lo dw now old bk = s := by unfold turnM; rw [if_pos (Or.inl h)]
theorem turnM_not (s : Mst) (hi lo dw now old bk : Int) (h : mayM s.si s.tu dw now = false) : turnM s hi lo dw now old bk = s := by unfold turnM; rw [if_pos (Or.inr h)]
theorem turnM_turn (s : Mst) (hi lo dw now old bk : Int) (h : wantM s.li hi lo old bk = !s.li) (hm : mayM s.si s.tu dw now = true) : turnM s hi lo dw now old bk = ⟨!s.li, now, (s.tu + 1) % 18446744073709551616⟩ := by
 unfold turnM; rw [if_neg]; rw [h, hm]; cases s.li <;> simp
theorem want_yes {li : Bool} {hi lo old bk : Int} (hb : 0 < bk) (hw : boundM li hi lo ≤ old) : wantM li hi lo old bk = true := by unfold wantM; simp [hb, hw]
theorem want_no {li : Bool} {hi lo old bk : Int} (hw : ¬ boundM li hi lo ≤ old) : wantM li hi lo old bk = false := by unfold wantM; simp [hw]
theorem want_nobody {li : Bool} {hi lo old bk : Int} (hb : ¬ 0 < bk) : wantM li hi lo old bk = false := by unfold wantM; simp [hb]
theorem wrap_tu (tu : Int) : IntKind.u64.wrap (tu + 1) = (tu + 1) % 18446744073709551616 := by simp [IntKind.wrap, IntKind.signed, IntKind.bits]
set_option maxHeartbeats 2000000 in
theorem mturn_any (s : Mst) (hi lo dw now old bk : Int) (w : World) (so : s.ok) (now0 : -9223372036854775808 ≤ now) (now1 : now ≤ 9223372036854775807) :
   Calls Tryz.prog 176 #[s.v, .agg #[.int .i64 hi, .int .i64 lo, .int .i64 dw], .int .i64 now, .int .i64 old, .int .i64 bk] w fun e w' => e = .returned (turnM s hi lo dw now old bk).v ∧ Below w.heap.size w w' := by
 obtain ⟨li, si, tu⟩ := s
 obtain ⟨si0, si1, tu0, tu1⟩ := so
 simp only at si0 si1 tu0 tu1
 cases li
 · by_cases hb : 0 < bk
   · by_cases hw : boundM false hi lo ≤ old
     · cases hm : mayM si tu dw now
       · rw [turnM_not _ _ _ _ _ _ _ hm]
         exact mturn_pof si tu hi lo dw now old bk w hb hw hm now0 now1 si0 si1
       · rw [turnM_turn _ _ _ _ _ _ _ (want_yes hb hw) hm]
         exact mturn_ptf si tu hi lo dw now old bk w hb hw hm _ (wrap_tu tu) now0 now1 si0 si1
     · rw [turnM_same _ _ _ _ _ _ _ (want_no hw)]
       exact mturn_psf si tu hi lo dw now old bk w hb hw now0 now1 si0 si1
   · rw [turnM_same _ _ _ _ _ _ _ (want_nobody hb)]
     exact mturn_nsf si tu hi lo dw now old bk w hb now0 now1 si0 si1
 · by_cases hb : 0 < bk
   · by_cases hw : boundM true hi lo ≤ old
     · rw [turnM_same _ _ _ _ _ _ _ (want_yes hb hw)]
       exact mturn_pst si tu hi lo dw now old bk w hb hw now0 now1 si0 si1
     · cases hm : mayM si tu dw now
       · rw [turnM_not _ _ _ _ _ _ _ hm]
         exact mturn_pot si tu hi lo dw now old bk w hb hw hm now0 now1 si0 si1
       · rw [turnM_turn _ _ _ _ _ _ _ (want_no hw) hm]
         exact mturn_ptt si tu hi lo dw now old bk w hb hw hm _ (wrap_tu tu) now0 now1 si0 si1
   · cases hm : mayM si tu dw now
     · rw [turnM_not _ _ _ _ _ _ _ hm]
       exact mturn_not si tu hi lo dw now old bk w hb hm now0 now1 si0 si1
     · rw [turnM_turn _ _ _ _ _ _ _ (want_nobody hb) hm]
       exact mturn_ntt si tu hi lo dw now old bk w hb hm _ (wrap_tu tu) now0 now1 si0 si1
theorem turnM_ok (s : Mst) (hi lo dw now old bk : Int) (so : s.ok) (now0 : -9223372036854775808 ≤ now) (now1 : now ≤ 9223372036854775807) : (turnM s hi lo dw now old bk).ok := by
 unfold turnM
 split
 · exact so
 · exact ⟨now0, now1, by show 0 ≤ (s.tu + 1) % 18446744073709551616; omega, by show (s.tu + 1) % 18446744073709551616 ≤ _; omega⟩
end Go.Proofs.YtcffeokbipjaoaaGreat
