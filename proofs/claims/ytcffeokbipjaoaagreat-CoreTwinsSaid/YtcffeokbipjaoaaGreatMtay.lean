/- Texts of this claim, one behind the other: Codr. -/
import Derived.Deep.RegionWith
import Derived.Test.YtcffeokbipjaoaaGreatMtaa
import Derived.Test.YtcffeokbipjaoaaGreatMtax
namespace Go.Proofs.YtcffeokbipjaoaaGreat
open Go.ChangeShapes Go.WideShapes Go.ChangeAt Go.RowKit Kn
set_option linter.unusedVariables false
theorem ccons_any (s : Cst) (t i now j b : Int) (hb : Bool) (HH : Hid (highB t j b = hb)) (w : World) (now0 : -9223372036854775808 ≤ now) (now1 : now ≤ 9223372036854775807) (i0 : -9223372036854775808 ≤ i) (i1 : i ≤ 9223372036854775807) :
   Calls Tryz.prog 215 #[s.v, .agg #[.int .i64 t, .int .i64 i], .int .i64 now, .int .i64 j, .int .i64 b] w fun e w' => e = .returned (.tuple #[(consC s i now hb).v, .bool (mayC s now hb)]) ∧ Below w.heap.size w w' := by
 obtain ⟨ab, fi, dr, ne, co, la⟩ := s
 have hdr : (noteC ⟨ab, fi, dr, ne, co, la⟩ i now hb).dr = dr := by unfold noteC; cases hb <;> cases ab <;> rfl
 generalize hz : noteC ⟨ab, fi, dr, ne, co, la⟩ i now hb = z at hdr
 obtain ⟨na, nf, nd, nn, nc, nl⟩ := z
 have hdr' : nd = dr := hdr
 subst hdr'
 have hc : ∀ p, mayC ⟨ab, fi, nd, ne, co, la⟩ now hb = p → consC ⟨ab, fi, nd, ne, co, la⟩ i now hb = ⟨na, nf, nd && p, nn, nc, nl⟩ := by intro p hp; unfold consC; rw [hz, hp]
 cases ab with
 | false =>
   have hp : mayC ⟨false, fi, nd, ne, co, la⟩ now hb = false := by unfold mayC; rfl
   rw [hc _ hp, hp]
   cases nd
   · exact ccons_fA fi ne co la na nf nn nc nl t i now j b hb HH (Lib.hid hz) w now0 now1 i0 i1
   · exact ccons_tA fi ne co la na nf nn nc nl t i now j b hb HH (Lib.hid hz) w now0 now1 i0 i1
 | true =>
   rcases Int.lt_or_le now fi with hf | hf
   · have hp : mayC ⟨true, fi, nd, ne, co, la⟩ now hb = false := by unfold mayC; simp; intro; omega
     rw [hc _ hp, hp]
     cases nd
     · exact ccons_fB fi ne co la na nf nn nc nl t i now j b hb HH hf (Lib.hid hz) w now0 now1 i0 i1
     · exact ccons_tB fi ne co la na nf nn nc nl t i now j b hb HH hf (Lib.hid hz) w now0 now1 i0 i1
   · have hp : mayC ⟨true, fi, nd, ne, co, la⟩ now hb = hb := by unfold mayC; simp [hf]
     rw [hc _ hp, hp]
     cases nd
     · exact ccons_fC fi ne co la na nf nn nc nl t i now j b hb HH hf (Lib.hid hz) w now0 now1 i0 i1
     · exact ccons_tC fi ne co la na nf nn nc nl t i now j b hb HH hf (Lib.hid hz) w now0 now1 i0 i1
theorem lawZ_0 (i n : Int) : 0 ≤ lawZ i n := by unfold lawZ; split; omega; exact law0 _ _
theorem lawZ_1 (i n : Int) (i1 : i ≤ 9223372036854775807) : lawZ i n ≤ 9223372036854775807 := by
 unfold lawZ; split; omega
 have := law_le i n (by omega); omega
set_option maxHeartbeats 2000000 in
theorem cdrop_A (ab : Bool) (fi : Int) (dr : Bool) (ne co la now : Int) (w : World) (h : now < ne) :
   Calls Tryz.prog 216 #[.agg #[.bool ab, .int .i64 fi, .bool dr, .int .i64 ne, .int .u64 co, .int .u64 la], .int .i64 now] w fun e w' => e = .returned (.tuple #[.agg #[.bool ab, .int .i64 fi, .bool dr, .int .i64 ne, .int .u64 co, .int .u64 la], .int .i64 0]) ∧ Below w.heap.size w w' := by
 go_enter Tryz.func216, Tryz.ntmps216
 go_upto_region 1 with fail
 refine wp_worldc (fun wx => Bx w wx 280 (w.heap.size + 1) ⟨ab, fi, dr, ne, co, la⟩ ⟨false, 0, false, 0, 0, 0⟩ none) (Bx.made2 _ _ _ _ _ _ _ _ _ _ _ _ _ _) ?_
 rintro wx1 bx
 have BX := Lib.hid bx
 clear bx
 obtain ⟨⟨p0, p1, p2, p3, p4, p5⟩, p6, ⟨r0, r1, r2, r3, r4, r5⟩, r6, hz1, hz2⟩ := BX.out.facts
 go_wp2_with fail
 refine bodyPost_ret (v := .tuple #[.agg #[.bool ab, .int .i64 fi, .bool dr, .int .i64 ne, .int .u64 co, .int .u64 la], .int .i64 0]) (by simp [results, Tryz.results216, go_sem, *]) rfl ⟨rfl, ?_⟩
 exact (BX.out.storeC _ _ _ _ _ _).be
set_option maxHeartbeats 2000000 in
theorem cdrop_B (ab : Bool) (fi : Int) (dr : Bool) (ne co la now : Int) (w : World) (h : ne ≤ now) (c0 : 0 ≤ co) (c1 : co < 18446744073709551615) :
   Calls Tryz.prog 216 #[.agg #[.bool ab, .int .i64 fi, .bool dr, .int .i64 ne, .int .u64 co, .int .u64 la], .int .i64 now] w fun e w' => e = .returned (.tuple #[.agg #[.bool ab, .int .i64 fi, .bool dr, .int .i64 ne, .int .u64 (co + 1), .int .u64 la], .int .i64 1]) ∧ Below w.heap.size w w' := by
 have hw : IntKind.u64.wrap (co + 1) = co + 1 := by simp only [IntKind.wrap, IntKind.bits, IntKind.signed]; simp; omega
 go_enter Tryz.func216, Tryz.ntmps216
 go_upto_region 1 with fail
 refine wp_worldc (fun wx => Bx w wx 280 (w.heap.size + 1) ⟨ab, fi, dr, ne, co, la⟩ ⟨false, 0, false, 0, 0, 0⟩ none) (Bx.made2 _ _ _ _ _ _ _ _ _ _ _ _ _ _) ?_
 rintro wx1 bx
 have BX := Lib.hid bx
 clear bx
 obtain ⟨⟨p0, p1, p2, p3, p4, p5⟩, p6, ⟨r0, r1, r2, r3, r4, r5⟩, r6, hz1, hz2⟩ := BX.out.facts
 go_upto_region 5 with fail
 clear p0 p1 p2 p3 p4 p5 p6 r0 r1 r2 r3 r4 r5 r6 hz1 hz2
 refine wp_worldc (fun wx => Bx w wx 280 (w.heap.size + 1) ⟨ab, fi, dr, ne, co + 1, la⟩ ⟨false, 0, false, 0, 0, 0⟩ none) (Bx.one BX.out 4 _ rfl) ?_
 clear BX
 rintro wx2 bx
 have BX := Lib.hid bx
 clear bx
 obtain ⟨⟨p0, p1, p2, p3, p4, p5⟩, p6, ⟨r0, r1, r2, r3, r4, r5⟩, r6, hz1, hz2⟩ := BX.out.facts
 go_wp2_with fail
 refine bodyPost_ret (v := .tuple #[.agg #[.bool ab, .int .i64 fi, .bool dr, .int .i64 ne, .int .u64 (co + 1), .int .u64 la], .int .i64 1]) (by simp [results, Tryz.results216, go_sem, *]) rfl ⟨rfl, ?_⟩
 exact (BX.out.storeC _ _ _ _ _ _).be
set_option maxHeartbeats 2000000 in
theorem cdrop_C (ab : Bool) (fi : Int) (dr : Bool) (ne co la now : Int) (w : World) (h : ne ≤ now) (c1 : ¬ co < 18446744073709551615) :
   Calls Tryz.prog 216 #[.agg #[.bool ab, .int .i64 fi, .bool dr, .int .i64 ne, .int .u64 co, .int .u64 la], .int .i64 now] w fun e w' => e = .returned (.tuple #[.agg #[.bool ab, .int .i64 fi, .bool dr, .int .i64 ne, .int .u64 co, .int .u64 la], .int .i64 1]) ∧ Below w.heap.size w w' := by
 go_enter Tryz.func216, Tryz.ntmps216
 go_upto_region 1 with fail
 refine wp_worldc (fun wx => Bx w wx 280 (w.heap.size + 1) ⟨ab, fi, dr, ne, co, la⟩ ⟨false, 0, false, 0, 0, 0⟩ none) (Bx.made2 _ _ _ _ _ _ _ _ _ _ _ _ _ _) ?_
 rintro wx1 bx
 have BX := Lib.hid bx
 clear bx
 obtain ⟨⟨p0, p1, p2, p3, p4, p5⟩, p6, ⟨r0, r1, r2, r3, r4, r5⟩, r6, hz1, hz2⟩ := BX.out.facts
 go_wp2_with fail
 refine bodyPost_ret (v := .tuple #[.agg #[.bool ab, .int .i64 fi, .bool dr, .int .i64 ne, .int .u64 co, .int .u64 la], .int .i64 1]) (by simp [results, Tryz.results216, go_sem, *]) rfl ⟨rfl, ?_⟩
 exact (BX.out.storeC _ _ _ _ _ _).be
theorem cdrop_any (s : Cst) (now : Int) (w : World) (c0 : 0 ≤ s.co) :
   Calls Tryz.prog 216 #[s.v, .int .i64 now] w fun e w' => e = .returned (.tuple #[(timeC s now).1.v, .int .i64 (timeC s now).2]) ∧ Below w.heap.size w w' := by
 obtain ⟨ab, fi, dr, ne, co, la⟩ := s
 by_cases h : now < ne
 · have e : timeC ⟨ab, fi, dr, ne, co, la⟩ now = (⟨ab, fi, dr, ne, co, la⟩, 0) := by unfold timeC; rw [if_pos h]
   rw [e]; exact cdrop_A ab fi dr ne co la now w h
 · by_cases hc : co < 18446744073709551615
   · have e : timeC ⟨ab, fi, dr, ne, co, la⟩ now = (⟨ab, fi, dr, ne, co + 1, la⟩, 1) := by unfold timeC upC; rw [if_neg h, if_pos hc]
     rw [e]; exact cdrop_B ab fi dr ne co la now w (by omega) c0 hc
   · have e : timeC ⟨ab, fi, dr, ne, co, la⟩ now = (⟨ab, fi, dr, ne, co, la⟩, 1) := by unfold timeC upC; rw [if_neg h, if_neg hc]
     rw [e]; exact cdrop_C ab fi dr ne co la now w (by omega) hc
set_option maxHeartbeats 2000000 in
theorem cbegin_A (ab : Bool) (fi : Int) (dr : Bool) (ne co la d t i now : Int) (rb : Bool) (HD : Hid (IntKind.u64.wrap (co - la) = d)) (HR : Hid (decide (sat (now - ne) < sat (16 * i)) = rb)) (w : World) (now0 : -9223372036854775808 ≤ now) (now1 : now ≤ 9223372036854775807) (i0 : -9223372036854775808 ≤ i) (i1 : i ≤ 9223372036854775807) (ne0 : -9223372036854775808 ≤ ne) (ne1 : ne ≤ 9223372036854775807) (d0 : 0 ≤ d) (d1 : d ≤ 18446744073709551615) (h : d < 2) :
   Calls Tryz.prog 217 #[.agg #[.bool ab, .int .i64 fi, .bool dr, .int .i64 ne, .int .u64 co, .int .u64 la], .agg #[.int .i64 t, .int .i64 i], .int .i64 now] w fun e w' => e = .returned (.agg #[.bool ab, .int .i64 fi, .bool true, .int .i64 (sat (now + lawZ i 1)), .int .u64 1, .int .u64 1]) ∧ Below w.heap.size w w' := by
 have hd := HD.out
 have hr := HR.out
 have lz0 := lawZ_0 i 1
 have lz1 := lawZ_1 i 1 i1
 go_enter Tryz.func217, Tryz.ntmps217
 go_upto_region 1 with fail
 refine wp_worldc (fun wx => Bx w wx 280 (w.heap.size + 1 + 1) ⟨ab, fi, dr, ne, co, la⟩ ⟨false, 0, false, 0, 0, 0⟩ (some (t, i))) (Bx.made3 _ _ _ _ _ _ _ _ _ _ _ _ _ _ _ _) ?_
 rintro wx1 bx
 have BX := Lib.hid bx
 clear bx
 obtain ⟨⟨p0, p1, p2, p3, p4, p5⟩, p6, ⟨r0, r1, r2, r3, r4, r5⟩, r6, hz1, hz2⟩ := BX.out.facts
 obtain ⟨⟨q0, q1⟩, q2⟩ := BX.out.pfacts
 go_upto_region 3 with fail
 clear p0 p1 p2 p3 p4 p5 p6 r0 r1 r2 r3 r4 r5 r6 hz1 hz2
 clear q0 q1 q2
 refine wp_worldc (fun wx => Bx w wx 280 (w.heap.size + 1 + 1) ⟨ab, fi, true, ne, co, la⟩ ⟨false, 0, false, 0, 0, 0⟩ (some (t, i))) (Bx.one BX.out 2 _ rfl) ?_
 clear BX
 rintro wx2 bx
 have BX := Lib.hid bx
 clear bx
 obtain ⟨⟨p0, p1, p2, p3, p4, p5⟩, p6, ⟨r0, r1, r2, r3, r4, r5⟩, r6, hz1, hz2⟩ := BX.out.facts
 obtain ⟨⟨q0, q1⟩, q2⟩ := BX.out.pfacts
 go_cut [8] (fun s8 wx => s8 = .bool rb ∧ Bx w wx 280 (w.heap.size + 1 + 1) ⟨ab, fi, true, ne, co, la⟩ ⟨false, 0, false, 0, 0, 0⟩ (some (t, i)))
 case first =>
   go_region_with (first | (go_at_call 163; refine (fsub_any _ _ _ (by omega) (by omega) (by omega) (by omega)).mono ?_; rintro e wn ⟨rfl, rfl⟩) | (go_at_call 251; refine (fmul_any _ _ _ (by omega) (by omega) (by omega) (by omega)).mono ?_; rintro e wn ⟨rfl, hbn⟩; replace BX := Lib.hid (show Bx w wn _ _ _ _ _ from by first | exact BX.out.below hbn | exact BX.out.drew.below hbn | exact (BX.out.drewN _).below hbn); clear hbn; clear p0 p1 p2 p3 p4 p5 p6 r0 r1 r2 r3 r4 r5 r6 hz1 hz2; clear q0 q1 q2; obtain ⟨⟨p0, p1, p2, p3, p4, p5⟩, p6, ⟨r0, r1, r2, r3, r4, r5⟩, r6, hz1, hz2⟩ := BX.out.facts; obtain ⟨⟨q0, q1⟩, q2⟩ := BX.out.pfacts))
   all_goals (go_wp2_with fail; go_meet; exact ⟨by first | rfl | simp [*], (show Bx w _ _ _ _ _ _ from by first | exact BX.out | exact BX.out.drew | exact BX.out.drewN _)⟩)
 case rest =>
   clear p0 p1 p2 p3 p4 p5 p6 r0 r1 r2 r3 r4 r5 r6 hz1 hz2
   clear q0 q1 q2
   clear BX
   obtain ⟨rfl, bx⟩ := hcut
   have BX := Lib.hid bx
   clear bx
   obtain ⟨⟨p0, p1, p2, p3, p4, p5⟩, p6, ⟨r0, r1, r2, r3, r4, r5⟩, r6, hz1, hz2⟩ := BX.out.facts
   obtain ⟨⟨q0, q1⟩, q2⟩ := BX.out.pfacts
   go_upto_region 7 with fail
   clear p0 p1 p2 p3 p4 p5 p6 r0 r1 r2 r3 r4 r5 r6 hz1 hz2
   clear q0 q1 q2
   refine wp_worldc (fun wx => Bx w wx 280 (w.heap.size + 1 + 1) ⟨ab, fi, true, ne, 1, la⟩ ⟨false, 0, false, 0, 0, 0⟩ (some (t, i))) (Bx.one BX.out 4 _ rfl) ?_
   clear BX
   rintro wx3 bx
   have BX := Lib.hid bx
   clear bx
   obtain ⟨⟨p0, p1, p2, p3, p4, p5⟩, p6, ⟨r0, r1, r2, r3, r4, r5⟩, r6, hz1, hz2⟩ := BX.out.facts
   obtain ⟨⟨q0, q1⟩, q2⟩ := BX.out.pfacts
   go_wp2_with fail
   refine (rtlaw_all _ _ _ (by omega) (by omega) (by omega)).mono ?_
   rintro e wx4 ⟨rfl, hb⟩
   have bx := BX.out.below hb
   clear hb
   clear p0 p1 p2 p3 p4 p5 p6 r0 r1 r2 r3 r4 r5 r6 hz1 hz2
   clear q0 q1 q2
   clear BX
   have BX := Lib.hid bx
   clear bx
   obtain ⟨⟨p0, p1, p2, p3, p4, p5⟩, p6, ⟨r0, r1, r2, r3, r4, r5⟩, r6, hz1, hz2⟩ := BX.out.facts
   obtain ⟨⟨q0, q1⟩, q2⟩ := BX.out.pfacts
   go_upto_region 8 with (go_at_call 55; refine (fadd_any _ _ _ (by omega) (by omega) (by omega) (by omega)).mono ?_; rintro e wn ⟨rfl, rfl⟩)
   clear p0 p1 p2 p3 p4 p5 p6 r0 r1 r2 r3 r4 r5 r6 hz1 hz2
   clear q0 q1 q2
   refine wp_worldc (fun wx => Bx w wx 280 (w.heap.size + 1 + 1) ⟨ab, fi, true, sat (now + lawZ i 1), 1, la⟩ ⟨false, 0, false, 0, 0, 0⟩ (some (t, i))) (Bx.one BX.out 3 _ rfl) ?_
   clear BX
   rintro wx5 bx
   have BX := Lib.hid bx
   clear bx
   obtain ⟨⟨p0, p1, p2, p3, p4, p5⟩, p6, ⟨r0, r1, r2, r3, r4, r5⟩, r6, hz1, hz2⟩ := BX.out.facts
   obtain ⟨⟨q0, q1⟩, q2⟩ := BX.out.pfacts
   go_upto_region 9 with fail
   clear p0 p1 p2 p3 p4 p5 p6 r0 r1 r2 r3 r4 r5 r6 hz1 hz2
   clear q0 q1 q2
   refine wp_worldc (fun wx => Bx w wx 280 (w.heap.size + 1 + 1) ⟨ab, fi, true, sat (now + lawZ i 1), 1, 1⟩ ⟨false, 0, false, 0, 0, 0⟩ (some (t, i))) (Bx.one BX.out 5 _ rfl) ?_
   clear BX
   rintro wx6 bx
   have BX := Lib.hid bx
   clear bx
   obtain ⟨⟨p0, p1, p2, p3, p4, p5⟩, p6, ⟨r0, r1, r2, r3, r4, r5⟩, r6, hz1, hz2⟩ := BX.out.facts
   obtain ⟨⟨q0, q1⟩, q2⟩ := BX.out.pfacts
   go_wp2_with fail
   refine bodyPost_ret (v := .agg #[.bool ab, .int .i64 fi, .bool true, .int .i64 (sat (now + lawZ i 1)), .int .u64 1, .int .u64 1]) (by simp [results, Tryz.results217, go_sem, *]) rfl ⟨rfl, ?_⟩
   exact (BX.out.storeC _ _ _ _ _ _).be
set_option maxHeartbeats 2000000 in
theorem cbegin_B (ab : Bool) (fi : Int) (dr : Bool) (ne co la d t i now : Int) (rb : Bool) (HD : Hid (IntKind.u64.wrap (co - la) = d)) (HR : Hid (decide (sat (now - ne) < sat (16 * i)) = rb)) (w : World) (now0 : -9223372036854775808 ≤ now) (now1 : now ≤ 9223372036854775807) (i0 : -9223372036854775808 ≤ i) (i1 : i ≤ 9223372036854775807) (ne0 : -9223372036854775808 ≤ ne) (ne1 : ne ≤ 9223372036854775807) (d0 : 0 ≤ d) (d1 : d ≤ 18446744073709551615) (h : 2 ≤ d) (h2 : 9223372036854775808 < d) :
   Calls Tryz.prog 217 #[.agg #[.bool ab, .int .i64 fi, .bool dr, .int .i64 ne, .int .u64 co, .int .u64 la], .agg #[.int .i64 t, .int .i64 i], .int .i64 now] w fun e w' => e = .returned (.agg #[.bool ab, .int .i64 fi, .bool true, .int .i64 (sat (now + lawZ i 1)), .int .u64 1, .int .u64 1]) ∧ Below w.heap.size w w' := by
 have hd := HD.out
 have hr := HR.out
 have lz0 := lawZ_0 i 1
 have lz1 := lawZ_1 i 1 i1
 go_enter Tryz.func217, Tryz.ntmps217
 go_upto_region 1 with fail
 refine wp_worldc (fun wx => Bx w wx 280 (w.heap.size + 1 + 1) ⟨ab, fi, dr, ne, co, la⟩ ⟨false, 0, false, 0, 0, 0⟩ (some (t, i))) (Bx.made3 _ _ _ _ _ _ _ _ _ _ _ _ _ _ _ _) ?_
 rintro wx1 bx
 have BX := Lib.hid bx
 clear bx
 obtain ⟨⟨p0, p1, p2, p3, p4, p5⟩, p6, ⟨r0, r1, r2, r3, r4, r5⟩, r6, hz1, hz2⟩ := BX.out.facts
 obtain ⟨⟨q0, q1⟩, q2⟩ := BX.out.pfacts
 go_upto_region 3 with fail
 clear p0 p1 p2 p3 p4 p5 p6 r0 r1 r2 r3 r4 r5 r6 hz1 hz2
 clear q0 q1 q2
 refine wp_worldc (fun wx => Bx w wx 280 (w.heap.size + 1 + 1) ⟨ab, fi, true, ne, co, la⟩ ⟨false, 0, false, 0, 0, 0⟩ (some (t, i))) (Bx.one BX.out 2 _ rfl) ?_
 clear BX
 rintro wx2 bx
 have BX := Lib.hid bx
 clear bx
 obtain ⟨⟨p0, p1, p2, p3, p4, p5⟩, p6, ⟨r0, r1, r2, r3, r4, r5⟩, r6, hz1, hz2⟩ := BX.out.facts
 obtain ⟨⟨q0, q1⟩, q2⟩ := BX.out.pfacts
 go_cut [8] (fun s8 wx => s8 = .bool rb ∧ Bx w wx 280 (w.heap.size + 1 + 1) ⟨ab, fi, true, ne, co, la⟩ ⟨false, 0, false, 0, 0, 0⟩ (some (t, i)))
 case first =>
   go_region_with (first | (go_at_call 163; refine (fsub_any _ _ _ (by omega) (by omega) (by omega) (by omega)).mono ?_; rintro e wn ⟨rfl, rfl⟩) | (go_at_call 251; refine (fmul_any _ _ _ (by omega) (by omega) (by omega) (by omega)).mono ?_; rintro e wn ⟨rfl, hbn⟩; replace BX := Lib.hid (show Bx w wn _ _ _ _ _ from by first | exact BX.out.below hbn | exact BX.out.drew.below hbn | exact (BX.out.drewN _).below hbn); clear hbn; clear p0 p1 p2 p3 p4 p5 p6 r0 r1 r2 r3 r4 r5 r6 hz1 hz2; clear q0 q1 q2; obtain ⟨⟨p0, p1, p2, p3, p4, p5⟩, p6, ⟨r0, r1, r2, r3, r4, r5⟩, r6, hz1, hz2⟩ := BX.out.facts; obtain ⟨⟨q0, q1⟩, q2⟩ := BX.out.pfacts))
   all_goals (go_wp2_with fail; go_meet; exact ⟨by first | rfl | simp [*], (show Bx w _ _ _ _ _ _ from by first | exact BX.out | exact BX.out.drew | exact BX.out.drewN _)⟩)
 case rest =>
   clear p0 p1 p2 p3 p4 p5 p6 r0 r1 r2 r3 r4 r5 r6 hz1 hz2
   clear q0 q1 q2
   clear BX
   obtain ⟨rfl, bx⟩ := hcut
   have BX := Lib.hid bx
   clear bx
   obtain ⟨⟨p0, p1, p2, p3, p4, p5⟩, p6, ⟨r0, r1, r2, r3, r4, r5⟩, r6, hz1, hz2⟩ := BX.out.facts
   obtain ⟨⟨q0, q1⟩, q2⟩ := BX.out.pfacts
   go_upto_region 7 with fail
   clear p0 p1 p2 p3 p4 p5 p6 r0 r1 r2 r3 r4 r5 r6 hz1 hz2
   clear q0 q1 q2
   refine wp_worldc (fun wx => Bx w wx 280 (w.heap.size + 1 + 1) ⟨ab, fi, true, ne, 1, la⟩ ⟨false, 0, false, 0, 0, 0⟩ (some (t, i))) (Bx.one BX.out 4 _ rfl) ?_
   clear BX
   rintro wx3 bx
   have BX := Lib.hid bx
   clear bx
   obtain ⟨⟨p0, p1, p2, p3, p4, p5⟩, p6, ⟨r0, r1, r2, r3, r4, r5⟩, r6, hz1, hz2⟩ := BX.out.facts
   obtain ⟨⟨q0, q1⟩, q2⟩ := BX.out.pfacts
   go_wp2_with fail
   refine (rtlaw_all _ _ _ (by omega) (by omega) (by omega)).mono ?_
   rintro e wx4 ⟨rfl, hb⟩
   have bx := BX.out.below hb
   clear hb
   clear p0 p1 p2 p3 p4 p5 p6 r0 r1 r2 r3 r4 r5 r6 hz1 hz2
   clear q0 q1 q2
   clear BX
   have BX := Lib.hid bx
   clear bx
   obtain ⟨⟨p0, p1, p2, p3, p4, p5⟩, p6, ⟨r0, r1, r2, r3, r4, r5⟩, r6, hz1, hz2⟩ := BX.out.facts
   obtain ⟨⟨q0, q1⟩, q2⟩ := BX.out.pfacts
   go_upto_region 8 with (go_at_call 55; refine (fadd_any _ _ _ (by omega) (by omega) (by omega) (by omega)).mono ?_; rintro e wn ⟨rfl, rfl⟩)
   clear p0 p1 p2 p3 p4 p5 p6 r0 r1 r2 r3 r4 r5 r6 hz1 hz2
   clear q0 q1 q2
   refine wp_worldc (fun wx => Bx w wx 280 (w.heap.size + 1 + 1) ⟨ab, fi, true, sat (now + lawZ i 1), 1, la⟩ ⟨false, 0, false, 0, 0, 0⟩ (some (t, i))) (Bx.one BX.out 3 _ rfl) ?_
   clear BX
   rintro wx5 bx
   have BX := Lib.hid bx
   clear bx
   obtain ⟨⟨p0, p1, p2, p3, p4, p5⟩, p6, ⟨r0, r1, r2, r3, r4, r5⟩, r6, hz1, hz2⟩ := BX.out.facts
   obtain ⟨⟨q0, q1⟩, q2⟩ := BX.out.pfacts
   go_upto_region 9 with fail
   clear p0 p1 p2 p3 p4 p5 p6 r0 r1 r2 r3 r4 r5 r6 hz1 hz2
   clear q0 q1 q2
   refine wp_worldc (fun wx => Bx w wx 280 (w.heap.size + 1 + 1) ⟨ab, fi, true, sat (now + lawZ i 1), 1, 1⟩ ⟨false, 0, false, 0, 0, 0⟩ (some (t, i))) (Bx.one BX.out 5 _ rfl) ?_
   clear BX
   rintro wx6 bx
   have BX := Lib.hid bx
   clear bx
   obtain ⟨⟨p0, p1, p2, p3, p4, p5⟩, p6, ⟨r0, r1, r2, r3, r4, r5⟩, r6, hz1, hz2⟩ := BX.out.facts
   obtain ⟨⟨q0, q1⟩, q2⟩ := BX.out.pfacts
   go_wp2_with fail
   refine bodyPost_ret (v := .agg #[.bool ab, .int .i64 fi, .bool true, .int .i64 (sat (now + lawZ i 1)), .int .u64 1, .int .u64 1]) (by simp [results, Tryz.results217, go_sem, *]) rfl ⟨rfl, ?_⟩
   exact (BX.out.storeC _ _ _ _ _ _).be
set_option maxHeartbeats 2000000 in
theorem cbegin_C (ab : Bool) (fi : Int) (dr : Bool) (ne co la d t i now : Int) (rb : Bool) (HD : Hid (IntKind.u64.wrap (co - la) = d)) (HR : Hid (decide (sat (now - ne) < sat (16 * i)) = rb)) (w : World) (now0 : -9223372036854775808 ≤ now) (now1 : now ≤ 9223372036854775807) (i0 : -9223372036854775808 ≤ i) (i1 : i ≤ 9223372036854775807) (ne0 : -9223372036854775808 ≤ ne) (ne1 : ne ≤ 9223372036854775807) (d0 : 0 ≤ d) (d1 : d ≤ 18446744073709551615) (h : 2 ≤ d) (h2 : d ≤ 9223372036854775808) (hr : rb = false) :
   Calls Tryz.prog 217 #[.agg #[.bool ab, .int .i64 fi, .bool dr, .int .i64 ne, .int .u64 co, .int .u64 la], .agg #[.int .i64 t, .int .i64 i], .int .i64 now] w fun e w' => e = .returned (.agg #[.bool ab, .int .i64 fi, .bool true, .int .i64 (sat (now + lawZ i 1)), .int .u64 1, .int .u64 1]) ∧ Below w.heap.size w w' := by
 subst hr
 have hd := HD.out
 have hr := HR.out
 have lz0 := lawZ_0 i 1
 have lz1 := lawZ_1 i 1 i1
 go_enter Tryz.func217, Tryz.ntmps217
 go_upto_region 1 with fail
 refine wp_worldc (fun wx => Bx w wx 280 (w.heap.size + 1 + 1) ⟨ab, fi, dr, ne, co, la⟩ ⟨false, 0, false, 0, 0, 0⟩ (some (t, i))) (Bx.made3 _ _ _ _ _ _ _ _ _ _ _ _ _ _ _ _) ?_
 rintro wx1 bx
 have BX := Lib.hid bx
 clear bx
 obtain ⟨⟨p0, p1, p2, p3, p4, p5⟩, p6, ⟨r0, r1, r2, r3, r4, r5⟩, r6, hz1, hz2⟩ := BX.out.facts
 obtain ⟨⟨q0, q1⟩, q2⟩ := BX.out.pfacts
 go_upto_region 3 with fail
 clear p0 p1 p2 p3 p4 p5 p6 r0 r1 r2 r3 r4 r5 r6 hz1 hz2
 clear q0 q1 q2
 refine wp_worldc (fun wx => Bx w wx 280 (w.heap.size + 1 + 1) ⟨ab, fi, true, ne, co, la⟩ ⟨false, 0, false, 0, 0, 0⟩ (some (t, i))) (Bx.one BX.out 2 _ rfl) ?_
 clear BX
 rintro wx2 bx
 have BX := Lib.hid bx
 clear bx
 obtain ⟨⟨p0, p1, p2, p3, p4, p5⟩, p6, ⟨r0, r1, r2, r3, r4, r5⟩, r6, hz1, hz2⟩ := BX.out.facts
 obtain ⟨⟨q0, q1⟩, q2⟩ := BX.out.pfacts
 go_cut [8] (fun s8 wx => s8 = .bool false ∧ Bx w wx 280 (w.heap.size + 1 + 1) ⟨ab, fi, true, ne, co, la⟩ ⟨false, 0, false, 0, 0, 0⟩ (some (t, i)))
 case first =>
   go_region_with (first | (go_at_call 163; refine (fsub_any _ _ _ (by omega) (by omega) (by omega) (by omega)).mono ?_; rintro e wn ⟨rfl, rfl⟩) | (go_at_call 251; refine (fmul_any _ _ _ (by omega) (by omega) (by omega) (by omega)).mono ?_; rintro e wn ⟨rfl, hbn⟩; replace BX := Lib.hid (show Bx w wn _ _ _ _ _ from by first | exact BX.out.below hbn | exact BX.out.drew.below hbn | exact (BX.out.drewN _).below hbn); clear hbn; clear p0 p1 p2 p3 p4 p5 p6 r0 r1 r2 r3 r4 r5 r6 hz1 hz2; clear q0 q1 q2; obtain ⟨⟨p0, p1, p2, p3, p4, p5⟩, p6, ⟨r0, r1, r2, r3, r4, r5⟩, r6, hz1, hz2⟩ := BX.out.facts; obtain ⟨⟨q0, q1⟩, q2⟩ := BX.out.pfacts))
   all_goals (go_wp2_with fail; go_meet; exact ⟨by first | rfl | simp [*], (show Bx w _ _ _ _ _ _ from by first | exact BX.out | exact BX.out.drew | exact BX.out.drewN _)⟩)
 case rest =>
   clear p0 p1 p2 p3 p4 p5 p6 r0 r1 r2 r3 r4 r5 r6 hz1 hz2
   clear q0 q1 q2
   clear BX
   obtain ⟨rfl, bx⟩ := hcut
   have BX := Lib.hid bx
   clear bx
   obtain ⟨⟨p0, p1, p2, p3, p4, p5⟩, p6, ⟨r0, r1, r2, r3, r4, r5⟩, r6, hz1, hz2⟩ := BX.out.facts
   obtain ⟨⟨q0, q1⟩, q2⟩ := BX.out.pfacts
   go_upto_region 7 with fail
   clear p0 p1 p2 p3 p4 p5 p6 r0 r1 r2 r3 r4 r5 r6 hz1 hz2
   clear q0 q1 q2
   refine wp_worldc (fun wx => Bx w wx 280 (w.heap.size + 1 + 1) ⟨ab, fi, true, ne, 1, la⟩ ⟨false, 0, false, 0, 0, 0⟩ (some (t, i))) (Bx.one BX.out 4 _ rfl) ?_
   clear BX
   rintro wx3 bx
   have BX := Lib.hid bx
   clear bx
   obtain ⟨⟨p0, p1, p2, p3, p4, p5⟩, p6, ⟨r0, r1, r2, r3, r4, r5⟩, r6, hz1, hz2⟩ := BX.out.facts
   obtain ⟨⟨q0, q1⟩, q2⟩ := BX.out.pfacts
   go_wp2_with fail
   refine (rtlaw_all _ _ _ (by omega) (by omega) (by omega)).mono ?_
   rintro e wx4 ⟨rfl, hb⟩
   have bx := BX.out.below hb
   clear hb
   clear p0 p1 p2 p3 p4 p5 p6 r0 r1 r2 r3 r4 r5 r6 hz1 hz2
   clear q0 q1 q2
   clear BX
   have BX := Lib.hid bx
   clear bx
   obtain ⟨⟨p0, p1, p2, p3, p4, p5⟩, p6, ⟨r0, r1, r2, r3, r4, r5⟩, r6, hz1, hz2⟩ := BX.out.facts
   obtain ⟨⟨q0, q1⟩, q2⟩ := BX.out.pfacts
   go_upto_region 8 with (go_at_call 55; refine (fadd_any _ _ _ (by omega) (by omega) (by omega) (by omega)).mono ?_; rintro e wn ⟨rfl, rfl⟩)
   clear p0 p1 p2 p3 p4 p5 p6 r0 r1 r2 r3 r4 r5 r6 hz1 hz2
   clear q0 q1 q2
   refine wp_worldc (fun wx => Bx w wx 280 (w.heap.size + 1 + 1) ⟨ab, fi, true, sat (now + lawZ i 1), 1, la⟩ ⟨false, 0, false, 0, 0, 0⟩ (some (t, i))) (Bx.one BX.out 3 _ rfl) ?_
   clear BX
   rintro wx5 bx
   have BX := Lib.hid bx
   clear bx
   obtain ⟨⟨p0, p1, p2, p3, p4, p5⟩, p6, ⟨r0, r1, r2, r3, r4, r5⟩, r6, hz1, hz2⟩ := BX.out.facts
   obtain ⟨⟨q0, q1⟩, q2⟩ := BX.out.pfacts
   go_upto_region 9 with fail
   clear p0 p1 p2 p3 p4 p5 p6 r0 r1 r2 r3 r4 r5 r6 hz1 hz2
   clear q0 q1 q2
   refine wp_worldc (fun wx => Bx w wx 280 (w.heap.size + 1 + 1) ⟨ab, fi, true, sat (now + lawZ i 1), 1, 1⟩ ⟨false, 0, false, 0, 0, 0⟩ (some (t, i))) (Bx.one BX.out 5 _ rfl) ?_
   clear BX
   rintro wx6 bx
   have BX := Lib.hid bx
   clear bx
   obtain ⟨⟨p0, p1, p2, p3, p4, p5⟩, p6, ⟨r0, r1, r2, r3, r4, r5⟩, r6, hz1, hz2⟩ := BX.out.facts
   obtain ⟨⟨q0, q1⟩, q2⟩ := BX.out.pfacts
   go_wp2_with fail
   refine bodyPost_ret (v := .agg #[.bool ab, .int .i64 fi, .bool true, .int .i64 (sat (now + lawZ i 1)), .int .u64 1, .int .u64 1]) (by simp [results, Tryz.results217, go_sem, *]) rfl ⟨rfl, ?_⟩
   exact (BX.out.storeC _ _ _ _ _ _).be
set_option maxHeartbeats 2000000 in
theorem cbegin_D (ab : Bool) (fi : Int) (dr : Bool) (ne co la d t i now : Int) (rb : Bool) (HD : Hid (IntKind.u64.wrap (co - la) = d)) (HR : Hid (decide (sat (now - ne) < sat (16 * i)) = rb)) (w : World) (now0 : -9223372036854775808 ≤ now) (now1 : now ≤ 9223372036854775807) (i0 : -9223372036854775808 ≤ i) (i1 : i ≤ 9223372036854775807) (ne0 : -9223372036854775808 ≤ ne) (ne1 : ne ≤ 9223372036854775807) (d0 : 0 ≤ d) (d1 : d ≤ 18446744073709551615) (h : 2 ≤ d) (h2 : d ≤ 9223372036854775808) (hr : rb = true) :
   Calls Tryz.prog 217 #[.agg #[.bool ab, .int .i64 fi, .bool dr, .int .i64 ne, .int .u64 co, .int .u64 la], .agg #[.int .i64 t, .int .i64 i], .int .i64 now] w fun e w' => e = .returned (.agg #[.bool ab, .int .i64 fi, .bool true, .int .i64 (sat (now + lawZ i d)), .int .u64 d, .int .u64 d]) ∧ Below w.heap.size w w' := by
 subst hr
 have hd := HD.out
 have hr := HR.out
 have lz0 := lawZ_0 i d
 have lz1 := lawZ_1 i d i1
 go_enter Tryz.func217, Tryz.ntmps217
 go_upto_region 1 with fail
 refine wp_worldc (fun wx => Bx w wx 280 (w.heap.size + 1 + 1) ⟨ab, fi, dr, ne, co, la⟩ ⟨false, 0, false, 0, 0, 0⟩ (some (t, i))) (Bx.made3 _ _ _ _ _ _ _ _ _ _ _ _ _ _ _ _) ?_
 rintro wx1 bx
 have BX := Lib.hid bx
 clear bx
 obtain ⟨⟨p0, p1, p2, p3, p4, p5⟩, p6, ⟨r0, r1, r2, r3, r4, r5⟩, r6, hz1, hz2⟩ := BX.out.facts
 obtain ⟨⟨q0, q1⟩, q2⟩ := BX.out.pfacts
 go_upto_region 3 with fail
 clear p0 p1 p2 p3 p4 p5 p6 r0 r1 r2 r3 r4 r5 r6 hz1 hz2
 clear q0 q1 q2
 refine wp_worldc (fun wx => Bx w wx 280 (w.heap.size + 1 + 1) ⟨ab, fi, true, ne, co, la⟩ ⟨false, 0, false, 0, 0, 0⟩ (some (t, i))) (Bx.one BX.out 2 _ rfl) ?_
 clear BX
 rintro wx2 bx
 have BX := Lib.hid bx
 clear bx
 obtain ⟨⟨p0, p1, p2, p3, p4, p5⟩, p6, ⟨r0, r1, r2, r3, r4, r5⟩, r6, hz1, hz2⟩ := BX.out.facts
 obtain ⟨⟨q0, q1⟩, q2⟩ := BX.out.pfacts
 go_cut [8] (fun s8 wx => s8 = .bool true ∧ Bx w wx 280 (w.heap.size + 1 + 1) ⟨ab, fi, true, ne, co, la⟩ ⟨false, 0, false, 0, 0, 0⟩ (some (t, i)))
 case first =>
   go_region_with (first | (go_at_call 163; refine (fsub_any _ _ _ (by omega) (by omega) (by omega) (by omega)).mono ?_; rintro e wn ⟨rfl, rfl⟩) | (go_at_call 251; refine (fmul_any _ _ _ (by omega) (by omega) (by omega) (by omega)).mono ?_; rintro e wn ⟨rfl, hbn⟩; replace BX := Lib.hid (show Bx w wn _ _ _ _ _ from by first | exact BX.out.below hbn | exact BX.out.drew.below hbn | exact (BX.out.drewN _).below hbn); clear hbn; clear p0 p1 p2 p3 p4 p5 p6 r0 r1 r2 r3 r4 r5 r6 hz1 hz2; clear q0 q1 q2; obtain ⟨⟨p0, p1, p2, p3, p4, p5⟩, p6, ⟨r0, r1, r2, r3, r4, r5⟩, r6, hz1, hz2⟩ := BX.out.facts; obtain ⟨⟨q0, q1⟩, q2⟩ := BX.out.pfacts))
   all_goals (go_wp2_with fail; go_meet; exact ⟨by first | rfl | simp [*], (show Bx w _ _ _ _ _ _ from by first | exact BX.out | exact BX.out.drew | exact BX.out.drewN _)⟩)
 case rest =>
   clear p0 p1 p2 p3 p4 p5 p6 r0 r1 r2 r3 r4 r5 r6 hz1 hz2
   clear q0 q1 q2
   clear BX
   obtain ⟨rfl, bx⟩ := hcut
   have BX := Lib.hid bx
   clear bx
   obtain ⟨⟨p0, p1, p2, p3, p4, p5⟩, p6, ⟨r0, r1, r2, r3, r4, r5⟩, r6, hz1, hz2⟩ := BX.out.facts
   obtain ⟨⟨q0, q1⟩, q2⟩ := BX.out.pfacts
   go_upto_region 6 with fail
   clear p0 p1 p2 p3 p4 p5 p6 r0 r1 r2 r3 r4 r5 r6 hz1 hz2
   clear q0 q1 q2
   refine wp_worldc (fun wx => Bx w wx 280 (w.heap.size + 1 + 1) ⟨ab, fi, true, ne, 1, la⟩ ⟨false, 0, false, 0, 0, 0⟩ (some (t, i))) (Bx.one BX.out 4 _ rfl) ?_
   clear BX
   rintro wx3 bx
   have BX := Lib.hid bx
   clear bx
   obtain ⟨⟨p0, p1, p2, p3, p4, p5⟩, p6, ⟨r0, r1, r2, r3, r4, r5⟩, r6, hz1, hz2⟩ := BX.out.facts
   obtain ⟨⟨q0, q1⟩, q2⟩ := BX.out.pfacts
   go_upto_region 7 with fail
   clear p0 p1 p2 p3 p4 p5 p6 r0 r1 r2 r3 r4 r5 r6 hz1 hz2
   clear q0 q1 q2
   refine wp_worldc (fun wx => Bx w wx 280 (w.heap.size + 1 + 1) ⟨ab, fi, true, ne, d, la⟩ ⟨false, 0, false, 0, 0, 0⟩ (some (t, i))) (Bx.one BX.out 4 _ rfl) ?_
   clear BX
   rintro wx4 bx
   have BX := Lib.hid bx
   clear bx
   obtain ⟨⟨p0, p1, p2, p3, p4, p5⟩, p6, ⟨r0, r1, r2, r3, r4, r5⟩, r6, hz1, hz2⟩ := BX.out.facts
   obtain ⟨⟨q0, q1⟩, q2⟩ := BX.out.pfacts
   go_wp2_with fail
   refine (rtlaw_all _ _ _ (by omega) (by omega) (by omega)).mono ?_
   rintro e wx5 ⟨rfl, hb⟩
   have bx := BX.out.below hb
   clear hb
   clear p0 p1 p2 p3 p4 p5 p6 r0 r1 r2 r3 r4 r5 r6 hz1 hz2
   clear q0 q1 q2
   clear BX
   have BX := Lib.hid bx
   clear bx
   obtain ⟨⟨p0, p1, p2, p3, p4, p5⟩, p6, ⟨r0, r1, r2, r3, r4, r5⟩, r6, hz1, hz2⟩ := BX.out.facts
   obtain ⟨⟨q0, q1⟩, q2⟩ := BX.out.pfacts
   go_upto_region 8 with (go_at_call 55; refine (fadd_any _ _ _ (by omega) (by omega) (by omega) (by omega)).mono ?_; rintro e wn ⟨rfl, rfl⟩)
   clear p0 p1 p2 p3 p4 p5 p6 r0 r1 r2 r3 r4 r5 r6 hz1 hz2
   clear q0 q1 q2
   refine wp_worldc (fun wx => Bx w wx 280 (w.heap.size + 1 + 1) ⟨ab, fi, true, sat (now + lawZ i d), d, la⟩ ⟨false, 0, false, 0, 0, 0⟩ (some (t, i))) (Bx.one BX.out 3 _ rfl) ?_
   clear BX
   rintro wx6 bx
   have BX := Lib.hid bx
   clear bx
   obtain ⟨⟨p0, p1, p2, p3, p4, p5⟩, p6, ⟨r0, r1, r2, r3, r4, r5⟩, r6, hz1, hz2⟩ := BX.out.facts
   obtain ⟨⟨q0, q1⟩, q2⟩ := BX.out.pfacts
   go_upto_region 9 with fail
   clear p0 p1 p2 p3 p4 p5 p6 r0 r1 r2 r3 r4 r5 r6 hz1 hz2
   clear q0 q1 q2
   refine wp_worldc (fun wx => Bx w wx 280 (w.heap.size + 1 + 1) ⟨ab, fi, true, sat (now + lawZ i d), d, d⟩ ⟨false, 0, false, 0, 0, 0⟩ (some (t, i))) (Bx.one BX.out 5 _ rfl) ?_
   clear BX
   rintro wx7 bx
   have BX := Lib.hid bx
   clear bx
   obtain ⟨⟨p0, p1, p2, p3, p4, p5⟩, p6, ⟨r0, r1, r2, r3, r4, r5⟩, r6, hz1, hz2⟩ := BX.out.facts
   obtain ⟨⟨q0, q1⟩, q2⟩ := BX.out.pfacts
   go_wp2_with fail
   refine bodyPost_ret (v := .agg #[.bool ab, .int .i64 fi, .bool true, .int .i64 (sat (now + lawZ i d)), .int .u64 d, .int .u64 d]) (by simp [results, Tryz.results217, go_sem, *]) rfl ⟨rfl, ?_⟩
   exact (BX.out.storeC _ _ _ _ _ _).be
theorem cbegin_any (s : Cst) (t i now : Int) (w : World) (now0 : -9223372036854775808 ≤ now) (now1 : now ≤ 9223372036854775807) (i0 : -9223372036854775808 ≤ i) (i1 : i ≤ 9223372036854775807) (hs : s.ok) :
   Calls Tryz.prog 217 #[s.v, .agg #[.int .i64 t, .int .i64 i], .int .i64 now] w fun e w' => e = .returned (beginC s i now).v ∧ Below w.heap.size w w' := by
 obtain ⟨ab, fi, dr, ne, co, la⟩ := s
 have hw : IntKind.u64.wrap (co - la) = (co - la) % 18446744073709551616 := by simp [IntKind.wrap, IntKind.bits, IntKind.signed]
 generalize hd : (co - la) % 18446744073709551616 = d at hw
 have d0 : 0 ≤ d := by omega
 have d1 : d ≤ 18446744073709551615 := by omega
 obtain ⟨rb, hr⟩ : ∃ rb, decide (sat (now - ne) < sat (16 * i)) = rb := ⟨_, rfl⟩
 have hk : beginN ⟨ab, fi, dr, ne, co, la⟩ i now = if 2 ≤ d ∧ d ≤ 9223372036854775808 ∧ sat (now - ne) < sat (16 * i) then d else 1 := by
   show (if 2 ≤ (co - la) % 18446744073709551616 ∧ (co - la) % 18446744073709551616 ≤ 9223372036854775808 ∧ sat (now - ne) < sat (16 * i) then (co - la) % 18446744073709551616 else 1) = _
   rw [hd]
 have key : ∀ k, beginN ⟨ab, fi, dr, ne, co, la⟩ i now = k → beginC ⟨ab, fi, dr, ne, co, la⟩ i now = ⟨ab, fi, true, sat (now + lawZ i k), k, k⟩ := by
   intro k hk; unfold beginC; rw [hk]
 by_cases h1 : d < 2
 · rw [key 1 (by rw [hk, if_neg (by omega)])]
   exact cbegin_A ab fi dr ne co la d t i now rb (Lib.hid hw) (Lib.hid hr) w now0 now1 i0 i1 hs.n0 hs.n1 d0 d1 h1
 · by_cases h2 : 9223372036854775808 < d
   · rw [key 1 (by rw [hk, if_neg (by omega)])]
     exact cbegin_B ab fi dr ne co la d t i now rb (Lib.hid hw) (Lib.hid hr) w now0 now1 i0 i1 hs.n0 hs.n1 d0 d1 (by omega) h2
   · cases rb with
     | false =>
       have hn : ¬ sat (now - ne) < sat (16 * i) := by simpa using hr
       rw [key 1 (by rw [hk, if_neg (fun h => hn h.2.2)])]
       exact cbegin_C ab fi dr ne co la d t i now false (Lib.hid hw) (Lib.hid hr) w now0 now1 i0 i1 hs.n0 hs.n1 d0 d1 (by omega) (by omega) rfl
     | true =>
       have hn : sat (now - ne) < sat (16 * i) := by simpa using hr
       rw [key d (by rw [hk, if_pos ⟨by omega, by omega, hn⟩])]
       exact cbegin_D ab fi dr ne co la d t i now true (Lib.hid hw) (Lib.hid hr) w now0 now1 i0 i1 hs.n0 hs.n1 d0 d1 (by omega) (by omega) rfl
end Go.Proofs.YtcffeokbipjaoaaGreat
