/- What the document's Look and More of layer 8 answer. -/
import Derived.Test.YtkmhdkhaoegbjaaCodt
namespace Go.Proofs.Ytkmhdkhaoegbjaa
open Go.ChangeShapes Go.WideShapes Go.ChangeAt Go.RowKit Kn
set_option linter.unusedVariables false
set_option maxHeartbeats 2000000 in
theorem rlook_1 (ab : Bool) (fi : Int) (dr : Bool) (ne co la : Int) (na : Bool) (nf : Int) (nn nc nl t i now j b : Int) (hb : Bool) (HH : Hid (highB t j b = hb)) (HC : Hid (noteC ⟨ab, fi, dr, ne, co, la⟩ i now hb = ⟨na, nf, true, nn, nc, nl⟩)) (HP : Hid (mayC ⟨ab, fi, dr, ne, co, la⟩ now hb = false)) (w : World) (now0 : -9223372036854775808 ≤ now) (now1 : now ≤ 9223372036854775807) (i0 : -9223372036854775808 ≤ i) (i1 : i ≤ 9223372036854775807)  :
    Calls Try.prog 11 #[.agg #[.bool ab, .int .i64 fi, .bool dr, .int .i64 ne, .int .u64 co, .int .u64 la], .int .i64 t, .int .i64 i, .int .i64 now, .int .i64 j, .int .i64 b] w fun e w' => e = .returned (.tuple #[.agg #[.bool na, .int .i64 nf, .bool false, .int .i64 nn, .int .u64 nc, .int .u64 nl], .int .i64 0]) ∧ Below w.heap.size w w' := by
  go_enter Try.func11, Try.ntmps11
  go_upto_region 1 with fail
  refine wp_worldc (fun wx => Bx w wx 30 (w.heap.size + 1) ⟨ab, fi, dr, ne, co, la⟩ ⟨false, 0, false, 0, 0, 0⟩ none) (Bx.made2 _ _ _ _ _ _ _ _ _ _ _ _ _ _) ?_
  rintro wx1 bx
  have BX := Lib.hid bx
  clear bx
  obtain ⟨⟨p0, p1, p2, p3, p4, p5⟩, p6, ⟨r0, r1, r2, r3, r4, r5⟩, r6, hz1, hz2⟩ := BX.out.facts
  go_wp2_with fail
  refine (rnote_any ⟨ab, fi, dr, ne, co, la⟩ _ _ _ _ _ _ HH.out _ now0 now1 i0 i1).mono ?_
  rw [HC.out, HP.out]
  rintro e wx2 ⟨rfl, hb⟩
  have bx := BX.out.below hb
  clear hb
  clear p0 p1 p2 p3 p4 p5 p6 r0 r1 r2 r3 r4 r5 r6 hz1 hz2
  clear BX
  have BX := Lib.hid bx
  clear bx
  obtain ⟨⟨p0, p1, p2, p3, p4, p5⟩, p6, ⟨r0, r1, r2, r3, r4, r5⟩, r6, hz1, hz2⟩ := BX.out.facts
  go_upto_region 2 with fail
  clear p0 p1 p2 p3 p4 p5 p6 r0 r1 r2 r3 r4 r5 r6 hz1 hz2
  refine wp_worldc (fun wx => Bx w wx 30 (w.heap.size + 1) ⟨na, nf, true, nn, nc, nl⟩ ⟨false, 0, false, 0, 0, 0⟩ none) (BX.out.store _ _ _ _ _ _) ?_
  clear BX
  rintro wx3 bx
  have BX := Lib.hid bx
  clear bx
  obtain ⟨⟨p0, p1, p2, p3, p4, p5⟩, p6, ⟨r0, r1, r2, r3, r4, r5⟩, r6, hz1, hz2⟩ := BX.out.facts
  go_upto_region 5 with fail
  clear p0 p1 p2 p3 p4 p5 p6 r0 r1 r2 r3 r4 r5 r6 hz1 hz2
  refine wp_worldc (fun wx => Bx w wx 30 (w.heap.size + 1) ⟨na, nf, false, nn, nc, nl⟩ ⟨false, 0, false, 0, 0, 0⟩ none) (Bx.one BX.out 2 _ rfl) ?_
  clear BX
  rintro wx4 bx
  have BX := Lib.hid bx
  clear bx
  obtain ⟨⟨p0, p1, p2, p3, p4, p5⟩, p6, ⟨r0, r1, r2, r3, r4, r5⟩, r6, hz1, hz2⟩ := BX.out.facts
  go_wp2_with fail
  refine bodyPost_ret (v := .tuple #[.agg #[.bool na, .int .i64 nf, .bool false, .int .i64 nn, .int .u64 nc, .int .u64 nl], .int .i64 0]) (by simp [results, Try.results11, go_sem, *]) rfl ⟨rfl, ?_⟩
  exact (BX.out.storeC _ _ _ _ _ _).be
set_option maxHeartbeats 2000000 in
theorem rlook_2 (ab : Bool) (fi : Int) (dr : Bool) (ne co la : Int) (na : Bool) (nf : Int) (nn nc nl t i now j b : Int) (hb : Bool) (HH : Hid (highB t j b = hb)) (HC : Hid (noteC ⟨ab, fi, dr, ne, co, la⟩ i now hb = ⟨na, nf, true, nn, nc, nl⟩)) (HP : Hid (mayC ⟨ab, fi, dr, ne, co, la⟩ now hb = true)) (h : nn ≤ now) (c0 : 0 ≤ nc) (c1 : nc ≤ 18446744073709551615) (w : World) (now0 : -9223372036854775808 ≤ now) (now1 : now ≤ 9223372036854775807) (i0 : -9223372036854775808 ≤ i) (i1 : i ≤ 9223372036854775807)  :
    Calls Try.prog 11 #[.agg #[.bool ab, .int .i64 fi, .bool dr, .int .i64 ne, .int .u64 co, .int .u64 la], .int .i64 t, .int .i64 i, .int .i64 now, .int .i64 j, .int .i64 b] w fun e w' => e = .returned (.tuple #[.agg #[.bool na, .int .i64 nf, .bool true, .int .i64 nn, .int .u64 (upC nc), .int .u64 nl], .int .i64 1]) ∧ Below w.heap.size w w' := by
  go_enter Try.func11, Try.ntmps11
  go_upto_region 1 with fail
  refine wp_worldc (fun wx => Bx w wx 30 (w.heap.size + 1) ⟨ab, fi, dr, ne, co, la⟩ ⟨false, 0, false, 0, 0, 0⟩ none) (Bx.made2 _ _ _ _ _ _ _ _ _ _ _ _ _ _) ?_
  rintro wx1 bx
  have BX := Lib.hid bx
  clear bx
  obtain ⟨⟨p0, p1, p2, p3, p4, p5⟩, p6, ⟨r0, r1, r2, r3, r4, r5⟩, r6, hz1, hz2⟩ := BX.out.facts
  go_wp2_with fail
  refine (rnote_any ⟨ab, fi, dr, ne, co, la⟩ _ _ _ _ _ _ HH.out _ now0 now1 i0 i1).mono ?_
  rw [HC.out, HP.out]
  rintro e wx2 ⟨rfl, hb⟩
  have bx := BX.out.below hb
  clear hb
  clear p0 p1 p2 p3 p4 p5 p6 r0 r1 r2 r3 r4 r5 r6 hz1 hz2
  clear BX
  have BX := Lib.hid bx
  clear bx
  obtain ⟨⟨p0, p1, p2, p3, p4, p5⟩, p6, ⟨r0, r1, r2, r3, r4, r5⟩, r6, hz1, hz2⟩ := BX.out.facts
  go_upto_region 2 with fail
  clear p0 p1 p2 p3 p4 p5 p6 r0 r1 r2 r3 r4 r5 r6 hz1 hz2
  refine wp_worldc (fun wx => Bx w wx 30 (w.heap.size + 1) ⟨na, nf, true, nn, nc, nl⟩ ⟨false, 0, false, 0, 0, 0⟩ none) (BX.out.store _ _ _ _ _ _) ?_
  clear BX
  rintro wx3 bx
  have BX := Lib.hid bx
  clear bx
  obtain ⟨⟨p0, p1, p2, p3, p4, p5⟩, p6, ⟨r0, r1, r2, r3, r4, r5⟩, r6, hz1, hz2⟩ := BX.out.facts
  go_upto_region 8 with (go_at_call 25; refine (rmore_any _ _ c0 c1).mono ?_; rintro e wn ⟨rfl, rfl⟩)
  clear p0 p1 p2 p3 p4 p5 p6 r0 r1 r2 r3 r4 r5 r6 hz1 hz2
  refine wp_worldc (fun wx => Bx w wx 30 (w.heap.size + 1) ⟨na, nf, true, nn, upC nc, nl⟩ ⟨false, 0, false, 0, 0, 0⟩ none) (Bx.one BX.out 4 _ rfl) ?_
  clear BX
  rintro wx4 bx
  have BX := Lib.hid bx
  clear bx
  obtain ⟨⟨p0, p1, p2, p3, p4, p5⟩, p6, ⟨r0, r1, r2, r3, r4, r5⟩, r6, hz1, hz2⟩ := BX.out.facts
  go_wp2_with fail
  refine bodyPost_ret (v := .tuple #[.agg #[.bool na, .int .i64 nf, .bool true, .int .i64 nn, .int .u64 (upC nc), .int .u64 nl], .int .i64 1]) (by simp [results, Try.results11, go_sem, *]) rfl ⟨rfl, ?_⟩
  exact (BX.out.storeC _ _ _ _ _ _).be
set_option maxHeartbeats 2000000 in
theorem rlook_3 (ab : Bool) (fi : Int) (dr : Bool) (ne co la : Int) (na : Bool) (nf : Int) (nn nc nl t i now j b : Int) (hb : Bool) (HH : Hid (highB t j b = hb)) (HC : Hid (noteC ⟨ab, fi, dr, ne, co, la⟩ i now hb = ⟨na, nf, true, nn, nc, nl⟩)) (HP : Hid (mayC ⟨ab, fi, dr, ne, co, la⟩ now hb = true)) (h : now < nn) (w : World) (now0 : -9223372036854775808 ≤ now) (now1 : now ≤ 9223372036854775807) (i0 : -9223372036854775808 ≤ i) (i1 : i ≤ 9223372036854775807)  :
    Calls Try.prog 11 #[.agg #[.bool ab, .int .i64 fi, .bool dr, .int .i64 ne, .int .u64 co, .int .u64 la], .int .i64 t, .int .i64 i, .int .i64 now, .int .i64 j, .int .i64 b] w fun e w' => e = .returned (.tuple #[.agg #[.bool na, .int .i64 nf, .bool true, .int .i64 nn, .int .u64 nc, .int .u64 nl], .int .i64 0]) ∧ Below w.heap.size w w' := by
  go_enter Try.func11, Try.ntmps11
  go_upto_region 1 with fail
  refine wp_worldc (fun wx => Bx w wx 30 (w.heap.size + 1) ⟨ab, fi, dr, ne, co, la⟩ ⟨false, 0, false, 0, 0, 0⟩ none) (Bx.made2 _ _ _ _ _ _ _ _ _ _ _ _ _ _) ?_
  rintro wx1 bx
  have BX := Lib.hid bx
  clear bx
  obtain ⟨⟨p0, p1, p2, p3, p4, p5⟩, p6, ⟨r0, r1, r2, r3, r4, r5⟩, r6, hz1, hz2⟩ := BX.out.facts
  go_wp2_with fail
  refine (rnote_any ⟨ab, fi, dr, ne, co, la⟩ _ _ _ _ _ _ HH.out _ now0 now1 i0 i1).mono ?_
  rw [HC.out, HP.out]
  rintro e wx2 ⟨rfl, hb⟩
  have bx := BX.out.below hb
  clear hb
  clear p0 p1 p2 p3 p4 p5 p6 r0 r1 r2 r3 r4 r5 r6 hz1 hz2
  clear BX
  have BX := Lib.hid bx
  clear bx
  obtain ⟨⟨p0, p1, p2, p3, p4, p5⟩, p6, ⟨r0, r1, r2, r3, r4, r5⟩, r6, hz1, hz2⟩ := BX.out.facts
  go_upto_region 2 with fail
  clear p0 p1 p2 p3 p4 p5 p6 r0 r1 r2 r3 r4 r5 r6 hz1 hz2
  refine wp_worldc (fun wx => Bx w wx 30 (w.heap.size + 1) ⟨na, nf, true, nn, nc, nl⟩ ⟨false, 0, false, 0, 0, 0⟩ none) (BX.out.store _ _ _ _ _ _) ?_
  clear BX
  rintro wx3 bx
  have BX := Lib.hid bx
  clear bx
  obtain ⟨⟨p0, p1, p2, p3, p4, p5⟩, p6, ⟨r0, r1, r2, r3, r4, r5⟩, r6, hz1, hz2⟩ := BX.out.facts
  go_wp2_with fail
  refine bodyPost_ret (v := .tuple #[.agg #[.bool na, .int .i64 nf, .bool true, .int .i64 nn, .int .u64 nc, .int .u64 nl], .int .i64 0]) (by simp [results, Try.results11, go_sem, *]) rfl ⟨rfl, ?_⟩
  exact (BX.out.storeC _ _ _ _ _ _).be
set_option maxHeartbeats 2000000 in
theorem rlook_4 (ab : Bool) (fi : Int) (dr : Bool) (ne co la : Int) (na : Bool) (nf : Int) (nn nc nl t i now j b : Int) (hb : Bool) (HH : Hid (highB t j b = hb)) (HC : Hid (noteC ⟨ab, fi, dr, ne, co, la⟩ i now hb = ⟨na, nf, false, nn, nc, nl⟩)) (HP : Hid (mayC ⟨ab, fi, dr, ne, co, la⟩ now hb = false)) (w : World) (now0 : -9223372036854775808 ≤ now) (now1 : now ≤ 9223372036854775807) (i0 : -9223372036854775808 ≤ i) (i1 : i ≤ 9223372036854775807)  :
    Calls Try.prog 11 #[.agg #[.bool ab, .int .i64 fi, .bool dr, .int .i64 ne, .int .u64 co, .int .u64 la], .int .i64 t, .int .i64 i, .int .i64 now, .int .i64 j, .int .i64 b] w fun e w' => e = .returned (.tuple #[.agg #[.bool na, .int .i64 nf, .bool false, .int .i64 nn, .int .u64 nc, .int .u64 nl], .int .i64 0]) ∧ Below w.heap.size w w' := by
  go_enter Try.func11, Try.ntmps11
  go_upto_region 1 with fail
  refine wp_worldc (fun wx => Bx w wx 30 (w.heap.size + 1) ⟨ab, fi, dr, ne, co, la⟩ ⟨false, 0, false, 0, 0, 0⟩ none) (Bx.made2 _ _ _ _ _ _ _ _ _ _ _ _ _ _) ?_
  rintro wx1 bx
  have BX := Lib.hid bx
  clear bx
  obtain ⟨⟨p0, p1, p2, p3, p4, p5⟩, p6, ⟨r0, r1, r2, r3, r4, r5⟩, r6, hz1, hz2⟩ := BX.out.facts
  go_wp2_with fail
  refine (rnote_any ⟨ab, fi, dr, ne, co, la⟩ _ _ _ _ _ _ HH.out _ now0 now1 i0 i1).mono ?_
  rw [HC.out, HP.out]
  rintro e wx2 ⟨rfl, hb⟩
  have bx := BX.out.below hb
  clear hb
  clear p0 p1 p2 p3 p4 p5 p6 r0 r1 r2 r3 r4 r5 r6 hz1 hz2
  clear BX
  have BX := Lib.hid bx
  clear bx
  obtain ⟨⟨p0, p1, p2, p3, p4, p5⟩, p6, ⟨r0, r1, r2, r3, r4, r5⟩, r6, hz1, hz2⟩ := BX.out.facts
  go_upto_region 2 with fail
  clear p0 p1 p2 p3 p4 p5 p6 r0 r1 r2 r3 r4 r5 r6 hz1 hz2
  refine wp_worldc (fun wx => Bx w wx 30 (w.heap.size + 1) ⟨na, nf, false, nn, nc, nl⟩ ⟨false, 0, false, 0, 0, 0⟩ none) (BX.out.store _ _ _ _ _ _) ?_
  clear BX
  rintro wx3 bx
  have BX := Lib.hid bx
  clear bx
  obtain ⟨⟨p0, p1, p2, p3, p4, p5⟩, p6, ⟨r0, r1, r2, r3, r4, r5⟩, r6, hz1, hz2⟩ := BX.out.facts
  go_wp2_with fail
  refine bodyPost_ret (v := .tuple #[.agg #[.bool na, .int .i64 nf, .bool false, .int .i64 nn, .int .u64 nc, .int .u64 nl], .int .i64 0]) (by simp [results, Try.results11, go_sem, *]) rfl ⟨rfl, ?_⟩
  exact (BX.out.storeC _ _ _ _ _ _).be
set_option maxHeartbeats 2000000 in
theorem rlook_5A (ab : Bool) (fi : Int) (dr : Bool) (ne co la : Int) (na : Bool) (nf : Int) (nn nc nl t i now j b : Int) (hb : Bool) (HH : Hid (highB t j b = hb)) (HC : Hid (noteC ⟨ab, fi, dr, ne, co, la⟩ i now hb = ⟨na, nf, false, nn, nc, nl⟩)) (HP : Hid (mayC ⟨ab, fi, dr, ne, co, la⟩ now hb = true)) (d : Int) (rb : Bool) (HD : Hid (IntKind.u64.wrap (nc - nl) = d)) (HR : Hid (decide (sat (now - nn) < sat (16 * i)) = rb)) (n0 : -9223372036854775808 ≤ nn) (n1 : nn ≤ 9223372036854775807) (d0 : 0 ≤ d) (d1 : d ≤ 18446744073709551615) (h : d < 2) (w : World) (now0 : -9223372036854775808 ≤ now) (now1 : now ≤ 9223372036854775807) (i0 : -9223372036854775808 ≤ i) (i1 : i ≤ 9223372036854775807)  :
    Calls Try.prog 11 #[.agg #[.bool ab, .int .i64 fi, .bool dr, .int .i64 ne, .int .u64 co, .int .u64 la], .int .i64 t, .int .i64 i, .int .i64 now, .int .i64 j, .int .i64 b] w fun e w' => e = .returned (.tuple #[.agg #[.bool na, .int .i64 nf, .bool true, .int .i64 (sat (now + lawZ i 1)), .int .u64 1, .int .u64 1], .int .i64 2]) ∧ Below w.heap.size w w' := by
  have hd := HD.out
  have hr := HR.out
  have lz0 := lawZ_0 i 1
  have lz1 := lawZ_1 i 1 i1
  go_enter Try.func11, Try.ntmps11
  go_upto_region 1 with fail
  refine wp_worldc (fun wx => Bx w wx 30 (w.heap.size + 1) ⟨ab, fi, dr, ne, co, la⟩ ⟨false, 0, false, 0, 0, 0⟩ none) (Bx.made2 _ _ _ _ _ _ _ _ _ _ _ _ _ _) ?_
  rintro wx1 bx
  have BX := Lib.hid bx
  clear bx
  obtain ⟨⟨p0, p1, p2, p3, p4, p5⟩, p6, ⟨r0, r1, r2, r3, r4, r5⟩, r6, hz1, hz2⟩ := BX.out.facts
  go_wp2_with fail
  refine (rnote_any ⟨ab, fi, dr, ne, co, la⟩ _ _ _ _ _ _ HH.out _ now0 now1 i0 i1).mono ?_
  rw [HC.out, HP.out]
  rintro e wx2 ⟨rfl, hb⟩
  have bx := BX.out.below hb
  clear hb
  clear p0 p1 p2 p3 p4 p5 p6 r0 r1 r2 r3 r4 r5 r6 hz1 hz2
  clear BX
  have BX := Lib.hid bx
  clear bx
  obtain ⟨⟨p0, p1, p2, p3, p4, p5⟩, p6, ⟨r0, r1, r2, r3, r4, r5⟩, r6, hz1, hz2⟩ := BX.out.facts
  go_upto_region 2 with fail
  clear p0 p1 p2 p3 p4 p5 p6 r0 r1 r2 r3 r4 r5 r6 hz1 hz2
  refine wp_worldc (fun wx => Bx w wx 30 (w.heap.size + 1) ⟨na, nf, false, nn, nc, nl⟩ ⟨false, 0, false, 0, 0, 0⟩ none) (BX.out.store _ _ _ _ _ _) ?_
  clear BX
  rintro wx3 bx
  have BX := Lib.hid bx
  clear bx
  obtain ⟨⟨p0, p1, p2, p3, p4, p5⟩, p6, ⟨r0, r1, r2, r3, r4, r5⟩, r6, hz1, hz2⟩ := BX.out.facts
  go_upto_region 13 with fail
  clear p0 p1 p2 p3 p4 p5 p6 r0 r1 r2 r3 r4 r5 r6 hz1 hz2
  refine wp_worldc (fun wx => Bx w wx 30 (w.heap.size + 1) ⟨na, nf, true, nn, nc, nl⟩ ⟨false, 0, false, 0, 0, 0⟩ none) (Bx.one BX.out 2 _ rfl) ?_
  clear BX
  rintro wx4 bx
  have BX := Lib.hid bx
  clear bx
  obtain ⟨⟨p0, p1, p2, p3, p4, p5⟩, p6, ⟨r0, r1, r2, r3, r4, r5⟩, r6, hz1, hz2⟩ := BX.out.facts
  go_upto_region 15 with fail
  clear p0 p1 p2 p3 p4 p5 p6 r0 r1 r2 r3 r4 r5 r6 hz1 hz2
  refine wp_worldc (fun wx => Bx w wx 30 (w.heap.size + 1) ⟨na, nf, true, nn, 1, nl⟩ ⟨false, 0, false, 0, 0, 0⟩ none) (Bx.one BX.out 4 _ rfl) ?_
  clear BX
  rintro wx5 bx
  have BX := Lib.hid bx
  clear bx
  obtain ⟨⟨p0, p1, p2, p3, p4, p5⟩, p6, ⟨r0, r1, r2, r3, r4, r5⟩, r6, hz1, hz2⟩ := BX.out.facts
  go_wp2_with fail
  refine (rrlaw_z _ _ _ i1 (by omega) (by omega)).mono ?_
  rintro e wx6 ⟨rfl, hb⟩
  have bx := BX.out.below hb
  clear hb
  clear p0 p1 p2 p3 p4 p5 p6 r0 r1 r2 r3 r4 r5 r6 hz1 hz2
  clear BX
  have BX := Lib.hid bx
  clear bx
  obtain ⟨⟨p0, p1, p2, p3, p4, p5⟩, p6, ⟨r0, r1, r2, r3, r4, r5⟩, r6, hz1, hz2⟩ := BX.out.facts
  go_wp2_with fail
  refine (radd02_any _ _ _ now0 now1 (by omega) (by omega)).mono ?_
  rintro e wx7 ⟨rfl, hb⟩
  have bx := BX.out.below hb
  clear hb
  clear p0 p1 p2 p3 p4 p5 p6 r0 r1 r2 r3 r4 r5 r6 hz1 hz2
  clear BX
  have BX := Lib.hid bx
  clear bx
  obtain ⟨⟨p0, p1, p2, p3, p4, p5⟩, p6, ⟨r0, r1, r2, r3, r4, r5⟩, r6, hz1, hz2⟩ := BX.out.facts
  go_upto_region 18 with fail
  clear p0 p1 p2 p3 p4 p5 p6 r0 r1 r2 r3 r4 r5 r6 hz1 hz2
  refine wp_worldc (fun wx => Bx w wx 30 (w.heap.size + 1) ⟨na, nf, true, sat (now + lawZ i 1), 1, nl⟩ ⟨false, 0, false, 0, 0, 0⟩ none) (Bx.one BX.out 3 _ rfl) ?_
  clear BX
  rintro wx8 bx
  have BX := Lib.hid bx
  clear bx
  obtain ⟨⟨p0, p1, p2, p3, p4, p5⟩, p6, ⟨r0, r1, r2, r3, r4, r5⟩, r6, hz1, hz2⟩ := BX.out.facts
  go_upto_region 19 with fail
  clear p0 p1 p2 p3 p4 p5 p6 r0 r1 r2 r3 r4 r5 r6 hz1 hz2
  refine wp_worldc (fun wx => Bx w wx 30 (w.heap.size + 1) ⟨na, nf, true, sat (now + lawZ i 1), 1, 1⟩ ⟨false, 0, false, 0, 0, 0⟩ none) (Bx.one BX.out 5 _ rfl) ?_
  clear BX
  rintro wx9 bx
  have BX := Lib.hid bx
  clear bx
  obtain ⟨⟨p0, p1, p2, p3, p4, p5⟩, p6, ⟨r0, r1, r2, r3, r4, r5⟩, r6, hz1, hz2⟩ := BX.out.facts
  go_wp2_with fail
  refine bodyPost_ret (v := .tuple #[.agg #[.bool na, .int .i64 nf, .bool true, .int .i64 (sat (now + lawZ i 1)), .int .u64 1, .int .u64 1], .int .i64 2]) (by simp [results, Try.results11, go_sem, *]) rfl ⟨rfl, ?_⟩
  exact (BX.out.storeC _ _ _ _ _ _).be
set_option maxHeartbeats 2000000 in
theorem rlook_5B (ab : Bool) (fi : Int) (dr : Bool) (ne co la : Int) (na : Bool) (nf : Int) (nn nc nl t i now j b : Int) (hb : Bool) (HH : Hid (highB t j b = hb)) (HC : Hid (noteC ⟨ab, fi, dr, ne, co, la⟩ i now hb = ⟨na, nf, false, nn, nc, nl⟩)) (HP : Hid (mayC ⟨ab, fi, dr, ne, co, la⟩ now hb = true)) (d : Int) (rb : Bool) (HD : Hid (IntKind.u64.wrap (nc - nl) = d)) (HR : Hid (decide (sat (now - nn) < sat (16 * i)) = rb)) (n0 : -9223372036854775808 ≤ nn) (n1 : nn ≤ 9223372036854775807) (d0 : 0 ≤ d) (d1 : d ≤ 18446744073709551615) (h : 2 ≤ d) (h2 : 9223372036854775808 < d) (w : World) (now0 : -9223372036854775808 ≤ now) (now1 : now ≤ 9223372036854775807) (i0 : -9223372036854775808 ≤ i) (i1 : i ≤ 9223372036854775807)  :
    Calls Try.prog 11 #[.agg #[.bool ab, .int .i64 fi, .bool dr, .int .i64 ne, .int .u64 co, .int .u64 la], .int .i64 t, .int .i64 i, .int .i64 now, .int .i64 j, .int .i64 b] w fun e w' => e = .returned (.tuple #[.agg #[.bool na, .int .i64 nf, .bool true, .int .i64 (sat (now + lawZ i 1)), .int .u64 1, .int .u64 1], .int .i64 2]) ∧ Below w.heap.size w w' := by
  have hd := HD.out
  have hr := HR.out
  have lz0 := lawZ_0 i 1
  have lz1 := lawZ_1 i 1 i1
  go_enter Try.func11, Try.ntmps11
  go_upto_region 1 with fail
  refine wp_worldc (fun wx => Bx w wx 30 (w.heap.size + 1) ⟨ab, fi, dr, ne, co, la⟩ ⟨false, 0, false, 0, 0, 0⟩ none) (Bx.made2 _ _ _ _ _ _ _ _ _ _ _ _ _ _) ?_
  rintro wx1 bx
  have BX := Lib.hid bx
  clear bx
  obtain ⟨⟨p0, p1, p2, p3, p4, p5⟩, p6, ⟨r0, r1, r2, r3, r4, r5⟩, r6, hz1, hz2⟩ := BX.out.facts
  go_wp2_with fail
  refine (rnote_any ⟨ab, fi, dr, ne, co, la⟩ _ _ _ _ _ _ HH.out _ now0 now1 i0 i1).mono ?_
  rw [HC.out, HP.out]
  rintro e wx2 ⟨rfl, hb⟩
  have bx := BX.out.below hb
  clear hb
  clear p0 p1 p2 p3 p4 p5 p6 r0 r1 r2 r3 r4 r5 r6 hz1 hz2
  clear BX
  have BX := Lib.hid bx
  clear bx
  obtain ⟨⟨p0, p1, p2, p3, p4, p5⟩, p6, ⟨r0, r1, r2, r3, r4, r5⟩, r6, hz1, hz2⟩ := BX.out.facts
  go_upto_region 2 with fail
  clear p0 p1 p2 p3 p4 p5 p6 r0 r1 r2 r3 r4 r5 r6 hz1 hz2
  refine wp_worldc (fun wx => Bx w wx 30 (w.heap.size + 1) ⟨na, nf, false, nn, nc, nl⟩ ⟨false, 0, false, 0, 0, 0⟩ none) (BX.out.store _ _ _ _ _ _) ?_
  clear BX
  rintro wx3 bx
  have BX := Lib.hid bx
  clear bx
  obtain ⟨⟨p0, p1, p2, p3, p4, p5⟩, p6, ⟨r0, r1, r2, r3, r4, r5⟩, r6, hz1, hz2⟩ := BX.out.facts
  go_upto_region 13 with fail
  clear p0 p1 p2 p3 p4 p5 p6 r0 r1 r2 r3 r4 r5 r6 hz1 hz2
  refine wp_worldc (fun wx => Bx w wx 30 (w.heap.size + 1) ⟨na, nf, true, nn, nc, nl⟩ ⟨false, 0, false, 0, 0, 0⟩ none) (Bx.one BX.out 2 _ rfl) ?_
  clear BX
  rintro wx4 bx
  have BX := Lib.hid bx
  clear bx
  obtain ⟨⟨p0, p1, p2, p3, p4, p5⟩, p6, ⟨r0, r1, r2, r3, r4, r5⟩, r6, hz1, hz2⟩ := BX.out.facts
  go_upto_region 15 with fail
  clear p0 p1 p2 p3 p4 p5 p6 r0 r1 r2 r3 r4 r5 r6 hz1 hz2
  refine wp_worldc (fun wx => Bx w wx 30 (w.heap.size + 1) ⟨na, nf, true, nn, 1, nl⟩ ⟨false, 0, false, 0, 0, 0⟩ none) (Bx.one BX.out 4 _ rfl) ?_
  clear BX
  rintro wx5 bx
  have BX := Lib.hid bx
  clear bx
  obtain ⟨⟨p0, p1, p2, p3, p4, p5⟩, p6, ⟨r0, r1, r2, r3, r4, r5⟩, r6, hz1, hz2⟩ := BX.out.facts
  go_wp2_with fail
  refine (rrlaw_z _ _ _ i1 (by omega) (by omega)).mono ?_
  rintro e wx6 ⟨rfl, hb⟩
  have bx := BX.out.below hb
  clear hb
  clear p0 p1 p2 p3 p4 p5 p6 r0 r1 r2 r3 r4 r5 r6 hz1 hz2
  clear BX
  have BX := Lib.hid bx
  clear bx
  obtain ⟨⟨p0, p1, p2, p3, p4, p5⟩, p6, ⟨r0, r1, r2, r3, r4, r5⟩, r6, hz1, hz2⟩ := BX.out.facts
  go_wp2_with fail
  refine (radd02_any _ _ _ now0 now1 (by omega) (by omega)).mono ?_
  rintro e wx7 ⟨rfl, hb⟩
  have bx := BX.out.below hb
  clear hb
  clear p0 p1 p2 p3 p4 p5 p6 r0 r1 r2 r3 r4 r5 r6 hz1 hz2
  clear BX
  have BX := Lib.hid bx
  clear bx
  obtain ⟨⟨p0, p1, p2, p3, p4, p5⟩, p6, ⟨r0, r1, r2, r3, r4, r5⟩, r6, hz1, hz2⟩ := BX.out.facts
  go_upto_region 18 with fail
  clear p0 p1 p2 p3 p4 p5 p6 r0 r1 r2 r3 r4 r5 r6 hz1 hz2
  refine wp_worldc (fun wx => Bx w wx 30 (w.heap.size + 1) ⟨na, nf, true, sat (now + lawZ i 1), 1, nl⟩ ⟨false, 0, false, 0, 0, 0⟩ none) (Bx.one BX.out 3 _ rfl) ?_
  clear BX
  rintro wx8 bx
  have BX := Lib.hid bx
  clear bx
  obtain ⟨⟨p0, p1, p2, p3, p4, p5⟩, p6, ⟨r0, r1, r2, r3, r4, r5⟩, r6, hz1, hz2⟩ := BX.out.facts
  go_upto_region 19 with fail
  clear p0 p1 p2 p3 p4 p5 p6 r0 r1 r2 r3 r4 r5 r6 hz1 hz2
  refine wp_worldc (fun wx => Bx w wx 30 (w.heap.size + 1) ⟨na, nf, true, sat (now + lawZ i 1), 1, 1⟩ ⟨false, 0, false, 0, 0, 0⟩ none) (Bx.one BX.out 5 _ rfl) ?_
  clear BX
  rintro wx9 bx
  have BX := Lib.hid bx
  clear bx
  obtain ⟨⟨p0, p1, p2, p3, p4, p5⟩, p6, ⟨r0, r1, r2, r3, r4, r5⟩, r6, hz1, hz2⟩ := BX.out.facts
  go_wp2_with fail
  refine bodyPost_ret (v := .tuple #[.agg #[.bool na, .int .i64 nf, .bool true, .int .i64 (sat (now + lawZ i 1)), .int .u64 1, .int .u64 1], .int .i64 2]) (by simp [results, Try.results11, go_sem, *]) rfl ⟨rfl, ?_⟩
  exact (BX.out.storeC _ _ _ _ _ _).be
set_option maxHeartbeats 2000000 in
theorem rlook_5C (ab : Bool) (fi : Int) (dr : Bool) (ne co la : Int) (na : Bool) (nf : Int) (nn nc nl t i now j b : Int) (hb : Bool) (HH : Hid (highB t j b = hb)) (HC : Hid (noteC ⟨ab, fi, dr, ne, co, la⟩ i now hb = ⟨na, nf, false, nn, nc, nl⟩)) (HP : Hid (mayC ⟨ab, fi, dr, ne, co, la⟩ now hb = true)) (d : Int) (rb : Bool) (HD : Hid (IntKind.u64.wrap (nc - nl) = d)) (HR : Hid (decide (sat (now - nn) < sat (16 * i)) = rb)) (n0 : -9223372036854775808 ≤ nn) (n1 : nn ≤ 9223372036854775807) (d0 : 0 ≤ d) (d1 : d ≤ 18446744073709551615) (h : 2 ≤ d) (h2 : d ≤ 9223372036854775808) (hr : rb = false) (w : World) (now0 : -9223372036854775808 ≤ now) (now1 : now ≤ 9223372036854775807) (i0 : -9223372036854775808 ≤ i) (i1 : i ≤ 9223372036854775807)  :
    Calls Try.prog 11 #[.agg #[.bool ab, .int .i64 fi, .bool dr, .int .i64 ne, .int .u64 co, .int .u64 la], .int .i64 t, .int .i64 i, .int .i64 now, .int .i64 j, .int .i64 b] w fun e w' => e = .returned (.tuple #[.agg #[.bool na, .int .i64 nf, .bool true, .int .i64 (sat (now + lawZ i 1)), .int .u64 1, .int .u64 1], .int .i64 2]) ∧ Below w.heap.size w w' := by
  subst hr
  have hd := HD.out
  have hr := HR.out
  have lz0 := lawZ_0 i 1
  have lz1 := lawZ_1 i 1 i1
  go_enter Try.func11, Try.ntmps11
  go_upto_region 1 with fail
  refine wp_worldc (fun wx => Bx w wx 30 (w.heap.size + 1) ⟨ab, fi, dr, ne, co, la⟩ ⟨false, 0, false, 0, 0, 0⟩ none) (Bx.made2 _ _ _ _ _ _ _ _ _ _ _ _ _ _) ?_
  rintro wx1 bx
  have BX := Lib.hid bx
  clear bx
  obtain ⟨⟨p0, p1, p2, p3, p4, p5⟩, p6, ⟨r0, r1, r2, r3, r4, r5⟩, r6, hz1, hz2⟩ := BX.out.facts
  go_wp2_with fail
  refine (rnote_any ⟨ab, fi, dr, ne, co, la⟩ _ _ _ _ _ _ HH.out _ now0 now1 i0 i1).mono ?_
  rw [HC.out, HP.out]
  rintro e wx2 ⟨rfl, hb⟩
  have bx := BX.out.below hb
  clear hb
  clear p0 p1 p2 p3 p4 p5 p6 r0 r1 r2 r3 r4 r5 r6 hz1 hz2
  clear BX
  have BX := Lib.hid bx
  clear bx
  obtain ⟨⟨p0, p1, p2, p3, p4, p5⟩, p6, ⟨r0, r1, r2, r3, r4, r5⟩, r6, hz1, hz2⟩ := BX.out.facts
  go_upto_region 2 with fail
  clear p0 p1 p2 p3 p4 p5 p6 r0 r1 r2 r3 r4 r5 r6 hz1 hz2
  refine wp_worldc (fun wx => Bx w wx 30 (w.heap.size + 1) ⟨na, nf, false, nn, nc, nl⟩ ⟨false, 0, false, 0, 0, 0⟩ none) (BX.out.store _ _ _ _ _ _) ?_
  clear BX
  rintro wx3 bx
  have BX := Lib.hid bx
  clear bx
  obtain ⟨⟨p0, p1, p2, p3, p4, p5⟩, p6, ⟨r0, r1, r2, r3, r4, r5⟩, r6, hz1, hz2⟩ := BX.out.facts
  go_upto_region 13 with fail
  clear p0 p1 p2 p3 p4 p5 p6 r0 r1 r2 r3 r4 r5 r6 hz1 hz2
  refine wp_worldc (fun wx => Bx w wx 30 (w.heap.size + 1) ⟨na, nf, true, nn, nc, nl⟩ ⟨false, 0, false, 0, 0, 0⟩ none) (Bx.one BX.out 2 _ rfl) ?_
  clear BX
  rintro wx4 bx
  have BX := Lib.hid bx
  clear bx
  obtain ⟨⟨p0, p1, p2, p3, p4, p5⟩, p6, ⟨r0, r1, r2, r3, r4, r5⟩, r6, hz1, hz2⟩ := BX.out.facts
  go_upto_region 15 with fail
  clear p0 p1 p2 p3 p4 p5 p6 r0 r1 r2 r3 r4 r5 r6 hz1 hz2
  refine wp_worldc (fun wx => Bx w wx 30 (w.heap.size + 1) ⟨na, nf, true, nn, 1, nl⟩ ⟨false, 0, false, 0, 0, 0⟩ none) (Bx.one BX.out 4 _ rfl) ?_
  clear BX
  rintro wx5 bx
  have BX := Lib.hid bx
  clear bx
  obtain ⟨⟨p0, p1, p2, p3, p4, p5⟩, p6, ⟨r0, r1, r2, r3, r4, r5⟩, r6, hz1, hz2⟩ := BX.out.facts
  go_wp2_with fail
  refine (rsub02_any _ _ _ now0 now1 n0 n1).mono ?_
  rintro e wx6 ⟨rfl, hb⟩
  have bx := BX.out.below hb
  clear hb
  clear p0 p1 p2 p3 p4 p5 p6 r0 r1 r2 r3 r4 r5 r6 hz1 hz2
  clear BX
  have BX := Lib.hid bx
  clear bx
  obtain ⟨⟨p0, p1, p2, p3, p4, p5⟩, p6, ⟨r0, r1, r2, r3, r4, r5⟩, r6, hz1, hz2⟩ := BX.out.facts
  go_wp2_with fail
  refine (rmul02_any _ _ _ (by omega) (by omega) (by omega) (by omega)).mono ?_
  rintro e wx7 ⟨rfl, hb⟩
  have bx := BX.out.below hb
  clear hb
  clear p0 p1 p2 p3 p4 p5 p6 r0 r1 r2 r3 r4 r5 r6 hz1 hz2
  clear BX
  have BX := Lib.hid bx
  clear bx
  obtain ⟨⟨p0, p1, p2, p3, p4, p5⟩, p6, ⟨r0, r1, r2, r3, r4, r5⟩, r6, hz1, hz2⟩ := BX.out.facts
  go_wp2_with fail
  refine (rrlaw_z _ _ _ i1 (by omega) (by omega)).mono ?_
  rintro e wx8 ⟨rfl, hb⟩
  have bx := BX.out.below hb
  clear hb
  clear p0 p1 p2 p3 p4 p5 p6 r0 r1 r2 r3 r4 r5 r6 hz1 hz2
  clear BX
  have BX := Lib.hid bx
  clear bx
  obtain ⟨⟨p0, p1, p2, p3, p4, p5⟩, p6, ⟨r0, r1, r2, r3, r4, r5⟩, r6, hz1, hz2⟩ := BX.out.facts
  go_wp2_with fail
  refine (radd02_any _ _ _ now0 now1 (by omega) (by omega)).mono ?_
  rintro e wx9 ⟨rfl, hb⟩
  have bx := BX.out.below hb
  clear hb
  clear p0 p1 p2 p3 p4 p5 p6 r0 r1 r2 r3 r4 r5 r6 hz1 hz2
  clear BX
  have BX := Lib.hid bx
  clear bx
  obtain ⟨⟨p0, p1, p2, p3, p4, p5⟩, p6, ⟨r0, r1, r2, r3, r4, r5⟩, r6, hz1, hz2⟩ := BX.out.facts
  go_upto_region 18 with fail
  clear p0 p1 p2 p3 p4 p5 p6 r0 r1 r2 r3 r4 r5 r6 hz1 hz2
  refine wp_worldc (fun wx => Bx w wx 30 (w.heap.size + 1) ⟨na, nf, true, sat (now + lawZ i 1), 1, nl⟩ ⟨false, 0, false, 0, 0, 0⟩ none) (Bx.one BX.out 3 _ rfl) ?_
  clear BX
  rintro wx10 bx
  have BX := Lib.hid bx
  clear bx
  obtain ⟨⟨p0, p1, p2, p3, p4, p5⟩, p6, ⟨r0, r1, r2, r3, r4, r5⟩, r6, hz1, hz2⟩ := BX.out.facts
  go_upto_region 19 with fail
  clear p0 p1 p2 p3 p4 p5 p6 r0 r1 r2 r3 r4 r5 r6 hz1 hz2
  refine wp_worldc (fun wx => Bx w wx 30 (w.heap.size + 1) ⟨na, nf, true, sat (now + lawZ i 1), 1, 1⟩ ⟨false, 0, false, 0, 0, 0⟩ none) (Bx.one BX.out 5 _ rfl) ?_
  clear BX
  rintro wx11 bx
  have BX := Lib.hid bx
  clear bx
  obtain ⟨⟨p0, p1, p2, p3, p4, p5⟩, p6, ⟨r0, r1, r2, r3, r4, r5⟩, r6, hz1, hz2⟩ := BX.out.facts
  go_wp2_with fail
  refine bodyPost_ret (v := .tuple #[.agg #[.bool na, .int .i64 nf, .bool true, .int .i64 (sat (now + lawZ i 1)), .int .u64 1, .int .u64 1], .int .i64 2]) (by simp [results, Try.results11, go_sem, *]) rfl ⟨rfl, ?_⟩
  exact (BX.out.storeC _ _ _ _ _ _).be
set_option maxHeartbeats 2000000 in
theorem rlook_5D (ab : Bool) (fi : Int) (dr : Bool) (ne co la : Int) (na : Bool) (nf : Int) (nn nc nl t i now j b : Int) (hb : Bool) (HH : Hid (highB t j b = hb)) (HC : Hid (noteC ⟨ab, fi, dr, ne, co, la⟩ i now hb = ⟨na, nf, false, nn, nc, nl⟩)) (HP : Hid (mayC ⟨ab, fi, dr, ne, co, la⟩ now hb = true)) (d : Int) (rb : Bool) (HD : Hid (IntKind.u64.wrap (nc - nl) = d)) (HR : Hid (decide (sat (now - nn) < sat (16 * i)) = rb)) (n0 : -9223372036854775808 ≤ nn) (n1 : nn ≤ 9223372036854775807) (d0 : 0 ≤ d) (d1 : d ≤ 18446744073709551615) (h : 2 ≤ d) (h2 : d ≤ 9223372036854775808) (hr : rb = true) (w : World) (now0 : -9223372036854775808 ≤ now) (now1 : now ≤ 9223372036854775807) (i0 : -9223372036854775808 ≤ i) (i1 : i ≤ 9223372036854775807)  :
    Calls Try.prog 11 #[.agg #[.bool ab, .int .i64 fi, .bool dr, .int .i64 ne, .int .u64 co, .int .u64 la], .int .i64 t, .int .i64 i, .int .i64 now, .int .i64 j, .int .i64 b] w fun e w' => e = .returned (.tuple #[.agg #[.bool na, .int .i64 nf, .bool true, .int .i64 (sat (now + lawZ i d)), .int .u64 d, .int .u64 d], .int .i64 2]) ∧ Below w.heap.size w w' := by
  subst hr
  have hd := HD.out
  have hr := HR.out
  have lz0 := lawZ_0 i d
  have lz1 := lawZ_1 i d i1
  go_enter Try.func11, Try.ntmps11
  go_upto_region 1 with fail
  refine wp_worldc (fun wx => Bx w wx 30 (w.heap.size + 1) ⟨ab, fi, dr, ne, co, la⟩ ⟨false, 0, false, 0, 0, 0⟩ none) (Bx.made2 _ _ _ _ _ _ _ _ _ _ _ _ _ _) ?_
  rintro wx1 bx
  have BX := Lib.hid bx
  clear bx
  obtain ⟨⟨p0, p1, p2, p3, p4, p5⟩, p6, ⟨r0, r1, r2, r3, r4, r5⟩, r6, hz1, hz2⟩ := BX.out.facts
  go_wp2_with fail
  refine (rnote_any ⟨ab, fi, dr, ne, co, la⟩ _ _ _ _ _ _ HH.out _ now0 now1 i0 i1).mono ?_
  rw [HC.out, HP.out]
  rintro e wx2 ⟨rfl, hb⟩
  have bx := BX.out.below hb
  clear hb
  clear p0 p1 p2 p3 p4 p5 p6 r0 r1 r2 r3 r4 r5 r6 hz1 hz2
  clear BX
  have BX := Lib.hid bx
  clear bx
  obtain ⟨⟨p0, p1, p2, p3, p4, p5⟩, p6, ⟨r0, r1, r2, r3, r4, r5⟩, r6, hz1, hz2⟩ := BX.out.facts
  go_upto_region 2 with fail
  clear p0 p1 p2 p3 p4 p5 p6 r0 r1 r2 r3 r4 r5 r6 hz1 hz2
  refine wp_worldc (fun wx => Bx w wx 30 (w.heap.size + 1) ⟨na, nf, false, nn, nc, nl⟩ ⟨false, 0, false, 0, 0, 0⟩ none) (BX.out.store _ _ _ _ _ _) ?_
  clear BX
  rintro wx3 bx
  have BX := Lib.hid bx
  clear bx
  obtain ⟨⟨p0, p1, p2, p3, p4, p5⟩, p6, ⟨r0, r1, r2, r3, r4, r5⟩, r6, hz1, hz2⟩ := BX.out.facts
  go_upto_region 13 with fail
  clear p0 p1 p2 p3 p4 p5 p6 r0 r1 r2 r3 r4 r5 r6 hz1 hz2
  refine wp_worldc (fun wx => Bx w wx 30 (w.heap.size + 1) ⟨na, nf, true, nn, nc, nl⟩ ⟨false, 0, false, 0, 0, 0⟩ none) (Bx.one BX.out 2 _ rfl) ?_
  clear BX
  rintro wx4 bx
  have BX := Lib.hid bx
  clear bx
  obtain ⟨⟨p0, p1, p2, p3, p4, p5⟩, p6, ⟨r0, r1, r2, r3, r4, r5⟩, r6, hz1, hz2⟩ := BX.out.facts
  go_upto_region 15 with fail
  clear p0 p1 p2 p3 p4 p5 p6 r0 r1 r2 r3 r4 r5 r6 hz1 hz2
  refine wp_worldc (fun wx => Bx w wx 30 (w.heap.size + 1) ⟨na, nf, true, nn, 1, nl⟩ ⟨false, 0, false, 0, 0, 0⟩ none) (Bx.one BX.out 4 _ rfl) ?_
  clear BX
  rintro wx5 bx
  have BX := Lib.hid bx
  clear bx
  obtain ⟨⟨p0, p1, p2, p3, p4, p5⟩, p6, ⟨r0, r1, r2, r3, r4, r5⟩, r6, hz1, hz2⟩ := BX.out.facts
  go_wp2_with fail
  refine (rsub02_any _ _ _ now0 now1 n0 n1).mono ?_
  rintro e wx6 ⟨rfl, hb⟩
  have bx := BX.out.below hb
  clear hb
  clear p0 p1 p2 p3 p4 p5 p6 r0 r1 r2 r3 r4 r5 r6 hz1 hz2
  clear BX
  have BX := Lib.hid bx
  clear bx
  obtain ⟨⟨p0, p1, p2, p3, p4, p5⟩, p6, ⟨r0, r1, r2, r3, r4, r5⟩, r6, hz1, hz2⟩ := BX.out.facts
  go_wp2_with fail
  refine (rmul02_any _ _ _ (by omega) (by omega) (by omega) (by omega)).mono ?_
  rintro e wx7 ⟨rfl, hb⟩
  have bx := BX.out.below hb
  clear hb
  clear p0 p1 p2 p3 p4 p5 p6 r0 r1 r2 r3 r4 r5 r6 hz1 hz2
  clear BX
  have BX := Lib.hid bx
  clear bx
  obtain ⟨⟨p0, p1, p2, p3, p4, p5⟩, p6, ⟨r0, r1, r2, r3, r4, r5⟩, r6, hz1, hz2⟩ := BX.out.facts
  go_upto_region 16 with fail
  go_upto_region 17 with fail
  clear p0 p1 p2 p3 p4 p5 p6 r0 r1 r2 r3 r4 r5 r6 hz1 hz2
  refine wp_worldc (fun wx => Bx w wx 30 (w.heap.size + 1) ⟨na, nf, true, nn, d, nl⟩ ⟨false, 0, false, 0, 0, 0⟩ none) (Bx.one BX.out 4 _ rfl) ?_
  clear BX
  rintro wx8 bx
  have BX := Lib.hid bx
  clear bx
  obtain ⟨⟨p0, p1, p2, p3, p4, p5⟩, p6, ⟨r0, r1, r2, r3, r4, r5⟩, r6, hz1, hz2⟩ := BX.out.facts
  go_wp2_with fail
  refine (rrlaw_z _ _ _ i1 (by omega) (by omega)).mono ?_
  rintro e wx9 ⟨rfl, hb⟩
  have bx := BX.out.below hb
  clear hb
  clear p0 p1 p2 p3 p4 p5 p6 r0 r1 r2 r3 r4 r5 r6 hz1 hz2
  clear BX
  have BX := Lib.hid bx
  clear bx
  obtain ⟨⟨p0, p1, p2, p3, p4, p5⟩, p6, ⟨r0, r1, r2, r3, r4, r5⟩, r6, hz1, hz2⟩ := BX.out.facts
  go_wp2_with fail
  refine (radd02_any _ _ _ now0 now1 (by omega) (by omega)).mono ?_
  rintro e wx10 ⟨rfl, hb⟩
  have bx := BX.out.below hb
  clear hb
  clear p0 p1 p2 p3 p4 p5 p6 r0 r1 r2 r3 r4 r5 r6 hz1 hz2
  clear BX
  have BX := Lib.hid bx
  clear bx
  obtain ⟨⟨p0, p1, p2, p3, p4, p5⟩, p6, ⟨r0, r1, r2, r3, r4, r5⟩, r6, hz1, hz2⟩ := BX.out.facts
  go_upto_region 18 with fail
  clear p0 p1 p2 p3 p4 p5 p6 r0 r1 r2 r3 r4 r5 r6 hz1 hz2
  refine wp_worldc (fun wx => Bx w wx 30 (w.heap.size + 1) ⟨na, nf, true, sat (now + lawZ i d), d, nl⟩ ⟨false, 0, false, 0, 0, 0⟩ none) (Bx.one BX.out 3 _ rfl) ?_
  clear BX
  rintro wx11 bx
  have BX := Lib.hid bx
  clear bx
  obtain ⟨⟨p0, p1, p2, p3, p4, p5⟩, p6, ⟨r0, r1, r2, r3, r4, r5⟩, r6, hz1, hz2⟩ := BX.out.facts
  go_upto_region 19 with fail
  clear p0 p1 p2 p3 p4 p5 p6 r0 r1 r2 r3 r4 r5 r6 hz1 hz2
  refine wp_worldc (fun wx => Bx w wx 30 (w.heap.size + 1) ⟨na, nf, true, sat (now + lawZ i d), d, d⟩ ⟨false, 0, false, 0, 0, 0⟩ none) (Bx.one BX.out 5 _ rfl) ?_
  clear BX
  rintro wx12 bx
  have BX := Lib.hid bx
  clear bx
  obtain ⟨⟨p0, p1, p2, p3, p4, p5⟩, p6, ⟨r0, r1, r2, r3, r4, r5⟩, r6, hz1, hz2⟩ := BX.out.facts
  go_wp2_with fail
  refine bodyPost_ret (v := .tuple #[.agg #[.bool na, .int .i64 nf, .bool true, .int .i64 (sat (now + lawZ i d)), .int .u64 d, .int .u64 d], .int .i64 2]) (by simp [results, Try.results11, go_sem, *]) rfl ⟨rfl, ?_⟩
  exact (BX.out.storeC _ _ _ _ _ _).be
set_option maxHeartbeats 2000000 in
theorem rmor_1 (ab : Bool) (fi : Int) (dr : Bool) (ne co la : Int) (na : Bool) (nf : Int) (nn nc nl t i now j b : Int) (nd hb : Bool) (HH : Hid (highB t j b = hb)) (HC : Hid (noteC ⟨ab, fi, dr, ne, co, la⟩ i now hb = ⟨na, nf, nd, nn, nc, nl⟩)) (HP : Hid (mayC ⟨ab, fi, dr, ne, co, la⟩ now hb = false)) (w : World) (now0 : -9223372036854775808 ≤ now) (now1 : now ≤ 9223372036854775807) (i0 : -9223372036854775808 ≤ i) (i1 : i ≤ 9223372036854775807)  :
    Calls Try.prog 14 #[.agg #[.bool ab, .int .i64 fi, .bool dr, .int .i64 ne, .int .u64 co, .int .u64 la], .int .i64 t, .int .i64 i, .int .i64 now, .int .i64 j, .int .i64 b] w fun e w' => e = .returned (.tuple #[.agg #[.bool na, .int .i64 nf, .bool false, .int .i64 nn, .int .u64 nc, .int .u64 nl], .int .i64 0]) ∧ Below w.heap.size w w' := by
  go_enter Try.func14, Try.ntmps14
  go_upto_region 1 with fail
  refine wp_worldc (fun wx => Bx w wx 30 (w.heap.size + 1) ⟨ab, fi, dr, ne, co, la⟩ ⟨false, 0, false, 0, 0, 0⟩ none) (Bx.made2 _ _ _ _ _ _ _ _ _ _ _ _ _ _) ?_
  rintro wx1 bx
  have BX := Lib.hid bx
  clear bx
  obtain ⟨⟨p0, p1, p2, p3, p4, p5⟩, p6, ⟨r0, r1, r2, r3, r4, r5⟩, r6, hz1, hz2⟩ := BX.out.facts
  go_wp2_with fail
  refine (rnote_any ⟨ab, fi, dr, ne, co, la⟩ _ _ _ _ _ _ HH.out _ now0 now1 i0 i1).mono ?_
  rw [HC.out, HP.out]
  rintro e wx2 ⟨rfl, hb⟩
  have bx := BX.out.below hb
  clear hb
  clear p0 p1 p2 p3 p4 p5 p6 r0 r1 r2 r3 r4 r5 r6 hz1 hz2
  clear BX
  have BX := Lib.hid bx
  clear bx
  obtain ⟨⟨p0, p1, p2, p3, p4, p5⟩, p6, ⟨r0, r1, r2, r3, r4, r5⟩, r6, hz1, hz2⟩ := BX.out.facts
  go_upto_region 2 with fail
  clear p0 p1 p2 p3 p4 p5 p6 r0 r1 r2 r3 r4 r5 r6 hz1 hz2
  refine wp_worldc (fun wx => Bx w wx 30 (w.heap.size + 1) ⟨na, nf, nd, nn, nc, nl⟩ ⟨false, 0, false, 0, 0, 0⟩ none) (BX.out.store _ _ _ _ _ _) ?_
  clear BX
  rintro wx3 bx
  have BX := Lib.hid bx
  clear bx
  obtain ⟨⟨p0, p1, p2, p3, p4, p5⟩, p6, ⟨r0, r1, r2, r3, r4, r5⟩, r6, hz1, hz2⟩ := BX.out.facts
  go_upto_region 4 with fail
  clear p0 p1 p2 p3 p4 p5 p6 r0 r1 r2 r3 r4 r5 r6 hz1 hz2
  refine wp_worldc (fun wx => Bx w wx 30 (w.heap.size + 1) ⟨na, nf, false, nn, nc, nl⟩ ⟨false, 0, false, 0, 0, 0⟩ none) (Bx.one BX.out 2 _ rfl) ?_
  clear BX
  rintro wx4 bx
  have BX := Lib.hid bx
  clear bx
  obtain ⟨⟨p0, p1, p2, p3, p4, p5⟩, p6, ⟨r0, r1, r2, r3, r4, r5⟩, r6, hz1, hz2⟩ := BX.out.facts
  go_wp2_with fail
  refine bodyPost_ret (v := .tuple #[.agg #[.bool na, .int .i64 nf, .bool false, .int .i64 nn, .int .u64 nc, .int .u64 nl], .int .i64 0]) (by simp [results, Try.results14, go_sem, *]) rfl ⟨rfl, ?_⟩
  exact (BX.out.storeC _ _ _ _ _ _).be
set_option maxHeartbeats 2000000 in
theorem rmor_2A (ab : Bool) (fi : Int) (dr : Bool) (ne co la : Int) (na : Bool) (nf : Int) (nn nc nl t i now j b : Int) (nd hb : Bool) (HH : Hid (highB t j b = hb)) (HC : Hid (noteC ⟨ab, fi, dr, ne, co, la⟩ i now hb = ⟨na, nf, nd, nn, nc, nl⟩)) (HP : Hid (mayC ⟨ab, fi, dr, ne, co, la⟩ now hb = true)) (c0 : 0 ≤ nc) (c1 : nc ≤ 18446744073709551615) (n0 : -9223372036854775808 ≤ nn) (n1 : nn ≤ 9223372036854775807) (HT : Hid (now < sat (nn + lawZ i nc))) (w : World) (now0 : -9223372036854775808 ≤ now) (now1 : now ≤ 9223372036854775807) (i0 : -9223372036854775808 ≤ i) (i1 : i ≤ 9223372036854775807)  :
    Calls Try.prog 14 #[.agg #[.bool ab, .int .i64 fi, .bool dr, .int .i64 ne, .int .u64 co, .int .u64 la], .int .i64 t, .int .i64 i, .int .i64 now, .int .i64 j, .int .i64 b] w fun e w' => e = .returned (.tuple #[.agg #[.bool na, .int .i64 nf, .bool nd, .int .i64 (sat (nn + lawZ i nc)), .int .u64 nc, .int .u64 nl], .int .i64 0]) ∧ Below w.heap.size w w' := by
  go_enter Try.func14, Try.ntmps14
  go_upto_region 1 with fail
  refine wp_worldc (fun wx => Bx w wx 30 (w.heap.size + 1) ⟨ab, fi, dr, ne, co, la⟩ ⟨false, 0, false, 0, 0, 0⟩ none) (Bx.made2 _ _ _ _ _ _ _ _ _ _ _ _ _ _) ?_
  rintro wx1 bx
  have BX := Lib.hid bx
  clear bx
  obtain ⟨⟨p0, p1, p2, p3, p4, p5⟩, p6, ⟨r0, r1, r2, r3, r4, r5⟩, r6, hz1, hz2⟩ := BX.out.facts
  go_wp2_with fail
  refine (rnote_any ⟨ab, fi, dr, ne, co, la⟩ _ _ _ _ _ _ HH.out _ now0 now1 i0 i1).mono ?_
  rw [HC.out, HP.out]
  rintro e wx2 ⟨rfl, hb⟩
  have bx := BX.out.below hb
  clear hb
  clear p0 p1 p2 p3 p4 p5 p6 r0 r1 r2 r3 r4 r5 r6 hz1 hz2
  clear BX
  have BX := Lib.hid bx
  clear bx
  obtain ⟨⟨p0, p1, p2, p3, p4, p5⟩, p6, ⟨r0, r1, r2, r3, r4, r5⟩, r6, hz1, hz2⟩ := BX.out.facts
  go_upto_region 2 with fail
  clear p0 p1 p2 p3 p4 p5 p6 r0 r1 r2 r3 r4 r5 r6 hz1 hz2
  refine wp_worldc (fun wx => Bx w wx 30 (w.heap.size + 1) ⟨na, nf, nd, nn, nc, nl⟩ ⟨false, 0, false, 0, 0, 0⟩ none) (BX.out.store _ _ _ _ _ _) ?_
  clear BX
  rintro wx3 bx
  have BX := Lib.hid bx
  clear bx
  obtain ⟨⟨p0, p1, p2, p3, p4, p5⟩, p6, ⟨r0, r1, r2, r3, r4, r5⟩, r6, hz1, hz2⟩ := BX.out.facts
  have lz0 := lawZ_0 i nc
  have lz1 := lawZ_1 i nc i1
  go_upto_region 5 with fail
  go_cut [] (fun wx => Bx w wx 30 (w.heap.size + 1) ⟨na, nf, nd, sat (nn + lawZ i nc), nc, nl⟩ ⟨false, 0, false, 0, 0, 0⟩ none)
  case first =>
    go_region_with (first | (go_at_call 18; refine (radd02_any _ _ _ n0 n1 (by omega) (by omega)).mono ?_; rintro e wn ⟨rfl, hbn⟩; replace BX := Lib.hid (show Bx w wn _ _ _ _ _ from by first | exact BX.out.below hbn | exact BX.out.drew.below hbn | exact (BX.out.drewN _).below hbn); clear hbn; clear p0 p1 p2 p3 p4 p5 p6 r0 r1 r2 r3 r4 r5 r6 hz1 hz2; obtain ⟨⟨p0, p1, p2, p3, p4, p5⟩, p6, ⟨r0, r1, r2, r3, r4, r5⟩, r6, hz1, hz2⟩ := BX.out.facts) | (go_at_call 19; refine (rrlaw_z _ _ _ i1 c0 c1).mono ?_; rintro e wn ⟨rfl, hbn⟩; replace BX := Lib.hid (show Bx w wn _ _ _ _ _ from by first | exact BX.out.below hbn | exact BX.out.drew.below hbn | exact (BX.out.drewN _).below hbn); clear hbn; clear p0 p1 p2 p3 p4 p5 p6 r0 r1 r2 r3 r4 r5 r6 hz1 hz2; obtain ⟨⟨p0, p1, p2, p3, p4, p5⟩, p6, ⟨r0, r1, r2, r3, r4, r5⟩, r6, hz1, hz2⟩ := BX.out.facts))
    all_goals (go_wp2_with fail; go_meet; exact (show Bx w _ _ _ _ _ _ from by first | exact (Bx.one BX.out 3 _ rfl) | exact (Bx.one BX.out.drew 3 _ rfl) | exact (Bx.one BX.out 3 _ rfl).drew | exact (Bx.one (BX.out.drewN _) 3 _ rfl)))
  case rest =>
    clear p0 p1 p2 p3 p4 p5 p6 r0 r1 r2 r3 r4 r5 r6 hz1 hz2
    clear BX
    have BX := Lib.hid hcut
    clear hcut
    obtain ⟨⟨p0, p1, p2, p3, p4, p5⟩, p6, ⟨r0, r1, r2, r3, r4, r5⟩, r6, hz1, hz2⟩ := BX.out.facts
    have ht := HT.out
    go_wp2_with fail
    refine bodyPost_ret (v := .tuple #[.agg #[.bool na, .int .i64 nf, .bool nd, .int .i64 (sat (nn + lawZ i nc)), .int .u64 nc, .int .u64 nl], .int .i64 0]) (by simp [results, Try.results14, go_sem, *]) rfl ⟨rfl, ?_⟩
    exact (BX.out.storeC _ _ _ _ _ _).be
set_option maxHeartbeats 2000000 in
theorem rmor_2B (ab : Bool) (fi : Int) (dr : Bool) (ne co la : Int) (na : Bool) (nf : Int) (nn nc nl t i now j b : Int) (nd hb : Bool) (HH : Hid (highB t j b = hb)) (HC : Hid (noteC ⟨ab, fi, dr, ne, co, la⟩ i now hb = ⟨na, nf, nd, nn, nc, nl⟩)) (HP : Hid (mayC ⟨ab, fi, dr, ne, co, la⟩ now hb = true)) (c0 : 0 ≤ nc) (c1 : nc ≤ 18446744073709551615) (n0 : -9223372036854775808 ≤ nn) (n1 : nn ≤ 9223372036854775807) (HT : Hid (sat (nn + lawZ i nc) ≤ now)) (w : World) (now0 : -9223372036854775808 ≤ now) (now1 : now ≤ 9223372036854775807) (i0 : -9223372036854775808 ≤ i) (i1 : i ≤ 9223372036854775807)  :
    Calls Try.prog 14 #[.agg #[.bool ab, .int .i64 fi, .bool dr, .int .i64 ne, .int .u64 co, .int .u64 la], .int .i64 t, .int .i64 i, .int .i64 now, .int .i64 j, .int .i64 b] w fun e w' => e = .returned (.tuple #[.agg #[.bool na, .int .i64 nf, .bool nd, .int .i64 (sat (nn + lawZ i nc)), .int .u64 (upC nc), .int .u64 nl], .int .i64 1]) ∧ Below w.heap.size w w' := by
  go_enter Try.func14, Try.ntmps14
  go_upto_region 1 with fail
  refine wp_worldc (fun wx => Bx w wx 30 (w.heap.size + 1) ⟨ab, fi, dr, ne, co, la⟩ ⟨false, 0, false, 0, 0, 0⟩ none) (Bx.made2 _ _ _ _ _ _ _ _ _ _ _ _ _ _) ?_
  rintro wx1 bx
  have BX := Lib.hid bx
  clear bx
  obtain ⟨⟨p0, p1, p2, p3, p4, p5⟩, p6, ⟨r0, r1, r2, r3, r4, r5⟩, r6, hz1, hz2⟩ := BX.out.facts
  go_wp2_with fail
  refine (rnote_any ⟨ab, fi, dr, ne, co, la⟩ _ _ _ _ _ _ HH.out _ now0 now1 i0 i1).mono ?_
  rw [HC.out, HP.out]
  rintro e wx2 ⟨rfl, hb⟩
  have bx := BX.out.below hb
  clear hb
  clear p0 p1 p2 p3 p4 p5 p6 r0 r1 r2 r3 r4 r5 r6 hz1 hz2
  clear BX
  have BX := Lib.hid bx
  clear bx
  obtain ⟨⟨p0, p1, p2, p3, p4, p5⟩, p6, ⟨r0, r1, r2, r3, r4, r5⟩, r6, hz1, hz2⟩ := BX.out.facts
  go_upto_region 2 with fail
  clear p0 p1 p2 p3 p4 p5 p6 r0 r1 r2 r3 r4 r5 r6 hz1 hz2
  refine wp_worldc (fun wx => Bx w wx 30 (w.heap.size + 1) ⟨na, nf, nd, nn, nc, nl⟩ ⟨false, 0, false, 0, 0, 0⟩ none) (BX.out.store _ _ _ _ _ _) ?_
  clear BX
  rintro wx3 bx
  have BX := Lib.hid bx
  clear bx
  obtain ⟨⟨p0, p1, p2, p3, p4, p5⟩, p6, ⟨r0, r1, r2, r3, r4, r5⟩, r6, hz1, hz2⟩ := BX.out.facts
  have lz0 := lawZ_0 i nc
  have lz1 := lawZ_1 i nc i1
  go_upto_region 5 with fail
  go_cut [] (fun wx => Bx w wx 30 (w.heap.size + 1) ⟨na, nf, nd, sat (nn + lawZ i nc), nc, nl⟩ ⟨false, 0, false, 0, 0, 0⟩ none)
  case first =>
    go_region_with (first | (go_at_call 18; refine (radd02_any _ _ _ n0 n1 (by omega) (by omega)).mono ?_; rintro e wn ⟨rfl, hbn⟩; replace BX := Lib.hid (show Bx w wn _ _ _ _ _ from by first | exact BX.out.below hbn | exact BX.out.drew.below hbn | exact (BX.out.drewN _).below hbn); clear hbn; clear p0 p1 p2 p3 p4 p5 p6 r0 r1 r2 r3 r4 r5 r6 hz1 hz2; obtain ⟨⟨p0, p1, p2, p3, p4, p5⟩, p6, ⟨r0, r1, r2, r3, r4, r5⟩, r6, hz1, hz2⟩ := BX.out.facts) | (go_at_call 19; refine (rrlaw_z _ _ _ i1 c0 c1).mono ?_; rintro e wn ⟨rfl, hbn⟩; replace BX := Lib.hid (show Bx w wn _ _ _ _ _ from by first | exact BX.out.below hbn | exact BX.out.drew.below hbn | exact (BX.out.drewN _).below hbn); clear hbn; clear p0 p1 p2 p3 p4 p5 p6 r0 r1 r2 r3 r4 r5 r6 hz1 hz2; obtain ⟨⟨p0, p1, p2, p3, p4, p5⟩, p6, ⟨r0, r1, r2, r3, r4, r5⟩, r6, hz1, hz2⟩ := BX.out.facts))
    all_goals (go_wp2_with fail; go_meet; exact (show Bx w _ _ _ _ _ _ from by first | exact (Bx.one BX.out 3 _ rfl) | exact (Bx.one BX.out.drew 3 _ rfl) | exact (Bx.one BX.out 3 _ rfl).drew | exact (Bx.one (BX.out.drewN _) 3 _ rfl)))
  case rest =>
    clear p0 p1 p2 p3 p4 p5 p6 r0 r1 r2 r3 r4 r5 r6 hz1 hz2
    clear BX
    have BX := Lib.hid hcut
    clear hcut
    obtain ⟨⟨p0, p1, p2, p3, p4, p5⟩, p6, ⟨r0, r1, r2, r3, r4, r5⟩, r6, hz1, hz2⟩ := BX.out.facts
    have ht := HT.out
    go_upto_region 8 with (go_at_call 25; refine (rmore_any _ _ c0 c1).mono ?_; rintro e wn ⟨rfl, rfl⟩)
    clear p0 p1 p2 p3 p4 p5 p6 r0 r1 r2 r3 r4 r5 r6 hz1 hz2
    refine wp_worldc (fun wx => Bx w wx 30 (w.heap.size + 1) ⟨na, nf, nd, sat (nn + lawZ i nc), upC nc, nl⟩ ⟨false, 0, false, 0, 0, 0⟩ none) (Bx.one BX.out 4 _ rfl) ?_
    clear BX
    rintro wx4 bx
    have BX := Lib.hid bx
    clear bx
    obtain ⟨⟨p0, p1, p2, p3, p4, p5⟩, p6, ⟨r0, r1, r2, r3, r4, r5⟩, r6, hz1, hz2⟩ := BX.out.facts
    go_wp2_with fail
    refine bodyPost_ret (v := .tuple #[.agg #[.bool na, .int .i64 nf, .bool nd, .int .i64 (sat (nn + lawZ i nc)), .int .u64 (upC nc), .int .u64 nl], .int .i64 1]) (by simp [results, Try.results14, go_sem, *]) rfl ⟨rfl, ?_⟩
    exact (BX.out.storeC _ _ _ _ _ _).be
theorem rlook_any (s : Cst) (t i now j b : Int) (hb : Bool) (hH : highB t j b = hb) (w : World) (now0 : -9223372036854775808 ≤ now) (now1 : now ≤ 9223372036854775807) (i0 : -9223372036854775808 ≤ i) (i1 : i ≤ 9223372036854775807) (hs : s.ok) :
    Calls Try.prog 11 #[s.v, .int .i64 t, .int .i64 i, .int .i64 now, .int .i64 j, .int .i64 b] w fun e w' => e = .returned (.tuple #[(lookC s i now hb).1.v, .int .i64 (lookC s i now hb).2]) ∧ Below w.heap.size w w' := by
  have ho := note_ok hs i now hb
  have hdr : (noteC s i now hb).dr = s.dr := by unfold noteC; cases hb; rfl; cases s.ab <;> rfl
  obtain ⟨ab, fi, dr, ne, co, la⟩ := s
  generalize hc : noteC ⟨ab, fi, dr, ne, co, la⟩ i now hb = z at ho hdr
  obtain ⟨na, nf, nd, nn, nc, nl⟩ := z
  have hdr' : nd = dr := hdr
  subst hdr'
  have hcons : ∀ p, mayC ⟨ab, fi, nd, ne, co, la⟩ now hb = p → consC ⟨ab, fi, nd, ne, co, la⟩ i now hb = ⟨na, nf, nd && p, nn, nc, nl⟩ := by intro p hp; unfold consC; rw [hc, hp]
  cases hp : mayC ⟨ab, fi, nd, ne, co, la⟩ now hb
  · have e : lookC ⟨ab, fi, nd, ne, co, la⟩ i now hb = (⟨na, nf, false, nn, nc, nl⟩, 0) := by unfold lookC; rw [hp, hcons _ hp, Bool.and_false]; rfl
    rw [e]
    cases nd
    · exact rlook_4 ab fi false ne co la na nf nn nc nl t i now j b hb (Lib.hid hH) (Lib.hid hc) (Lib.hid hp) w now0 now1 i0 i1
    · exact rlook_1 ab fi true ne co la na nf nn nc nl t i now j b hb (Lib.hid hH) (Lib.hid hc) (Lib.hid hp) w now0 now1 i0 i1
  · cases nd
    · have e : lookC ⟨ab, fi, false, ne, co, la⟩ i now hb = (beginC ⟨na, nf, false, nn, nc, nl⟩ i now, 2) := by unfold lookC; rw [hp, hcons _ hp]; rfl
      rw [e]
      have hw : IntKind.u64.wrap (nc - nl) = (nc - nl) % 18446744073709551616 := by simp [IntKind.wrap, IntKind.bits, IntKind.signed]
      generalize hd : (nc - nl) % 18446744073709551616 = d at hw
      have d0 : 0 ≤ d := by omega
      have d1 : d ≤ 18446744073709551615 := by omega
      obtain ⟨rb, hr⟩ : ∃ rb, decide (sat (now - nn) < sat (16 * i)) = rb := ⟨_, rfl⟩
      have hk : beginN ⟨na, nf, false, nn, nc, nl⟩ i now = if 2 ≤ d ∧ d ≤ 9223372036854775808 ∧ sat (now - nn) < sat (16 * i) then d else 1 := by
        show (if 2 ≤ (nc - nl) % 18446744073709551616 ∧ (nc - nl) % 18446744073709551616 ≤ 9223372036854775808 ∧ sat (now - nn) < sat (16 * i) then (nc - nl) % 18446744073709551616 else 1) = _
        rw [hd]
      have key : ∀ k, beginN ⟨na, nf, false, nn, nc, nl⟩ i now = k → beginC ⟨na, nf, false, nn, nc, nl⟩ i now = ⟨na, nf, true, sat (now + lawZ i k), k, k⟩ := by
        intro k hk; unfold beginC; rw [hk]
      by_cases h1 : d < 2
      · rw [key 1 (by rw [hk, if_neg (by omega)])]
        exact rlook_5A ab fi false ne co la na nf nn nc nl t i now j b hb (Lib.hid hH) (Lib.hid hc) (Lib.hid hp) d rb (Lib.hid hw) (Lib.hid hr) ho.n0 ho.n1 d0 d1 h1 w now0 now1 i0 i1
      · by_cases h2 : 9223372036854775808 < d
        · rw [key 1 (by rw [hk, if_neg (by omega)])]
          exact rlook_5B ab fi false ne co la na nf nn nc nl t i now j b hb (Lib.hid hH) (Lib.hid hc) (Lib.hid hp) d rb (Lib.hid hw) (Lib.hid hr) ho.n0 ho.n1 d0 d1 (by omega) h2 w now0 now1 i0 i1
        · cases rb with
          | false =>
            have hn : ¬ sat (now - nn) < sat (16 * i) := by simpa using hr
            rw [key 1 (by rw [hk, if_neg (fun h => hn h.2.2)])]
            exact rlook_5C ab fi false ne co la na nf nn nc nl t i now j b hb (Lib.hid hH) (Lib.hid hc) (Lib.hid hp) d false (Lib.hid hw) (Lib.hid hr) ho.n0 ho.n1 d0 d1 (by omega) (by omega) rfl w now0 now1 i0 i1
          | true =>
            have hn : sat (now - nn) < sat (16 * i) := by simpa using hr
            rw [key d (by rw [hk, if_pos ⟨by omega, by omega, hn⟩])]
            exact rlook_5D ab fi false ne co la na nf nn nc nl t i now j b hb (Lib.hid hH) (Lib.hid hc) (Lib.hid hp) d true (Lib.hid hw) (Lib.hid hr) ho.n0 ho.n1 d0 d1 (by omega) (by omega) rfl w now0 now1 i0 i1
    · have e : lookC ⟨ab, fi, true, ne, co, la⟩ i now hb = timeC ⟨na, nf, true, nn, nc, nl⟩ now := by unfold lookC; rw [hp, hcons _ hp]; rfl
      rw [e]
      unfold timeC
      by_cases h : now < nn
      · rw [if_pos h]
        exact rlook_3 ab fi true ne co la na nf nn nc nl t i now j b hb (Lib.hid hH) (Lib.hid hc) (Lib.hid hp) h w now0 now1 i0 i1
      · rw [if_neg h]
        exact rlook_2 ab fi true ne co la na nf nn nc nl t i now j b hb (Lib.hid hH) (Lib.hid hc) (Lib.hid hp) (by omega) ho.c0 ho.c1 w now0 now1 i0 i1
theorem rmor_any (s : Cst) (t i now j b : Int) (hb : Bool) (hH : highB t j b = hb) (w : World) (now0 : -9223372036854775808 ≤ now) (now1 : now ≤ 9223372036854775807) (i0 : -9223372036854775808 ≤ i) (i1 : i ≤ 9223372036854775807) (hs : s.ok) :
    Calls Try.prog 14 #[s.v, .int .i64 t, .int .i64 i, .int .i64 now, .int .i64 j, .int .i64 b] w fun e w' => e = .returned (.tuple #[(moreC s i now hb).1.v, .int .i64 (moreC s i now hb).2]) ∧ Below w.heap.size w w' := by
  have ho := note_ok hs i now hb
  have hdr : (noteC s i now hb).dr = s.dr := by unfold noteC; cases hb; rfl; cases s.ab <;> rfl
  have hne : (noteC s i now hb).ne = s.ne := by unfold noteC; cases hb; rfl; cases s.ab <;> rfl
  have hco : (noteC s i now hb).co = s.co := by unfold noteC; cases hb; rfl; cases s.ab <;> rfl
  obtain ⟨ab, fi, dr, ne, co, la⟩ := s
  generalize hc : noteC ⟨ab, fi, dr, ne, co, la⟩ i now hb = z at ho hdr hne hco
  obtain ⟨na, nf, nd, nn, nc, nl⟩ := z
  have hdr' : nd = dr := hdr
  have hne' : nn = ne := hne
  have hco' : nc = co := hco
  subst hdr' hne' hco'
  have hcons : ∀ p, mayC ⟨ab, fi, nd, nn, nc, la⟩ now hb = p → consC ⟨ab, fi, nd, nn, nc, la⟩ i now hb = ⟨na, nf, nd && p, nn, nc, nl⟩ := by intro p hp; unfold consC; rw [hc, hp]
  cases hp : mayC ⟨ab, fi, nd, nn, nc, la⟩ now hb
  · have e : moreC ⟨ab, fi, nd, nn, nc, la⟩ i now hb = (⟨na, nf, false, nn, nc, nl⟩, 0) := by unfold moreC; rw [hp, hcons _ hp, Bool.and_false]; rfl
    rw [e]
    exact rmor_1 ab fi nd nn nc la na nf nn nc nl t i now j b nd hb (Lib.hid hH) (Lib.hid hc) (Lib.hid hp) w now0 now1 i0 i1
  · have e : moreC ⟨ab, fi, nd, nn, nc, la⟩ i now hb = timeC ⟨na, nf, nd, sat (nn + lawZ i nc), nc, nl⟩ now := by unfold moreC; rw [hp, hcons _ hp, Bool.and_true]; rfl
    rw [e]
    unfold timeC
    by_cases h : now < sat (nn + lawZ i nc)
    · rw [if_pos h]
      exact rmor_2A ab fi nd nn nc la na nf nn nc nl t i now j b nd hb (Lib.hid hH) (Lib.hid hc) (Lib.hid hp) ho.c0 ho.c1 ho.n0 ho.n1 (Lib.hid h) w now0 now1 i0 i1
    · rw [if_neg h]
      exact rmor_2B ab fi nd nn nc la na nf nn nc nl t i now j b nd hb (Lib.hid hH) (Lib.hid hc) (Lib.hid hp) ho.c0 ho.c1 ho.n0 ho.n1 (Lib.hid (by omega)) w now0 now1 i0 i1
end Go.Proofs.Ytkmhdkhaoegbjaa
