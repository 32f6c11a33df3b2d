/- What the document's Note, Look and More of layer 8 answer. -/
import Derived.Test.YtkmhdkhaoegbjaaCodx
namespace Go.Proofs.Ytkmhdkhaoegbjaa
open Go.ChangeShapes Go.WideShapes Go.ChangeAt Go.RowKit Kn
set_option linter.unusedVariables false
set_option maxHeartbeats 2000000 in
theorem rnote_tA (fi : Int) (dr : Bool) (ne co la t i now j b : Int) (w : World) (now0 : -9223372036854775808 ≤ now) (now1 : now ≤ 9223372036854775807) (i0 : -9223372036854775808 ≤ i) (i1 : i ≤ 9223372036854775807) (h : j < t) :
    Calls Try.prog 15 #[.agg #[.bool true, .int .i64 fi, .bool dr, .int .i64 ne, .int .u64 co, .int .u64 la], .int .i64 t, .int .i64 i, .int .i64 now, .int .i64 j, .int .i64 b] w fun e w' => e = .returned (.tuple #[.agg #[.bool false, .int .i64 0, .bool dr, .int .i64 ne, .int .u64 co, .int .u64 la], .bool false]) ∧ Below w.heap.size w w' := by
  go_enter Try.func15, Try.ntmps15
  go_upto_region 1 with fail
  refine wp_worldc (fun wx => Bx w wx 30 (w.heap.size + 1) ⟨true, fi, dr, ne, co, la⟩ ⟨false, 0, false, 0, 0, 0⟩ none) (Bx.made2 _ _ _ _ _ _ _ _ _ _ _ _ _ _) ?_
  rintro wx1 bx
  have BX := Lib.hid bx
  clear bx
  obtain ⟨⟨p0, p1, p2, p3, p4, p5⟩, p6, ⟨r0, r1, r2, r3, r4, r5⟩, r6, hz1, hz2⟩ := BX.out.facts
  go_upto_region 3 with fail
  clear p0 p1 p2 p3 p4 p5 p6 r0 r1 r2 r3 r4 r5 r6 hz1 hz2
  refine wp_worldc (fun wx => Bx w wx 30 (w.heap.size + 1) ⟨false, 0, dr, ne, co, la⟩ ⟨false, 0, false, 0, 0, 0⟩ none) (Bx.one (z' := ⟨false, 0, dr, ne, co, la⟩) (Bx.one (z' := ⟨false, fi, dr, ne, co, la⟩) BX.out 0 _ rfl) 1 _ rfl) ?_
  clear BX
  rintro wx2 bx
  have BX := Lib.hid bx
  clear bx
  obtain ⟨⟨p0, p1, p2, p3, p4, p5⟩, p6, ⟨r0, r1, r2, r3, r4, r5⟩, r6, hz1, hz2⟩ := BX.out.facts
  go_wp2_with fail
  refine bodyPost_ret (v := .tuple #[.agg #[.bool false, .int .i64 0, .bool dr, .int .i64 ne, .int .u64 co, .int .u64 la], .bool false]) (by simp [results, Try.results15, go_sem, *]) rfl ⟨rfl, ?_⟩
  exact (BX.out.storeC _ _ _ _ _ _).be
set_option maxHeartbeats 2000000 in
theorem rnote_tB (fi : Int) (dr : Bool) (ne co la t i now j b : Int) (w : World) (now0 : -9223372036854775808 ≤ now) (now1 : now ≤ 9223372036854775807) (i0 : -9223372036854775808 ≤ i) (i1 : i ≤ 9223372036854775807) (h : t ≤ j) (h2 : b ≤ 1) :
    Calls Try.prog 15 #[.agg #[.bool true, .int .i64 fi, .bool dr, .int .i64 ne, .int .u64 co, .int .u64 la], .int .i64 t, .int .i64 i, .int .i64 now, .int .i64 j, .int .i64 b] w fun e w' => e = .returned (.tuple #[.agg #[.bool false, .int .i64 0, .bool dr, .int .i64 ne, .int .u64 co, .int .u64 la], .bool false]) ∧ Below w.heap.size w w' := by
  go_enter Try.func15, Try.ntmps15
  go_upto_region 1 with fail
  refine wp_worldc (fun wx => Bx w wx 30 (w.heap.size + 1) ⟨true, fi, dr, ne, co, la⟩ ⟨false, 0, false, 0, 0, 0⟩ none) (Bx.made2 _ _ _ _ _ _ _ _ _ _ _ _ _ _) ?_
  rintro wx1 bx
  have BX := Lib.hid bx
  clear bx
  obtain ⟨⟨p0, p1, p2, p3, p4, p5⟩, p6, ⟨r0, r1, r2, r3, r4, r5⟩, r6, hz1, hz2⟩ := BX.out.facts
  go_upto_region 3 with fail
  clear p0 p1 p2 p3 p4 p5 p6 r0 r1 r2 r3 r4 r5 r6 hz1 hz2
  refine wp_worldc (fun wx => Bx w wx 30 (w.heap.size + 1) ⟨false, 0, dr, ne, co, la⟩ ⟨false, 0, false, 0, 0, 0⟩ none) (Bx.one (z' := ⟨false, 0, dr, ne, co, la⟩) (Bx.one (z' := ⟨false, fi, dr, ne, co, la⟩) BX.out 0 _ rfl) 1 _ rfl) ?_
  clear BX
  rintro wx2 bx
  have BX := Lib.hid bx
  clear bx
  obtain ⟨⟨p0, p1, p2, p3, p4, p5⟩, p6, ⟨r0, r1, r2, r3, r4, r5⟩, r6, hz1, hz2⟩ := BX.out.facts
  go_wp2_with fail
  refine bodyPost_ret (v := .tuple #[.agg #[.bool false, .int .i64 0, .bool dr, .int .i64 ne, .int .u64 co, .int .u64 la], .bool false]) (by simp [results, Try.results15, go_sem, *]) rfl ⟨rfl, ?_⟩
  exact (BX.out.storeC _ _ _ _ _ _).be
set_option maxHeartbeats 2000000 in
theorem rnote_fA (fi : Int) (dr : Bool) (ne co la t i now j b : Int) (w : World) (now0 : -9223372036854775808 ≤ now) (now1 : now ≤ 9223372036854775807) (i0 : -9223372036854775808 ≤ i) (i1 : i ≤ 9223372036854775807) (h : j < t) :
    Calls Try.prog 15 #[.agg #[.bool false, .int .i64 fi, .bool dr, .int .i64 ne, .int .u64 co, .int .u64 la], .int .i64 t, .int .i64 i, .int .i64 now, .int .i64 j, .int .i64 b] w fun e w' => e = .returned (.tuple #[.agg #[.bool false, .int .i64 0, .bool dr, .int .i64 ne, .int .u64 co, .int .u64 la], .bool false]) ∧ Below w.heap.size w w' := by
  go_enter Try.func15, Try.ntmps15
  go_upto_region 1 with fail
  refine wp_worldc (fun wx => Bx w wx 30 (w.heap.size + 1) ⟨false, fi, dr, ne, co, la⟩ ⟨false, 0, false, 0, 0, 0⟩ none) (Bx.made2 _ _ _ _ _ _ _ _ _ _ _ _ _ _) ?_
  rintro wx1 bx
  have BX := Lib.hid bx
  clear bx
  obtain ⟨⟨p0, p1, p2, p3, p4, p5⟩, p6, ⟨r0, r1, r2, r3, r4, r5⟩, r6, hz1, hz2⟩ := BX.out.facts
  go_upto_region 3 with fail
  clear p0 p1 p2 p3 p4 p5 p6 r0 r1 r2 r3 r4 r5 r6 hz1 hz2
  refine wp_worldc (fun wx => Bx w wx 30 (w.heap.size + 1) ⟨false, 0, dr, ne, co, la⟩ ⟨false, 0, false, 0, 0, 0⟩ none) (Bx.one (z' := ⟨false, 0, dr, ne, co, la⟩) (Bx.one (z' := ⟨false, fi, dr, ne, co, la⟩) BX.out 0 _ rfl) 1 _ rfl) ?_
  clear BX
  rintro wx2 bx
  have BX := Lib.hid bx
  clear bx
  obtain ⟨⟨p0, p1, p2, p3, p4, p5⟩, p6, ⟨r0, r1, r2, r3, r4, r5⟩, r6, hz1, hz2⟩ := BX.out.facts
  go_wp2_with fail
  refine bodyPost_ret (v := .tuple #[.agg #[.bool false, .int .i64 0, .bool dr, .int .i64 ne, .int .u64 co, .int .u64 la], .bool false]) (by simp [results, Try.results15, go_sem, *]) rfl ⟨rfl, ?_⟩
  exact (BX.out.storeC _ _ _ _ _ _).be
set_option maxHeartbeats 2000000 in
theorem rnote_fB (fi : Int) (dr : Bool) (ne co la t i now j b : Int) (w : World) (now0 : -9223372036854775808 ≤ now) (now1 : now ≤ 9223372036854775807) (i0 : -9223372036854775808 ≤ i) (i1 : i ≤ 9223372036854775807) (h : t ≤ j) (h2 : b ≤ 1) :
    Calls Try.prog 15 #[.agg #[.bool false, .int .i64 fi, .bool dr, .int .i64 ne, .int .u64 co, .int .u64 la], .int .i64 t, .int .i64 i, .int .i64 now, .int .i64 j, .int .i64 b] w fun e w' => e = .returned (.tuple #[.agg #[.bool false, .int .i64 0, .bool dr, .int .i64 ne, .int .u64 co, .int .u64 la], .bool false]) ∧ Below w.heap.size w w' := by
  go_enter Try.func15, Try.ntmps15
  go_upto_region 1 with fail
  refine wp_worldc (fun wx => Bx w wx 30 (w.heap.size + 1) ⟨false, fi, dr, ne, co, la⟩ ⟨false, 0, false, 0, 0, 0⟩ none) (Bx.made2 _ _ _ _ _ _ _ _ _ _ _ _ _ _) ?_
  rintro wx1 bx
  have BX := Lib.hid bx
  clear bx
  obtain ⟨⟨p0, p1, p2, p3, p4, p5⟩, p6, ⟨r0, r1, r2, r3, r4, r5⟩, r6, hz1, hz2⟩ := BX.out.facts
  go_upto_region 3 with fail
  clear p0 p1 p2 p3 p4 p5 p6 r0 r1 r2 r3 r4 r5 r6 hz1 hz2
  refine wp_worldc (fun wx => Bx w wx 30 (w.heap.size + 1) ⟨false, 0, dr, ne, co, la⟩ ⟨false, 0, false, 0, 0, 0⟩ none) (Bx.one (z' := ⟨false, 0, dr, ne, co, la⟩) (Bx.one (z' := ⟨false, fi, dr, ne, co, la⟩) BX.out 0 _ rfl) 1 _ rfl) ?_
  clear BX
  rintro wx2 bx
  have BX := Lib.hid bx
  clear bx
  obtain ⟨⟨p0, p1, p2, p3, p4, p5⟩, p6, ⟨r0, r1, r2, r3, r4, r5⟩, r6, hz1, hz2⟩ := BX.out.facts
  go_wp2_with fail
  refine bodyPost_ret (v := .tuple #[.agg #[.bool false, .int .i64 0, .bool dr, .int .i64 ne, .int .u64 co, .int .u64 la], .bool false]) (by simp [results, Try.results15, go_sem, *]) rfl ⟨rfl, ?_⟩
  exact (BX.out.storeC _ _ _ _ _ _).be
set_option maxHeartbeats 2000000 in
theorem rnote_fC (fi : Int) (dr : Bool) (ne co la t i now j b : Int) (w : World) (now0 : -9223372036854775808 ≤ now) (now1 : now ≤ 9223372036854775807) (i0 : -9223372036854775808 ≤ i) (i1 : i ≤ 9223372036854775807) (h : t ≤ j) (h2 : 1 < b) :
    Calls Try.prog 15 #[.agg #[.bool false, .int .i64 fi, .bool dr, .int .i64 ne, .int .u64 co, .int .u64 la], .int .i64 t, .int .i64 i, .int .i64 now, .int .i64 j, .int .i64 b] w fun e w' => e = .returned (.tuple #[.agg #[.bool true, .int .i64 (sat (now + i)), .bool dr, .int .i64 ne, .int .u64 co, .int .u64 la], .bool false]) ∧ Below w.heap.size w w' := by
  go_enter Try.func15, Try.ntmps15
  go_upto_region 1 with fail
  refine wp_worldc (fun wx => Bx w wx 30 (w.heap.size + 1) ⟨false, fi, dr, ne, co, la⟩ ⟨false, 0, false, 0, 0, 0⟩ none) (Bx.made2 _ _ _ _ _ _ _ _ _ _ _ _ _ _) ?_
  rintro wx1 bx
  have BX := Lib.hid bx
  clear bx
  obtain ⟨⟨p0, p1, p2, p3, p4, p5⟩, p6, ⟨r0, r1, r2, r3, r4, r5⟩, r6, hz1, hz2⟩ := BX.out.facts
  go_wp2_with fail
  refine (radd02_any _ _ _ now0 now1 i0 i1).mono ?_
  rintro e wx2 ⟨rfl, hb⟩
  have bx := BX.out.below hb
  clear hb
  clear p0 p1 p2 p3 p4 p5 p6 r0 r1 r2 r3 r4 r5 r6 hz1 hz2
  clear BX
  have BX := Lib.hid bx
  clear bx
  obtain ⟨⟨p0, p1, p2, p3, p4, p5⟩, p6, ⟨r0, r1, r2, r3, r4, r5⟩, r6, hz1, hz2⟩ := BX.out.facts
  go_upto_region 6 with fail
  clear p0 p1 p2 p3 p4 p5 p6 r0 r1 r2 r3 r4 r5 r6 hz1 hz2
  refine wp_worldc (fun wx => Bx w wx 30 (w.heap.size + 1) ⟨true, sat (now + i), dr, ne, co, la⟩ ⟨false, 0, false, 0, 0, 0⟩ none) (Bx.one (z' := ⟨true, sat (now + i), dr, ne, co, la⟩) (Bx.one (z' := ⟨true, fi, dr, ne, co, la⟩) BX.out 0 _ rfl) 1 _ rfl) ?_
  clear BX
  rintro wx3 bx
  have BX := Lib.hid bx
  clear bx
  obtain ⟨⟨p0, p1, p2, p3, p4, p5⟩, p6, ⟨r0, r1, r2, r3, r4, r5⟩, r6, hz1, hz2⟩ := BX.out.facts
  go_wp2_with fail
  refine bodyPost_ret (v := .tuple #[.agg #[.bool true, .int .i64 (sat (now + i)), .bool dr, .int .i64 ne, .int .u64 co, .int .u64 la], .bool false]) (by simp [results, Try.results15, go_sem, *]) rfl ⟨rfl, ?_⟩
  exact (BX.out.storeC _ _ _ _ _ _).be
set_option maxHeartbeats 2000000 in
theorem rnote_tC (fi : Int) (dr : Bool) (ne co la t i now j b : Int) (w : World) (now0 : -9223372036854775808 ≤ now) (now1 : now ≤ 9223372036854775807) (i0 : -9223372036854775808 ≤ i) (i1 : i ≤ 9223372036854775807) (h : t ≤ j) (h2 : 1 < b) (p : Bool) (HP : Hid (decide (fi ≤ now) = p)) :
    Calls Try.prog 15 #[.agg #[.bool true, .int .i64 fi, .bool dr, .int .i64 ne, .int .u64 co, .int .u64 la], .int .i64 t, .int .i64 i, .int .i64 now, .int .i64 j, .int .i64 b] w fun e w' => e = .returned (.tuple #[.agg #[.bool true, .int .i64 fi, .bool dr, .int .i64 ne, .int .u64 co, .int .u64 la], .bool p]) ∧ Below w.heap.size w w' := by
  have hp := HP.out
  go_enter Try.func15, Try.ntmps15
  go_upto_region 1 with fail
  refine wp_worldc (fun wx => Bx w wx 30 (w.heap.size + 1) ⟨true, fi, dr, ne, co, la⟩ ⟨false, 0, false, 0, 0, 0⟩ none) (Bx.made2 _ _ _ _ _ _ _ _ _ _ _ _ _ _) ?_
  rintro wx1 bx
  have BX := Lib.hid bx
  clear bx
  obtain ⟨⟨p0, p1, p2, p3, p4, p5⟩, p6, ⟨r0, r1, r2, r3, r4, r5⟩, r6, hz1, hz2⟩ := BX.out.facts
  go_upto_region 7 with fail
  go_cut [13] (fun s13 wx => s13 = .bool p ∧ Bx w wx 30 (w.heap.size + 1) ⟨true, fi, dr, ne, co, la⟩ ⟨true, fi, dr, ne, co, la⟩ none)
  case first =>
    go_region_with (fail)
    all_goals (go_wp2_with fail; go_meet; exact ⟨by first | rfl | simp [*], (show Bx w _ _ _ _ _ _ from by with_reducible first | exact (BX.out.storeC _ _ _ _ _ _) | exact (BX.out.drew.storeC _ _ _ _ _ _) | exact ((BX.out.drewN _).storeC _ _ _ _ _ _) | exact (BX.out.storeC _ _ _ _ _ _).drew | exact (BX.out.storeC _ _ _ _ _ _).drewN _)⟩)
  case rest =>
    clear p0 p1 p2 p3 p4 p5 p6 r0 r1 r2 r3 r4 r5 r6 hz1 hz2
    clear BX
    obtain ⟨rfl, bx⟩ := hcut
    have BX := Lib.hid bx
    clear bx
    obtain ⟨⟨p0, p1, p2, p3, p4, p5⟩, p6, ⟨r0, r1, r2, r3, r4, r5⟩, r6, hz1, hz2⟩ := BX.out.facts
    go_wp2_with fail
    refine bodyPost_ret (v := .tuple #[.agg #[.bool true, .int .i64 fi, .bool dr, .int .i64 ne, .int .u64 co, .int .u64 la], .bool p]) (by simp [results, Try.results15, go_sem, *]) rfl ⟨rfl, ?_⟩
    exact (BX.out).be
theorem rnote_any (s : Cst) (t i now j b : Int) (hb : Bool) (hH : highB t j b = hb) (w : World) (now0 : -9223372036854775808 ≤ now) (now1 : now ≤ 9223372036854775807) (i0 : -9223372036854775808 ≤ i) (i1 : i ≤ 9223372036854775807) :
    Calls Try.prog 15 #[s.v, .int .i64 t, .int .i64 i, .int .i64 now, .int .i64 j, .int .i64 b] w fun e w' => e = .returned (.tuple #[(noteC s i now hb).v, .bool (mayC s now hb)]) ∧ Below w.heap.size w w' := by
  obtain ⟨ab, fi, dr, ne, co, la⟩ := s
  unfold highB at hH
  by_cases h1 : j < t
  · have e : hb = false := by rw [← hH]; simp; omega
    subst e
    have e2 : mayC ⟨ab, fi, dr, ne, co, la⟩ now false = false := by unfold mayC; simp
    rw [e2]
    cases ab
    · exact rnote_fA fi dr ne co la t i now j b w now0 now1 i0 i1 h1
    · exact rnote_tA fi dr ne co la t i now j b w now0 now1 i0 i1 h1
  · by_cases h2 : b ≤ 1
    · have e : hb = false := by rw [← hH]; simp; omega
      subst e
      have e2 : mayC ⟨ab, fi, dr, ne, co, la⟩ now false = false := by unfold mayC; simp
      rw [e2]
      cases ab
      · exact rnote_fB fi dr ne co la t i now j b w now0 now1 i0 i1 (by omega) h2
      · exact rnote_tB fi dr ne co la t i now j b w now0 now1 i0 i1 (by omega) h2
    · have e : hb = true := by rw [← hH]; simp; omega
      subst e
      cases ab
      · exact rnote_fC fi dr ne co la t i now j b w now0 now1 i0 i1 (by omega) (by omega)
      · have e2 : mayC ⟨true, fi, dr, ne, co, la⟩ now true = decide (fi ≤ now) := by unfold mayC; simp
        rw [e2]
        exact rnote_tC fi dr ne co la t i now j b w now0 now1 i0 i1 (by omega) (by omega) _ (Lib.hid rfl)
end Go.Proofs.Ytkmhdkhaoegbjaa
