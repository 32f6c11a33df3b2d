/- Texts of this claim, one behind the other: Cods. -/
import Derived.Test.YtcffeokbipjaoaaGreatMtay
namespace Go.Proofs.YtcffeokbipjaoaaGreat
open Go.ChangeShapes Go.WideShapes Go.ChangeAt Go.RowKit Kn
set_option linter.unusedVariables false
theorem note_ok {s : Cst} (h : s.ok) (i now : Int) (hb : Bool) : (noteC s i now hb).ok := by
 have a := sat_lo (now + i)
 have b := sat_up (now + i)
 obtain ⟨h1, h2, h3, h4, h5, h6, h7, h8⟩ := h
 unfold noteC
 cases hb
 · exact ⟨by show (-9223372036854775808 : Int) ≤ 0; decide, by show (0 : Int) ≤ 9223372036854775807; decide, h3, h4, h5, h6, h7, h8⟩
 · cases hs : s.ab
   · exact ⟨a, b, h3, h4, h5, h6, h7, h8⟩
   · exact ⟨h1, h2, h3, h4, h5, h6, h7, h8⟩
theorem cons_ok {s : Cst} (h : s.ok) (i now : Int) (hb : Bool) : (consC s i now hb).ok := by
 obtain ⟨h1, h2, h3, h4, h5, h6, h7, h8⟩ := note_ok h i now hb
 exact ⟨h1, h2, h3, h4, h5, h6, h7, h8⟩
theorem beginN_ok (s : Cst) (i now : Int) : 0 ≤ beginN s i now ∧ beginN s i now ≤ 18446744073709551615 := by
 unfold beginN; dsimp only; split <;> omega
theorem begin_ok {s : Cst} (h : s.ok) (i now : Int) : (beginC s i now).ok := by
 obtain ⟨h1, h2, h3, h4, h5, h6, h7, h8⟩ := h
 have hn := beginN_ok s i now
 exact ⟨h1, h2, sat_lo _, sat_up _, hn.1, hn.2, hn.1, hn.2⟩
theorem up_ok (c : Int) (h0 : 0 ≤ c) (h1 : c ≤ 18446744073709551615) : 0 ≤ upC c ∧ upC c ≤ 18446744073709551615 := by unfold upC; split <;> omega
theorem time_ok {s : Cst} (h : s.ok) (now : Int) : (timeC s now).1.ok := by
 obtain ⟨h1, h2, h3, h4, h5, h6, h7, h8⟩ := h
 unfold timeC
 split
 · exact ⟨h1, h2, h3, h4, h5, h6, h7, h8⟩
 · exact ⟨h1, h2, h3, h4, (up_ok _ h5 h6).1, (up_ok _ h5 h6).2, h7, h8⟩
theorem look_ok {s : Cst} (h : s.ok) (i now : Int) (hb : Bool) : (lookC s i now hb).1.ok := by
 unfold lookC
 cases mayC s now hb
 · exact cons_ok h i now hb
 · cases s.dr
   · exact begin_ok (cons_ok h i now hb) i now
   · exact time_ok (cons_ok h i now hb) now
theorem more_ok {s : Cst} (h : s.ok) (i now : Int) (hb : Bool) : (moreC s i now hb).1.ok := by
 unfold moreC
 cases mayC s now hb
 · exact cons_ok h i now hb
 · obtain ⟨h1, h2, h3, h4, h5, h6, h7, h8⟩ := cons_ok h i now hb
   have k : ({ consC s i now hb with ne := sat (s.ne + lawZ i s.co) } : Cst).ok := ⟨h1, h2, sat_lo _, sat_up _, h5, h6, h7, h8⟩
   exact time_ok k now
theorem cons_ne (s : Cst) (i now : Int) (hb : Bool) : (consC s i now hb).ne = s.ne := by unfold consC noteC; cases hb; rfl; cases s.ab <;> rfl
theorem cons_co (s : Cst) (i now : Int) (hb : Bool) : (consC s i now hb).co = s.co := by unfold consC noteC; cases hb; rfl; cases s.ab <;> rfl
set_option maxHeartbeats 2000000 in
theorem clook_A (ab : Bool) (fi : Int) (dr : Bool) (ne co la : Int) (ca : Bool) (cf : Int) (cd : Bool) (cn cc cl t i now j b : Int) (hb : Bool) (HH : Hid (highB t j b = hb)) (HC : Hid (consC ⟨ab, fi, dr, ne, co, la⟩ i now hb = ⟨ca, cf, cd, cn, cc, cl⟩)) (HP : Hid (mayC ⟨ab, fi, dr, ne, co, la⟩ now hb = false)) (w : World) (now0 : -9223372036854775808 ≤ now) (now1 : now ≤ 9223372036854775807) (i0 : -9223372036854775808 ≤ i) (i1 : i ≤ 9223372036854775807)  :
   Calls Tryz.prog 178 #[.agg #[.bool ab, .int .i64 fi, .bool dr, .int .i64 ne, .int .u64 co, .int .u64 la], .agg #[.int .i64 t, .int .i64 i], .int .i64 now, .int .i64 j, .int .i64 b] w fun e w' => e = .returned (.tuple #[.agg #[.bool ca, .int .i64 cf, .bool cd, .int .i64 cn, .int .u64 cc, .int .u64 cl], .int .i64 0]) ∧ Below w.heap.size w w' := by
 go_enter Tryz.func178, Tryz.ntmps178
 go_upto_region 1 with fail
 refine wp_worldc (fun wx => Bx w wx 280 (w.heap.size + 1 + 1) ⟨ab, fi, dr, ne, co, la⟩ ⟨false, 0, false, 0, 0, 0⟩ (some (t, i))) (Bx.made3 _ _ _ _ _ _ _ _ _ _ _ _ _ _ _ _) ?_
 rintro wx1 bx
 have BX := Lib.hid bx
 clear bx
 obtain ⟨⟨p0, p1, p2, p3, p4, p5⟩, p6, ⟨r0, r1, r2, r3, r4, r5⟩, r6, hz1, hz2⟩ := BX.out.facts
 obtain ⟨⟨q0, q1⟩, q2⟩ := BX.out.pfacts
 go_wp2_with fail
 refine (ccons_any ⟨ab, fi, dr, ne, co, la⟩ _ _ _ _ _ _ HH _ now0 now1 i0 i1).mono ?_
 rw [HC.out, HP.out]
 rintro e wx2 ⟨rfl, hb⟩
 have bx := BX.out.below hb
 clear hb
 clear p0 p1 p2 p3 p4 p5 p6 r0 r1 r2 r3 r4 r5 r6 hz1 hz2
 clear q0 q1 q2
 clear BX
 have BX := Lib.hid bx
 clear bx
 obtain ⟨⟨p0, p1, p2, p3, p4, p5⟩, p6, ⟨r0, r1, r2, r3, r4, r5⟩, r6, hz1, hz2⟩ := BX.out.facts
 obtain ⟨⟨q0, q1⟩, q2⟩ := BX.out.pfacts
 go_upto_region 2 with fail
 clear p0 p1 p2 p3 p4 p5 p6 r0 r1 r2 r3 r4 r5 r6 hz1 hz2
 clear q0 q1 q2
 refine wp_worldc (fun wx => Bx w wx 280 (w.heap.size + 1 + 1) ⟨ca, cf, cd, cn, cc, cl⟩ ⟨false, 0, false, 0, 0, 0⟩ (some (t, i))) (BX.out.store _ _ _ _ _ _) ?_
 clear BX
 rintro wx3 bx
 have BX := Lib.hid bx
 clear bx
 obtain ⟨⟨p0, p1, p2, p3, p4, p5⟩, p6, ⟨r0, r1, r2, r3, r4, r5⟩, r6, hz1, hz2⟩ := BX.out.facts
 obtain ⟨⟨q0, q1⟩, q2⟩ := BX.out.pfacts
 go_wp2_with fail
 refine bodyPost_ret (v := .tuple #[.agg #[.bool ca, .int .i64 cf, .bool cd, .int .i64 cn, .int .u64 cc, .int .u64 cl], .int .i64 0]) (by simp [results, Tryz.results178, go_sem, *]) rfl ⟨rfl, ?_⟩
 exact (BX.out.storeC _ _ _ _ _ _).be
set_option maxHeartbeats 2000000 in
theorem cmore_A (ab : Bool) (fi : Int) (dr : Bool) (ne co la : Int) (ca : Bool) (cf : Int) (cd : Bool) (cn cc cl t i now j b : Int) (hb : Bool) (HH : Hid (highB t j b = hb)) (HC : Hid (consC ⟨ab, fi, dr, ne, co, la⟩ i now hb = ⟨ca, cf, cd, cn, cc, cl⟩)) (HP : Hid (mayC ⟨ab, fi, dr, ne, co, la⟩ now hb = false)) (w : World) (now0 : -9223372036854775808 ≤ now) (now1 : now ≤ 9223372036854775807) (i0 : -9223372036854775808 ≤ i) (i1 : i ≤ 9223372036854775807)  :
   Calls Tryz.prog 181 #[.agg #[.bool ab, .int .i64 fi, .bool dr, .int .i64 ne, .int .u64 co, .int .u64 la], .agg #[.int .i64 t, .int .i64 i], .int .i64 now, .int .i64 j, .int .i64 b] w fun e w' => e = .returned (.tuple #[.agg #[.bool ca, .int .i64 cf, .bool cd, .int .i64 cn, .int .u64 cc, .int .u64 cl], .int .i64 0]) ∧ Below w.heap.size w w' := by
 go_enter Tryz.func181, Tryz.ntmps181
 go_upto_region 1 with fail
 refine wp_worldc (fun wx => Bx w wx 280 (w.heap.size + 1 + 1) ⟨ab, fi, dr, ne, co, la⟩ ⟨false, 0, false, 0, 0, 0⟩ (some (t, i))) (Bx.made3 _ _ _ _ _ _ _ _ _ _ _ _ _ _ _ _) ?_
 rintro wx1 bx
 have BX := Lib.hid bx
 clear bx
 obtain ⟨⟨p0, p1, p2, p3, p4, p5⟩, p6, ⟨r0, r1, r2, r3, r4, r5⟩, r6, hz1, hz2⟩ := BX.out.facts
 obtain ⟨⟨q0, q1⟩, q2⟩ := BX.out.pfacts
 go_wp2_with fail
 refine (ccons_any ⟨ab, fi, dr, ne, co, la⟩ _ _ _ _ _ _ HH _ now0 now1 i0 i1).mono ?_
 rw [HC.out, HP.out]
 rintro e wx2 ⟨rfl, hb⟩
 have bx := BX.out.below hb
 clear hb
 clear p0 p1 p2 p3 p4 p5 p6 r0 r1 r2 r3 r4 r5 r6 hz1 hz2
 clear q0 q1 q2
 clear BX
 have BX := Lib.hid bx
 clear bx
 obtain ⟨⟨p0, p1, p2, p3, p4, p5⟩, p6, ⟨r0, r1, r2, r3, r4, r5⟩, r6, hz1, hz2⟩ := BX.out.facts
 obtain ⟨⟨q0, q1⟩, q2⟩ := BX.out.pfacts
 go_upto_region 2 with fail
 clear p0 p1 p2 p3 p4 p5 p6 r0 r1 r2 r3 r4 r5 r6 hz1 hz2
 clear q0 q1 q2
 refine wp_worldc (fun wx => Bx w wx 280 (w.heap.size + 1 + 1) ⟨ca, cf, cd, cn, cc, cl⟩ ⟨false, 0, false, 0, 0, 0⟩ (some (t, i))) (BX.out.store _ _ _ _ _ _) ?_
 clear BX
 rintro wx3 bx
 have BX := Lib.hid bx
 clear bx
 obtain ⟨⟨p0, p1, p2, p3, p4, p5⟩, p6, ⟨r0, r1, r2, r3, r4, r5⟩, r6, hz1, hz2⟩ := BX.out.facts
 obtain ⟨⟨q0, q1⟩, q2⟩ := BX.out.pfacts
 go_wp2_with fail
 refine bodyPost_ret (v := .tuple #[.agg #[.bool ca, .int .i64 cf, .bool cd, .int .i64 cn, .int .u64 cc, .int .u64 cl], .int .i64 0]) (by simp [results, Tryz.results181, go_sem, *]) rfl ⟨rfl, ?_⟩
 exact (BX.out.storeC _ _ _ _ _ _).be
set_option maxHeartbeats 2000000 in
theorem clook_B (ab : Bool) (fi : Int) (dr : Bool) (ne co la : Int) (ca : Bool) (cf : Int) (cn cc cl t i now j b : Int) (hb : Bool) (HH : Hid (highB t j b = hb)) (HC : Hid (consC ⟨ab, fi, dr, ne, co, la⟩ i now hb = ⟨ca, cf, true, cn, cc, cl⟩)) (HP : Hid (mayC ⟨ab, fi, dr, ne, co, la⟩ now hb = true)) (ta : Bool) (tf : Int) (td : Bool) (tn tc tl n : Int) (HT : Hid (timeC ⟨ca, cf, true, cn, cc, cl⟩ now = (⟨ta, tf, td, tn, tc, tl⟩, n))) (c0 : 0 ≤ cc) (w : World) (now0 : -9223372036854775808 ≤ now) (now1 : now ≤ 9223372036854775807) (i0 : -9223372036854775808 ≤ i) (i1 : i ≤ 9223372036854775807)  :
   Calls Tryz.prog 178 #[.agg #[.bool ab, .int .i64 fi, .bool dr, .int .i64 ne, .int .u64 co, .int .u64 la], .agg #[.int .i64 t, .int .i64 i], .int .i64 now, .int .i64 j, .int .i64 b] w fun e w' => e = .returned (.tuple #[.agg #[.bool ta, .int .i64 tf, .bool td, .int .i64 tn, .int .u64 tc, .int .u64 tl], .int .i64 n]) ∧ Below w.heap.size w w' := by
 go_enter Tryz.func178, Tryz.ntmps178
 go_upto_region 1 with fail
 refine wp_worldc (fun wx => Bx w wx 280 (w.heap.size + 1 + 1) ⟨ab, fi, dr, ne, co, la⟩ ⟨false, 0, false, 0, 0, 0⟩ (some (t, i))) (Bx.made3 _ _ _ _ _ _ _ _ _ _ _ _ _ _ _ _) ?_
 rintro wx1 bx
 have BX := Lib.hid bx
 clear bx
 obtain ⟨⟨p0, p1, p2, p3, p4, p5⟩, p6, ⟨r0, r1, r2, r3, r4, r5⟩, r6, hz1, hz2⟩ := BX.out.facts
 obtain ⟨⟨q0, q1⟩, q2⟩ := BX.out.pfacts
 go_wp2_with fail
 refine (ccons_any ⟨ab, fi, dr, ne, co, la⟩ _ _ _ _ _ _ HH _ now0 now1 i0 i1).mono ?_
 rw [HC.out, HP.out]
 rintro e wx2 ⟨rfl, hb⟩
 have bx := BX.out.below hb
 clear hb
 clear p0 p1 p2 p3 p4 p5 p6 r0 r1 r2 r3 r4 r5 r6 hz1 hz2
 clear q0 q1 q2
 clear BX
 have BX := Lib.hid bx
 clear bx
 obtain ⟨⟨p0, p1, p2, p3, p4, p5⟩, p6, ⟨r0, r1, r2, r3, r4, r5⟩, r6, hz1, hz2⟩ := BX.out.facts
 obtain ⟨⟨q0, q1⟩, q2⟩ := BX.out.pfacts
 go_upto_region 2 with fail
 clear p0 p1 p2 p3 p4 p5 p6 r0 r1 r2 r3 r4 r5 r6 hz1 hz2
 clear q0 q1 q2
 refine wp_worldc (fun wx => Bx w wx 280 (w.heap.size + 1 + 1) ⟨ca, cf, true, cn, cc, cl⟩ ⟨false, 0, false, 0, 0, 0⟩ (some (t, i))) (BX.out.store _ _ _ _ _ _) ?_
 clear BX
 rintro wx3 bx
 have BX := Lib.hid bx
 clear bx
 obtain ⟨⟨p0, p1, p2, p3, p4, p5⟩, p6, ⟨r0, r1, r2, r3, r4, r5⟩, r6, hz1, hz2⟩ := BX.out.facts
 obtain ⟨⟨q0, q1⟩, q2⟩ := BX.out.pfacts
 go_wp2_with fail
 refine (cdrop_any ⟨ca, cf, true, cn, cc, cl⟩ _ _ c0).mono ?_
 rw [HT.out]
 rintro e wx4 ⟨rfl, hb⟩
 have bx := BX.out.below hb
 clear hb
 clear p0 p1 p2 p3 p4 p5 p6 r0 r1 r2 r3 r4 r5 r6 hz1 hz2
 clear q0 q1 q2
 clear BX
 have BX := Lib.hid bx
 clear bx
 obtain ⟨⟨p0, p1, p2, p3, p4, p5⟩, p6, ⟨r0, r1, r2, r3, r4, r5⟩, r6, hz1, hz2⟩ := BX.out.facts
 obtain ⟨⟨q0, q1⟩, q2⟩ := BX.out.pfacts
 go_wp2_with fail
 refine bodyPost_ret (v := .tuple #[.agg #[.bool ta, .int .i64 tf, .bool td, .int .i64 tn, .int .u64 tc, .int .u64 tl], .int .i64 n]) (by simp [results, Tryz.results178, go_sem, *]) rfl ⟨rfl, ?_⟩
 exact (BX.out.storeC _ _ _ _ _ _).be
set_option maxHeartbeats 2000000 in
theorem clook_C (ab : Bool) (fi : Int) (dr : Bool) (ne co la : Int) (ca : Bool) (cf : Int) (cn cc cl t i now j b : Int) (hb : Bool) (HH : Hid (highB t j b = hb)) (HC : Hid (consC ⟨ab, fi, dr, ne, co, la⟩ i now hb = ⟨ca, cf, false, cn, cc, cl⟩)) (HP : Hid (mayC ⟨ab, fi, dr, ne, co, la⟩ now hb = true)) (ta : Bool) (tf : Int) (td : Bool) (tn tc tl : Int) (HT : Hid (beginC ⟨ca, cf, false, cn, cc, cl⟩ i now = ⟨ta, tf, td, tn, tc, tl⟩)) (hs : (⟨ca, cf, false, cn, cc, cl⟩ : Cst).ok) (w : World) (now0 : -9223372036854775808 ≤ now) (now1 : now ≤ 9223372036854775807) (i0 : -9223372036854775808 ≤ i) (i1 : i ≤ 9223372036854775807)  :
   Calls Tryz.prog 178 #[.agg #[.bool ab, .int .i64 fi, .bool dr, .int .i64 ne, .int .u64 co, .int .u64 la], .agg #[.int .i64 t, .int .i64 i], .int .i64 now, .int .i64 j, .int .i64 b] w fun e w' => e = .returned (.tuple #[.agg #[.bool ta, .int .i64 tf, .bool td, .int .i64 tn, .int .u64 tc, .int .u64 tl], .int .i64 2]) ∧ Below w.heap.size w w' := by
 go_enter Tryz.func178, Tryz.ntmps178
 go_upto_region 1 with fail
 refine wp_worldc (fun wx => Bx w wx 280 (w.heap.size + 1 + 1) ⟨ab, fi, dr, ne, co, la⟩ ⟨false, 0, false, 0, 0, 0⟩ (some (t, i))) (Bx.made3 _ _ _ _ _ _ _ _ _ _ _ _ _ _ _ _) ?_
 rintro wx1 bx
 have BX := Lib.hid bx
 clear bx
 obtain ⟨⟨p0, p1, p2, p3, p4, p5⟩, p6, ⟨r0, r1, r2, r3, r4, r5⟩, r6, hz1, hz2⟩ := BX.out.facts
 obtain ⟨⟨q0, q1⟩, q2⟩ := BX.out.pfacts
 go_wp2_with fail
 refine (ccons_any ⟨ab, fi, dr, ne, co, la⟩ _ _ _ _ _ _ HH _ now0 now1 i0 i1).mono ?_
 rw [HC.out, HP.out]
 rintro e wx2 ⟨rfl, hb⟩
 have bx := BX.out.below hb
 clear hb
 clear p0 p1 p2 p3 p4 p5 p6 r0 r1 r2 r3 r4 r5 r6 hz1 hz2
 clear q0 q1 q2
 clear BX
 have BX := Lib.hid bx
 clear bx
 obtain ⟨⟨p0, p1, p2, p3, p4, p5⟩, p6, ⟨r0, r1, r2, r3, r4, r5⟩, r6, hz1, hz2⟩ := BX.out.facts
 obtain ⟨⟨q0, q1⟩, q2⟩ := BX.out.pfacts
 go_upto_region 2 with fail
 clear p0 p1 p2 p3 p4 p5 p6 r0 r1 r2 r3 r4 r5 r6 hz1 hz2
 clear q0 q1 q2
 refine wp_worldc (fun wx => Bx w wx 280 (w.heap.size + 1 + 1) ⟨ca, cf, false, cn, cc, cl⟩ ⟨false, 0, false, 0, 0, 0⟩ (some (t, i))) (BX.out.store _ _ _ _ _ _) ?_
 clear BX
 rintro wx3 bx
 have BX := Lib.hid bx
 clear bx
 obtain ⟨⟨p0, p1, p2, p3, p4, p5⟩, p6, ⟨r0, r1, r2, r3, r4, r5⟩, r6, hz1, hz2⟩ := BX.out.facts
 obtain ⟨⟨q0, q1⟩, q2⟩ := BX.out.pfacts
 go_wp2_with fail
 refine (cbegin_any ⟨ca, cf, false, cn, cc, cl⟩ _ _ _ _ now0 now1 i0 i1 hs).mono ?_
 rw [HT.out]
 rintro e wx4 ⟨rfl, hb⟩
 have bx := BX.out.below hb
 clear hb
 clear p0 p1 p2 p3 p4 p5 p6 r0 r1 r2 r3 r4 r5 r6 hz1 hz2
 clear q0 q1 q2
 clear BX
 have BX := Lib.hid bx
 clear bx
 obtain ⟨⟨p0, p1, p2, p3, p4, p5⟩, p6, ⟨r0, r1, r2, r3, r4, r5⟩, r6, hz1, hz2⟩ := BX.out.facts
 obtain ⟨⟨q0, q1⟩, q2⟩ := BX.out.pfacts
 go_wp2_with fail
 refine bodyPost_ret (v := .tuple #[.agg #[.bool ta, .int .i64 tf, .bool td, .int .i64 tn, .int .u64 tc, .int .u64 tl], .int .i64 2]) (by simp [results, Tryz.results178, go_sem, *]) rfl ⟨rfl, ?_⟩
 exact (BX.out.storeC _ _ _ _ _ _).be
set_option maxHeartbeats 2000000 in
theorem cmore_B (ab : Bool) (fi : Int) (dr : Bool) (ne co la : Int) (ca : Bool) (cf : Int) (cd : Bool) (cn cc cl t i now j b : Int) (hb : Bool) (HH : Hid (highB t j b = hb)) (HC : Hid (consC ⟨ab, fi, dr, ne, co, la⟩ i now hb = ⟨ca, cf, cd, cn, cc, cl⟩)) (HP : Hid (mayC ⟨ab, fi, dr, ne, co, la⟩ now hb = true)) (ta : Bool) (tf : Int) (td : Bool) (tn tc tl n : Int) (HT : Hid (timeC ⟨ca, cf, cd, sat (cn + lawZ i cc), cc, cl⟩ now = (⟨ta, tf, td, tn, tc, tl⟩, n))) (c0 : 0 ≤ cc) (c1 : cc ≤ 18446744073709551615) (n0 : -9223372036854775808 ≤ cn) (n1 : cn ≤ 9223372036854775807) (w : World) (now0 : -9223372036854775808 ≤ now) (now1 : now ≤ 9223372036854775807) (i0 : -9223372036854775808 ≤ i) (i1 : i ≤ 9223372036854775807)  :
   Calls Tryz.prog 181 #[.agg #[.bool ab, .int .i64 fi, .bool dr, .int .i64 ne, .int .u64 co, .int .u64 la], .agg #[.int .i64 t, .int .i64 i], .int .i64 now, .int .i64 j, .int .i64 b] w fun e w' => e = .returned (.tuple #[.agg #[.bool ta, .int .i64 tf, .bool td, .int .i64 tn, .int .u64 tc, .int .u64 tl], .int .i64 n]) ∧ Below w.heap.size w w' := by
 go_enter Tryz.func181, Tryz.ntmps181
 go_upto_region 1 with fail
 refine wp_worldc (fun wx => Bx w wx 280 (w.heap.size + 1 + 1) ⟨ab, fi, dr, ne, co, la⟩ ⟨false, 0, false, 0, 0, 0⟩ (some (t, i))) (Bx.made3 _ _ _ _ _ _ _ _ _ _ _ _ _ _ _ _) ?_
 rintro wx1 bx
 have BX := Lib.hid bx
 clear bx
 obtain ⟨⟨p0, p1, p2, p3, p4, p5⟩, p6, ⟨r0, r1, r2, r3, r4, r5⟩, r6, hz1, hz2⟩ := BX.out.facts
 obtain ⟨⟨q0, q1⟩, q2⟩ := BX.out.pfacts
 go_wp2_with fail
 refine (ccons_any ⟨ab, fi, dr, ne, co, la⟩ _ _ _ _ _ _ HH _ now0 now1 i0 i1).mono ?_
 rw [HC.out, HP.out]
 rintro e wx2 ⟨rfl, hb⟩
 have bx := BX.out.below hb
 clear hb
 clear p0 p1 p2 p3 p4 p5 p6 r0 r1 r2 r3 r4 r5 r6 hz1 hz2
 clear q0 q1 q2
 clear BX
 have BX := Lib.hid bx
 clear bx
 obtain ⟨⟨p0, p1, p2, p3, p4, p5⟩, p6, ⟨r0, r1, r2, r3, r4, r5⟩, r6, hz1, hz2⟩ := BX.out.facts
 obtain ⟨⟨q0, q1⟩, q2⟩ := BX.out.pfacts
 go_upto_region 2 with fail
 clear p0 p1 p2 p3 p4 p5 p6 r0 r1 r2 r3 r4 r5 r6 hz1 hz2
 clear q0 q1 q2
 refine wp_worldc (fun wx => Bx w wx 280 (w.heap.size + 1 + 1) ⟨ca, cf, cd, cn, cc, cl⟩ ⟨false, 0, false, 0, 0, 0⟩ (some (t, i))) (BX.out.store _ _ _ _ _ _) ?_
 clear BX
 rintro wx3 bx
 have BX := Lib.hid bx
 clear bx
 obtain ⟨⟨p0, p1, p2, p3, p4, p5⟩, p6, ⟨r0, r1, r2, r3, r4, r5⟩, r6, hz1, hz2⟩ := BX.out.facts
 obtain ⟨⟨q0, q1⟩, q2⟩ := BX.out.pfacts
 have lz0 := lawZ_0 i cc
 have lz1 := lawZ_1 i cc i1
 go_upto_region 4 with fail
 go_cut [] (fun wx => Bx w wx 280 (w.heap.size + 1 + 1) ⟨ca, cf, cd, sat (cn + lawZ i cc), cc, cl⟩ ⟨false, 0, false, 0, 0, 0⟩ (some (t, i)))
 case first =>
   go_region_with (first | (go_at_call 55; refine (fadd_any _ _ _ n0 n1 (by omega) (by omega)).mono ?_; rintro e wn ⟨rfl, rfl⟩) | (go_at_call 219; refine (rtlaw_all _ _ _ (by omega) (by omega) (by omega)).mono ?_; rintro e wn ⟨rfl, hbn⟩; replace BX := Lib.hid (show Bx w wn _ _ _ _ _ from by first | exact BX.out.below hbn | exact BX.out.drew.below hbn | exact (BX.out.drewN _).below hbn); clear hbn; clear p0 p1 p2 p3 p4 p5 p6 r0 r1 r2 r3 r4 r5 r6 hz1 hz2; clear q0 q1 q2; obtain ⟨⟨p0, p1, p2, p3, p4, p5⟩, p6, ⟨r0, r1, r2, r3, r4, r5⟩, r6, hz1, hz2⟩ := BX.out.facts; obtain ⟨⟨q0, q1⟩, q2⟩ := BX.out.pfacts))
   all_goals (go_wp2_with fail; go_meet; exact (show Bx w _ _ _ _ _ _ from by first | exact (Bx.one BX.out 3 _ rfl) | exact (Bx.one BX.out.drew 3 _ rfl) | exact (Bx.one BX.out 3 _ rfl).drew | exact (Bx.one (BX.out.drewN _) 3 _ rfl)))
 case rest =>
   clear p0 p1 p2 p3 p4 p5 p6 r0 r1 r2 r3 r4 r5 r6 hz1 hz2
   clear q0 q1 q2
   clear BX
   have BX := Lib.hid hcut
   clear hcut
   obtain ⟨⟨p0, p1, p2, p3, p4, p5⟩, p6, ⟨r0, r1, r2, r3, r4, r5⟩, r6, hz1, hz2⟩ := BX.out.facts
   obtain ⟨⟨q0, q1⟩, q2⟩ := BX.out.pfacts
   go_wp2_with fail
   refine (cdrop_any ⟨ca, cf, cd, sat (cn + lawZ i cc), cc, cl⟩ _ _ c0).mono ?_
   rw [HT.out]
   rintro e wx4 ⟨rfl, hb⟩
   have bx := BX.out.below hb
   clear hb
   clear p0 p1 p2 p3 p4 p5 p6 r0 r1 r2 r3 r4 r5 r6 hz1 hz2
   clear q0 q1 q2
   clear BX
   have BX := Lib.hid bx
   clear bx
   obtain ⟨⟨p0, p1, p2, p3, p4, p5⟩, p6, ⟨r0, r1, r2, r3, r4, r5⟩, r6, hz1, hz2⟩ := BX.out.facts
   obtain ⟨⟨q0, q1⟩, q2⟩ := BX.out.pfacts
   go_wp2_with fail
   refine bodyPost_ret (v := .tuple #[.agg #[.bool ta, .int .i64 tf, .bool td, .int .i64 tn, .int .u64 tc, .int .u64 tl], .int .i64 n]) (by simp [results, Tryz.results181, go_sem, *]) rfl ⟨rfl, ?_⟩
   exact (BX.out.storeC _ _ _ _ _ _).be
theorem clook_any (s : Cst) (t i now j b : Int) (hb : Bool) (hH : highB t j b = hb) (w : World) (now0 : -9223372036854775808 ≤ now) (now1 : now ≤ 9223372036854775807) (i0 : -9223372036854775808 ≤ i) (i1 : i ≤ 9223372036854775807) (hs : s.ok) :
   Calls Tryz.prog 178 #[s.v, .agg #[.int .i64 t, .int .i64 i], .int .i64 now, .int .i64 j, .int .i64 b] w fun e w' => e = .returned (.tuple #[(lookC s i now hb).1.v, .int .i64 (lookC s i now hb).2]) ∧ Below w.heap.size w w' := by
 have ho := cons_ok hs i now hb
 obtain ⟨ab, fi, dr, ne, co, la⟩ := s
 generalize hc : consC ⟨ab, fi, dr, ne, co, la⟩ i now hb = z at ho
 obtain ⟨ca, cf, cd, cn, cc, cl⟩ := z
 cases hp : mayC ⟨ab, fi, dr, ne, co, la⟩ now hb
 · have e : lookC ⟨ab, fi, dr, ne, co, la⟩ i now hb = (⟨ca, cf, cd, cn, cc, cl⟩, 0) := by unfold lookC; rw [hp, hc]; rfl
   rw [e]; exact clook_A ab fi dr ne co la ca cf cd cn cc cl t i now j b hb (Lib.hid hH) (Lib.hid hc) (Lib.hid hp) w now0 now1 i0 i1
 · have hd : cd = dr := by
     have h2 : (consC ⟨ab, fi, dr, ne, co, la⟩ i now hb).dr = (dr && mayC ⟨ab, fi, dr, ne, co, la⟩ now hb) := rfl
     rw [hc, hp, Bool.and_true] at h2
     exact h2
   subst hd
   cases cd
   · have e : lookC ⟨ab, fi, false, ne, co, la⟩ i now hb = (beginC ⟨ca, cf, false, cn, cc, cl⟩ i now, 2) := by unfold lookC; rw [hp, hc]; rfl
     rw [e]
     generalize hT : beginC ⟨ca, cf, false, cn, cc, cl⟩ i now = z
     obtain ⟨ta, tf, td, tn, tc, tl⟩ := z
     exact clook_C ab fi false ne co la ca cf cn cc cl t i now j b hb (Lib.hid hH) (Lib.hid hc) (Lib.hid hp) ta tf td tn tc tl (Lib.hid hT) ho w now0 now1 i0 i1
   · have e : lookC ⟨ab, fi, true, ne, co, la⟩ i now hb = timeC ⟨ca, cf, true, cn, cc, cl⟩ now := by unfold lookC; rw [hp, hc]; rfl
     rw [e]
     generalize hT : timeC ⟨ca, cf, true, cn, cc, cl⟩ now = z
     obtain ⟨⟨ta, tf, td, tn, tc, tl⟩, n⟩ := z
     exact clook_B ab fi true ne co la ca cf cn cc cl t i now j b hb (Lib.hid hH) (Lib.hid hc) (Lib.hid hp) ta tf td tn tc tl n (Lib.hid hT) ho.c0 w now0 now1 i0 i1
theorem cmore_any (s : Cst) (t i now j b : Int) (hb : Bool) (hH : highB t j b = hb) (w : World) (now0 : -9223372036854775808 ≤ now) (now1 : now ≤ 9223372036854775807) (i0 : -9223372036854775808 ≤ i) (i1 : i ≤ 9223372036854775807) (hs : s.ok) :
   Calls Tryz.prog 181 #[s.v, .agg #[.int .i64 t, .int .i64 i], .int .i64 now, .int .i64 j, .int .i64 b] w fun e w' => e = .returned (.tuple #[(moreC s i now hb).1.v, .int .i64 (moreC s i now hb).2]) ∧ Below w.heap.size w w' := by
 have ho := cons_ok hs i now hb
 obtain ⟨ab, fi, dr, ne, co, la⟩ := s
 generalize hc : consC ⟨ab, fi, dr, ne, co, la⟩ i now hb = z at ho
 obtain ⟨ca, cf, cd, cn, cc, cl⟩ := z
 cases hp : mayC ⟨ab, fi, dr, ne, co, la⟩ now hb
 · have e : moreC ⟨ab, fi, dr, ne, co, la⟩ i now hb = (⟨ca, cf, cd, cn, cc, cl⟩, 0) := by unfold moreC; rw [hp, hc]; rfl
   rw [e]; exact cmore_A ab fi dr ne co la ca cf cd cn cc cl t i now j b hb (Lib.hid hH) (Lib.hid hc) (Lib.hid hp) w now0 now1 i0 i1
 · have e : moreC ⟨ab, fi, dr, ne, co, la⟩ i now hb = timeC ⟨ca, cf, cd, sat (cn + lawZ i cc), cc, cl⟩ now := by
     have k1 : cn = ne := (congrArg Cst.ne hc).symm.trans (cons_ne _ _ _ _)
     have k2 : cc = co := (congrArg Cst.co hc).symm.trans (cons_co _ _ _ _)
     unfold moreC; rw [hp, hc, k1, k2]; rfl
   rw [e]
   generalize hT : timeC ⟨ca, cf, cd, sat (cn + lawZ i cc), cc, cl⟩ now = z
   obtain ⟨⟨ta, tf, td, tn, tc, tl⟩, n⟩ := z
   exact cmore_B ab fi dr ne co la ca cf cd cn cc cl t i now j b hb (Lib.hid hH) (Lib.hid hc) (Lib.hid hp) ta tf td tn tc tl n (Lib.hid hT) ho.c0 ho.c1 ho.n0 ho.n1 w now0 now1 i0 i1
end Go.Proofs.YtcffeokbipjaoaaGreat
