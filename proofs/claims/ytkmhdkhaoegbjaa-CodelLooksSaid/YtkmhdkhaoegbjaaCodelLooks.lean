/- CodelLooks is true of every state, all params, every time, sojourn and backlog, and changes nothing that it was given. -/
import Derived.Test.YtkmhdkhaoegbjaaCodw
import Derived.Test.YtkmhdkhaoegbjaaCodu
import Derived.Test.YtkmhdkhaoegbjaaOst
import Derived.Test.YtkmhdkhaoegbjaaRowb
import Derived.Test.YtkmhdkhaoegbjaaRows
import Derived.WalkKit
import Derived.ProofKit
import Derived.OpenShut
import Derived.Deep.DeepCutAuto
import Derived.Deep.RegionHeld3
namespace Go.Proofs.Ytkmhdkhaoegbjaa.codelLooks
open Go.ChangeShapes Go.WideShapes Go.ChangeAt Go.RowKit Kn
set_option linter.unusedVariables false
theorem own : ownKnob Try.prog.godebug = none := by kernel_rfl
theorem laidOut : laidOutB Try.prog = true := by kernel_rfl
theorem reads : (Try.f3.params.toList.all fun t => Try.prog.readableRec t && decide (t < Try.prog.types.size)) = true := by kernel_rfl
set_option maxHeartbeats 1000000 in
theorem own8 (aa : Bool) (af : Int) (ad : Bool) (an ac al : Int) (w : World) :
    Calls Try.prog 12 #[.agg #[.bool aa, .int .i64 af, .bool ad, .int .i64 an, .int .u64 ac, .int .u64 al]] w fun e w' => e = .returned (.agg #[.bool aa, .int .i64 af, .bool ad, .int .i64 an, .int .u64 ac, .int .u64 al]) ∧ Below w.heap.size w w' := by
  go_enter Try.func12, Try.ntmps12
  go_wp2
  refine bodyPost_ret (v := .agg #[.bool aa, .int .i64 af, .bool ad, .int .i64 an, .int .u64 ac, .int .u64 al]) (by simp [results, Try.results12, go_sem]) rfl ⟨rfl, ?_⟩
  repeat (first | with_reducible exact Below.refl _ _ | refine Below.setCell ?_ (by simp) _ | refine Below.alloc ?_ (by simp) _)
theorem cempty_lit (aa : Bool) (af : Int) (ad : Bool) (an ac al : Int) (w : World) :
    Calls Try.prog 16 #[.agg #[.bool aa, .int .i64 af, .bool ad, .int .i64 an, .int .u64 ac, .int .u64 al]] w fun e w' => e = .returned (.agg #[.bool false, .int .i64 0, .bool false, .int .i64 an, .int .u64 ac, .int .u64 al]) ∧ Below w.heap.size w w' := cempty_any ⟨aa, af, ad, an, ac, al⟩ w
theorem st_below {w w' : World} {g : Nat} {T : TypeId} {s : Cst} (h : Stt w g T s) (hb : Below w.heap.size w w') : Stt w' g T s := Blk.below_ h hb (Blk.size h)
theorem st_drew {w : World} {g : Nat} {T : TypeId} {s : Cst} (h : Stt w g T s) : Stt w.drew g T s := h
theorem st_facts {w : World} {g : Nat} {T : TypeId} {s : Cst} (h : Stt w g T s) :
    (w.cell? ⟨g, 0, none⟩ = some (.bool s.ab) ∧ w.cell? ⟨g, 1, none⟩ = some (.int .i64 s.fi) ∧ w.cell? ⟨g, 2, none⟩ = some (.bool s.dr) ∧ w.cell? ⟨g, 3, none⟩ = some (.int .i64 s.ne) ∧ w.cell? ⟨g, 4, none⟩ = some (.int .u64 s.co) ∧ w.cell? ⟨g, 5, none⟩ = some (.int .u64 s.la)) ∧ g < w.heap.size :=
  ⟨six_cells (s := s) h, Blk.size h⟩
set_option linter.unusedSimpArgs false
set_option maxRecDepth 100000 in
set_option maxHeartbeats 8000000 in
theorem walk (ab : Bool) (fi : Int) (dr : Bool) (ne co la t i now j b : Int) (w : World) (f0 : -9223372036854775808 ≤ fi) (f1 : fi ≤ 9223372036854775807) (ne0 : -9223372036854775808 ≤ ne) (ne1 : ne ≤ 9223372036854775807) (co0 : 0 ≤ co) (co1 : co ≤ 18446744073709551615) (la0 : 0 ≤ la) (la1 : la ≤ 18446744073709551615) (t0 : -9223372036854775808 ≤ t) (t1 : t ≤ 9223372036854775807) (i0 : -9223372036854775808 ≤ i) (i1 : i ≤ 9223372036854775807) (now0 : -9223372036854775808 ≤ now) (now1 : now ≤ 9223372036854775807) (j0 : -9223372036854775808 ≤ j) (j1 : j ≤ 9223372036854775807) (b0 : -9223372036854775808 ≤ b) (b1 : b ≤ 9223372036854775807) :
    Calls Try.prog 3 #[.agg #[.bool ab, .int .i64 fi, .bool dr, .int .i64 ne, .int .u64 co, .int .u64 la], .agg #[.int .i64 t, .int .i64 i], .int .i64 now, .int .i64 j, .int .i64 b] w fun e w' => e = .returned (.bool true) ∧ Below w.heap.size w w' := by
  have so : (⟨ab, fi, dr, ne, co, la⟩ : Cst).ok := ⟨by omega, by omega, by omega, by omega, by omega, by omega, by omega, by omega⟩
  obtain ⟨hb, hH⟩ : ∃ hb, highB t j b = hb := ⟨_, rfl⟩
  obtain ⟨⟨⟨aa, af, ad, an, ac, al⟩, v⟩, hl⟩ : ∃ z, lookC ⟨ab, fi, dr, ne, co, la⟩ i now hb = z := ⟨_, rfl⟩
  obtain ⟨⟨⟨ba, bf, bd, bnn, bc, bl⟩, u⟩, hm⟩ : ∃ z, moreC ⟨ab, fi, dr, ne, co, la⟩ i now hb = z := ⟨_, rfl⟩
  obtain ⟨⟨na, nf, nd, nn, nc, nl⟩, hn⟩ : ∃ z, noteC ⟨ab, fi, dr, ne, co, la⟩ i now hb = z := ⟨_, rfl⟩
  obtain ⟨p, hp⟩ : ∃ z, mayC ⟨ab, fi, dr, ne, co, la⟩ now hb = z := ⟨_, rfl⟩
  have SO := Lib.hid so
  have HH := Lib.hid hH
  have HL := Lib.hid hl
  have HM := Lib.hid hm
  have HN := Lib.hid hn
  have HP := Lib.hid hp
  clear so hH hl hm hn hp f0 f1 ne0 ne1 co0 co1 la0 la1 t0 t1 j0 j1 b0 b1
  go_enter Try.func3, Try.ntmps3
  go_upto_region 1 with fail
  refine wp_worldc (fun wx => Ly w wx ⟨ab, fi, dr, ne, co, la⟩ t i) (Ly.made w _ _ _ _ _ _ _ _) ?_
  rintro w0 ly
  go_wp2_with fail
  refine (awake8 _).mono ?_
  rintro e w1 ⟨rfl, hb1⟩
  replace ly := ly.below hb1
  clear hb1
  obtain ⟨⟨p0, p1, p2, p3, p4, p5⟩, p6, z1, z2⟩ := ly.sfacts
  obtain ⟨⟨q0, q1⟩, q2⟩ := ly.pfacts
  go_wp2_with fail
  refine (clook_any ⟨ab, fi, dr, ne, co, la⟩ _ _ _ _ _ hb HH.out _ now0 now1 i0 i1 SO.out).mono ?_
  rw [HL.out]
  rintro e wA ⟨rfl, hb2⟩
  replace ly := ly.below hb2
  clear hb2
  clear p0 p1 p2 p3 p4 p5 p6 z1 z2 q0 q1 q2
  go_upto_region 4 with fail
  refine wp_worldc (fun wx => Ly w wx ⟨ab, fi, dr, ne, co, la⟩ t i ∧ Stt wx wA.heap.size 24 ⟨aa, af, ad, an, ac, al⟩) ⟨ly.alloc _, Blk.made wA _ _⟩ ?_
  clear ly
  rintro wB ⟨ly, stA⟩
  have LY := Lib.hid ly
  have hB := Lib.hid (Below.refl wB.heap.size wB)
  go_cut [13, 14] (fun s13 s14 wx => ∃ g : Nat, s13 = .pointer (some ⟨g, 0, none⟩) ∧ s14 = .int .i64 v ∧ Stt wx g 30 ⟨aa, af, ad, an, ac, al⟩ ∧ Below wB.heap.size wB wx)
  case first =>
    have ly := LY.out
    have gz := ly.lt
    obtain ⟨⟨p0, p1, p2, p3, p4, p5⟩, p6, z1, z2⟩ := ly.sfacts
    obtain ⟨⟨q0, q1⟩, q2⟩ := ly.pfacts
    clear ly
    first | (go_region_held3 (fun w' => w'.cell? ⟨w.heap.size, 0, none⟩ = some (.bool ab) ∧ w'.cell? ⟨w.heap.size, 1, none⟩ = some (.int .i64 fi) ∧ w'.cell? ⟨w.heap.size, 2, none⟩ = some (.bool dr) ∧ w'.cell? ⟨w.heap.size, 3, none⟩ = some (.int .i64 ne) ∧ w'.cell? ⟨w.heap.size, 4, none⟩ = some (.int .u64 co) ∧ w'.cell? ⟨w.heap.size, 5, none⟩ = some (.int .u64 la) ∧ w'.cell? ⟨w.heap.size + 1, 0, none⟩ = some (.int .i64 t) ∧ w'.cell? ⟨w.heap.size + 1, 1, none⟩ = some (.int .i64 i)) (repeat (first | with_reducible assumption | refine ⟨?_, ?_⟩ | with_reducible refine kdrew ?_ | with_reducible refine kalloc ?_ _ | with_reducible refine kother ?_ (by simp; try omega))) (first | (go_at_call 12; refine (own8 _ _ _ _ _ _ _).mono ?_; rintro e wn ⟨rfl, hbn⟩; (try (first | (have bn0 := Blk.below_ bn.out hbn bn.out.size) | (have bn0 := Blk.below_ (Blk.drew_ bn.out) hbn bn.out.size) | (have bn0 := Blk.below_ (Blk.made _ _ _) hbn (by simp)) | (have bn0 := Blk.below_ (Blk.drew_ (Blk.made _ _ _)) hbn (by simp))); (try clear bn); have bn := Lib.hid bn0; clear bn0); (try (have b0_ := bn.out.val (i := 0) rfl; have b1_ := bn.out.val (i := 1) rfl; have b2_ := bn.out.val (i := 2) rfl; have b3_ := bn.out.val (i := 3) rfl; have b4_ := bn.out.val (i := 4) rfl; have b5_ := bn.out.val (i := 5) rfl; have b6_ := bn.out.free)); (try (have bs0 : Stt wn _ 30 ⟨false, 0, false, 0, 0, 0⟩ := bn.out; (try clear bs); have bs := Lib.hid bs0; clear bs0)); have hB2 := Lib.hid ((show Below wB.heap.size wB _ from (by repeat (first | with_reducible exact hB.out | with_reducible refine Below.drew ?_ | refine Below.alloc ?_ (by have := hB.out.size; (try simp); (try omega)) _))).trans (hbn.mono (by have := hB.out.size; (try simp); (try omega)))); clear hB; have hB := hB2; clear hB2 hbn; have ly := LY.out.below hB.out; have gz := ly.lt; have gs := hB.out.size; clear p0 p1 p2 p3 p4 p5 p6 z1 z2 q0 q1 q2; obtain ⟨⟨p0, p1, p2, p3, p4, p5⟩, p6, z1, z2⟩ := ly.sfacts; obtain ⟨⟨q0, q1⟩, q2⟩ := ly.pfacts; clear ly) | (go_at_call 11; refine (rlook_any ⟨ab, fi, dr, ne, co, la⟩ _ _ _ _ _ hb HH.out _ now0 now1 i0 i1 SO.out).mono ?_; rw [HL.out]; rintro e wn ⟨rfl, hbn⟩; (try (first | (have bn0 := Blk.below_ bn.out hbn bn.out.size) | (have bn0 := Blk.below_ (Blk.drew_ bn.out) hbn bn.out.size) | (have bn0 := Blk.below_ (Blk.made _ _ _) hbn (by simp)) | (have bn0 := Blk.below_ (Blk.drew_ (Blk.made _ _ _)) hbn (by simp))); (try clear bn); have bn := Lib.hid bn0; clear bn0); (try (have b0_ := bn.out.val (i := 0) rfl; have b1_ := bn.out.val (i := 1) rfl; have b2_ := bn.out.val (i := 2) rfl; have b3_ := bn.out.val (i := 3) rfl; have b4_ := bn.out.val (i := 4) rfl; have b5_ := bn.out.val (i := 5) rfl; have b6_ := bn.out.free)); (try (have bs0 : Stt wn _ 30 ⟨false, 0, false, 0, 0, 0⟩ := bn.out; (try clear bs); have bs := Lib.hid bs0; clear bs0)); have hB2 := Lib.hid ((show Below wB.heap.size wB _ from (by repeat (first | with_reducible exact hB.out | with_reducible refine Below.drew ?_ | refine Below.alloc ?_ (by have := hB.out.size; (try simp); (try omega)) _))).trans (hbn.mono (by have := hB.out.size; (try simp); (try omega)))); clear hB; have hB := hB2; clear hB2 hbn; have ly := LY.out.below hB.out; have gz := ly.lt; have gs := hB.out.size; clear p0 p1 p2 p3 p4 p5 p6 z1 z2 q0 q1 q2; obtain ⟨⟨p0, p1, p2, p3, p4, p5⟩, p6, z1, z2⟩ := ly.sfacts; obtain ⟨⟨q0, q1⟩, q2⟩ := ly.pfacts; clear ly))) | fail
    all_goals (go_wp2_with fail; go_meet; exact ⟨_, rfl, rfl, (by first | with_reducible exact bs.out.store _ _ _ _ _ _ | (unfold Stt; dsimp only; with_reducible exact Blk.made _ _ _) | (unfold Stt; dsimp only; with_reducible exact Blk.drew_ (Blk.made _ _ _))), (by repeat (first | with_reducible exact hB.out | with_reducible refine Below.drew ?_ | refine Below.setCell ?_ (by have := hB.out.size; (try simp); (try omega)) _ | refine Below.alloc ?_ (by have := hB.out.size; (try simp); (try omega)) _))⟩)
  case rest =>
    clear ly hB
    obtain ⟨gX, rfl, rfl, stgX, hbgX⟩ := hcut
    obtain ⟨wC, hwe⟩ : ∃ x, x = wc := ⟨_, rfl⟩
    subst hwe
    have ly := LY.out.below hbgX
    clear LY
    replace stA := st_below stA hbgX
    clear hbgX
    obtain ⟨⟨p0, p1, p2, p3, p4, p5⟩, p6, z1, z2⟩ := ly.sfacts
    obtain ⟨⟨q0, q1⟩, q2⟩ := ly.pfacts
    go_wp2_with fail
    refine (cmore_any ⟨ab, fi, dr, ne, co, la⟩ _ _ _ _ _ hb HH.out _ now0 now1 i0 i1 SO.out).mono ?_
    rw [HM.out]
    rintro e wD ⟨rfl, hb2⟩
    replace ly := ly.below hb2
    replace stA := st_below stA hb2
    replace stgX := st_below stgX hb2
    clear hb2
    clear p0 p1 p2 p3 p4 p5 p6 z1 z2 q0 q1 q2
    go_upto_region 6 with fail
    refine wp_worldc (fun wx => Ly w wx ⟨ab, fi, dr, ne, co, la⟩ t i ∧ Stt wx wA.heap.size 24 ⟨aa, af, ad, an, ac, al⟩ ∧ Stt wx gX 30 ⟨aa, af, ad, an, ac, al⟩ ∧ Stt wx wD.heap.size 24 ⟨ba, bf, bd, bnn, bc, bl⟩) ⟨ly.alloc _, Blk.alloc_ stA _, Blk.alloc_ stgX _, Blk.made wD _ _⟩ ?_
    clear ly stA stgX
    rintro wE ⟨ly, stA, stgX, stB⟩
    have LY := Lib.hid ly
    have hB := Lib.hid (Below.refl wE.heap.size wE)
    go_cut [17, 18] (fun s17 s18 wx => ∃ g : Nat, s17 = .pointer (some ⟨g, 0, none⟩) ∧ s18 = .int .i64 u ∧ Stt wx g 30 ⟨ba, bf, bd, bnn, bc, bl⟩ ∧ Below wE.heap.size wE wx)
    case first =>
      have ly := LY.out
      have gz := ly.lt
      obtain ⟨⟨p0, p1, p2, p3, p4, p5⟩, p6, z1, z2⟩ := ly.sfacts
      obtain ⟨⟨q0, q1⟩, q2⟩ := ly.pfacts
      clear ly
      first | (go_region_held3 (fun w' => w'.cell? ⟨w.heap.size, 0, none⟩ = some (.bool ab) ∧ w'.cell? ⟨w.heap.size, 1, none⟩ = some (.int .i64 fi) ∧ w'.cell? ⟨w.heap.size, 2, none⟩ = some (.bool dr) ∧ w'.cell? ⟨w.heap.size, 3, none⟩ = some (.int .i64 ne) ∧ w'.cell? ⟨w.heap.size, 4, none⟩ = some (.int .u64 co) ∧ w'.cell? ⟨w.heap.size, 5, none⟩ = some (.int .u64 la) ∧ w'.cell? ⟨w.heap.size + 1, 0, none⟩ = some (.int .i64 t) ∧ w'.cell? ⟨w.heap.size + 1, 1, none⟩ = some (.int .i64 i)) (repeat (first | with_reducible assumption | refine ⟨?_, ?_⟩ | with_reducible refine kdrew ?_ | with_reducible refine kalloc ?_ _ | with_reducible refine kother ?_ (by simp; try omega))) (first | (go_at_call 12; refine (own8 _ _ _ _ _ _ _).mono ?_; rintro e wn ⟨rfl, hbn⟩; (try (first | (have bn0 := Blk.below_ bn.out hbn bn.out.size) | (have bn0 := Blk.below_ (Blk.drew_ bn.out) hbn bn.out.size) | (have bn0 := Blk.below_ (Blk.made _ _ _) hbn (by simp)) | (have bn0 := Blk.below_ (Blk.drew_ (Blk.made _ _ _)) hbn (by simp))); (try clear bn); have bn := Lib.hid bn0; clear bn0); (try (have b0_ := bn.out.val (i := 0) rfl; have b1_ := bn.out.val (i := 1) rfl; have b2_ := bn.out.val (i := 2) rfl; have b3_ := bn.out.val (i := 3) rfl; have b4_ := bn.out.val (i := 4) rfl; have b5_ := bn.out.val (i := 5) rfl; have b6_ := bn.out.free)); (try (have bs0 : Stt wn _ 30 ⟨false, 0, false, 0, 0, 0⟩ := bn.out; (try clear bs); have bs := Lib.hid bs0; clear bs0)); have hB2 := Lib.hid ((show Below wE.heap.size wE _ from (by repeat (first | with_reducible exact hB.out | with_reducible refine Below.drew ?_ | refine Below.alloc ?_ (by have := hB.out.size; (try simp); (try omega)) _))).trans (hbn.mono (by have := hB.out.size; (try simp); (try omega)))); clear hB; have hB := hB2; clear hB2 hbn; have ly := LY.out.below hB.out; have gz := ly.lt; have gs := hB.out.size; clear p0 p1 p2 p3 p4 p5 p6 z1 z2 q0 q1 q2; obtain ⟨⟨p0, p1, p2, p3, p4, p5⟩, p6, z1, z2⟩ := ly.sfacts; obtain ⟨⟨q0, q1⟩, q2⟩ := ly.pfacts; clear ly) | (go_at_call 14; refine (rmor_any ⟨ab, fi, dr, ne, co, la⟩ _ _ _ _ _ hb HH.out _ now0 now1 i0 i1 SO.out).mono ?_; rw [HM.out]; rintro e wn ⟨rfl, hbn⟩; (try (first | (have bn0 := Blk.below_ bn.out hbn bn.out.size) | (have bn0 := Blk.below_ (Blk.drew_ bn.out) hbn bn.out.size) | (have bn0 := Blk.below_ (Blk.made _ _ _) hbn (by simp)) | (have bn0 := Blk.below_ (Blk.drew_ (Blk.made _ _ _)) hbn (by simp))); (try clear bn); have bn := Lib.hid bn0; clear bn0); (try (have b0_ := bn.out.val (i := 0) rfl; have b1_ := bn.out.val (i := 1) rfl; have b2_ := bn.out.val (i := 2) rfl; have b3_ := bn.out.val (i := 3) rfl; have b4_ := bn.out.val (i := 4) rfl; have b5_ := bn.out.val (i := 5) rfl; have b6_ := bn.out.free)); (try (have bs0 : Stt wn _ 30 ⟨false, 0, false, 0, 0, 0⟩ := bn.out; (try clear bs); have bs := Lib.hid bs0; clear bs0)); have hB2 := Lib.hid ((show Below wE.heap.size wE _ from (by repeat (first | with_reducible exact hB.out | with_reducible refine Below.drew ?_ | refine Below.alloc ?_ (by have := hB.out.size; (try simp); (try omega)) _))).trans (hbn.mono (by have := hB.out.size; (try simp); (try omega)))); clear hB; have hB := hB2; clear hB2 hbn; have ly := LY.out.below hB.out; have gz := ly.lt; have gs := hB.out.size; clear p0 p1 p2 p3 p4 p5 p6 z1 z2 q0 q1 q2; obtain ⟨⟨p0, p1, p2, p3, p4, p5⟩, p6, z1, z2⟩ := ly.sfacts; obtain ⟨⟨q0, q1⟩, q2⟩ := ly.pfacts; clear ly))) | fail
      all_goals (go_wp2_with fail; go_meet; exact ⟨_, rfl, rfl, (by first | with_reducible exact bs.out.store _ _ _ _ _ _ | (unfold Stt; dsimp only; with_reducible exact Blk.made _ _ _) | (unfold Stt; dsimp only; with_reducible exact Blk.drew_ (Blk.made _ _ _))), (by repeat (first | with_reducible exact hB.out | with_reducible refine Below.drew ?_ | refine Below.setCell ?_ (by have := hB.out.size; (try simp); (try omega)) _ | refine Below.alloc ?_ (by have := hB.out.size; (try simp); (try omega)) _))⟩)
    case rest =>
      clear ly hB
      obtain ⟨gZ, rfl, rfl, stgZ, hbgZ⟩ := hcut
      obtain ⟨wF, hwe⟩ : ∃ x, x = wc := ⟨_, rfl⟩
      subst hwe
      have ly := LY.out.below hbgZ
      clear LY
      replace stA := st_below stA hbgZ
      replace stgX := st_below stgX hbgZ
      replace stB := st_below stB hbgZ
      clear hbgZ
      go_upto_region 7 with fail
      have LY := Lib.hid ly
      have hB := Lib.hid (Below.refl wF.heap.size wF)
      go_cut [19, 20] (fun s19 s20 wx => ∃ g : Nat, s19 = .pointer (some ⟨g, 0, none⟩) ∧ s20 = .bool p ∧ Stt wx g 30 ⟨na, nf, nd, nn, nc, nl⟩ ∧ Below wF.heap.size wF wx)
      case first =>
        have ly := LY.out
        have gz := ly.lt
        obtain ⟨⟨p0, p1, p2, p3, p4, p5⟩, p6, z1, z2⟩ := ly.sfacts
        obtain ⟨⟨q0, q1⟩, q2⟩ := ly.pfacts
        clear ly
        first | (go_region_held3 (fun w' => w'.cell? ⟨w.heap.size, 0, none⟩ = some (.bool ab) ∧ w'.cell? ⟨w.heap.size, 1, none⟩ = some (.int .i64 fi) ∧ w'.cell? ⟨w.heap.size, 2, none⟩ = some (.bool dr) ∧ w'.cell? ⟨w.heap.size, 3, none⟩ = some (.int .i64 ne) ∧ w'.cell? ⟨w.heap.size, 4, none⟩ = some (.int .u64 co) ∧ w'.cell? ⟨w.heap.size, 5, none⟩ = some (.int .u64 la) ∧ w'.cell? ⟨w.heap.size + 1, 0, none⟩ = some (.int .i64 t) ∧ w'.cell? ⟨w.heap.size + 1, 1, none⟩ = some (.int .i64 i)) (repeat (first | with_reducible assumption | refine ⟨?_, ?_⟩ | with_reducible refine kdrew ?_ | with_reducible refine kalloc ?_ _ | with_reducible refine kother ?_ (by simp; try omega))) (first | (go_at_call 12; refine (own8 _ _ _ _ _ _ _).mono ?_; rintro e wn ⟨rfl, hbn⟩; (try (first | (have bn0 := Blk.below_ bn.out hbn bn.out.size) | (have bn0 := Blk.below_ (Blk.drew_ bn.out) hbn bn.out.size) | (have bn0 := Blk.below_ (Blk.made _ _ _) hbn (by simp)) | (have bn0 := Blk.below_ (Blk.drew_ (Blk.made _ _ _)) hbn (by simp))); (try clear bn); have bn := Lib.hid bn0; clear bn0); (try (have b0_ := bn.out.val (i := 0) rfl; have b1_ := bn.out.val (i := 1) rfl; have b2_ := bn.out.val (i := 2) rfl; have b3_ := bn.out.val (i := 3) rfl; have b4_ := bn.out.val (i := 4) rfl; have b5_ := bn.out.val (i := 5) rfl; have b6_ := bn.out.free)); (try (have bs0 : Stt wn _ 30 ⟨false, 0, false, 0, 0, 0⟩ := bn.out; (try clear bs); have bs := Lib.hid bs0; clear bs0)); have hB2 := Lib.hid ((show Below wF.heap.size wF _ from (by repeat (first | with_reducible exact hB.out | with_reducible refine Below.drew ?_ | refine Below.alloc ?_ (by have := hB.out.size; (try simp); (try omega)) _))).trans (hbn.mono (by have := hB.out.size; (try simp); (try omega)))); clear hB; have hB := hB2; clear hB2 hbn; have ly := LY.out.below hB.out; have gz := ly.lt; have gs := hB.out.size; clear p0 p1 p2 p3 p4 p5 p6 z1 z2 q0 q1 q2; obtain ⟨⟨p0, p1, p2, p3, p4, p5⟩, p6, z1, z2⟩ := ly.sfacts; obtain ⟨⟨q0, q1⟩, q2⟩ := ly.pfacts; clear ly) | (go_at_call 15; refine (rnote_any ⟨ab, fi, dr, ne, co, la⟩ _ _ _ _ _ hb HH.out _ now0 now1 i0 i1).mono ?_; rw [HN.out, HP.out]; rintro e wn ⟨rfl, hbn⟩; (try (first | (have bn0 := Blk.below_ bn.out hbn bn.out.size) | (have bn0 := Blk.below_ (Blk.drew_ bn.out) hbn bn.out.size) | (have bn0 := Blk.below_ (Blk.made _ _ _) hbn (by simp)) | (have bn0 := Blk.below_ (Blk.drew_ (Blk.made _ _ _)) hbn (by simp))); (try clear bn); have bn := Lib.hid bn0; clear bn0); (try (have b0_ := bn.out.val (i := 0) rfl; have b1_ := bn.out.val (i := 1) rfl; have b2_ := bn.out.val (i := 2) rfl; have b3_ := bn.out.val (i := 3) rfl; have b4_ := bn.out.val (i := 4) rfl; have b5_ := bn.out.val (i := 5) rfl; have b6_ := bn.out.free)); (try (have bs0 : Stt wn _ 30 ⟨false, 0, false, 0, 0, 0⟩ := bn.out; (try clear bs); have bs := Lib.hid bs0; clear bs0)); have hB2 := Lib.hid ((show Below wF.heap.size wF _ from (by repeat (first | with_reducible exact hB.out | with_reducible refine Below.drew ?_ | refine Below.alloc ?_ (by have := hB.out.size; (try simp); (try omega)) _))).trans (hbn.mono (by have := hB.out.size; (try simp); (try omega)))); clear hB; have hB := hB2; clear hB2 hbn; have ly := LY.out.below hB.out; have gz := ly.lt; have gs := hB.out.size; clear p0 p1 p2 p3 p4 p5 p6 z1 z2 q0 q1 q2; obtain ⟨⟨p0, p1, p2, p3, p4, p5⟩, p6, z1, z2⟩ := ly.sfacts; obtain ⟨⟨q0, q1⟩, q2⟩ := ly.pfacts; clear ly))) | fail
        all_goals (go_wp2_with fail; go_meet; exact ⟨_, rfl, rfl, (by first | with_reducible exact bs.out.store _ _ _ _ _ _ | (unfold Stt; dsimp only; with_reducible exact Blk.made _ _ _) | (unfold Stt; dsimp only; with_reducible exact Blk.drew_ (Blk.made _ _ _))), (by repeat (first | with_reducible exact hB.out | with_reducible refine Below.drew ?_ | refine Below.setCell ?_ (by have := hB.out.size; (try simp); (try omega)) _ | refine Below.alloc ?_ (by have := hB.out.size; (try simp); (try omega)) _))⟩)
      case rest =>
        clear ly hB
        obtain ⟨gN, rfl, rfl, stgN, hbgN⟩ := hcut
        obtain ⟨wG, hwe⟩ : ∃ x, x = wc := ⟨_, rfl⟩
        subst hwe
        have ly := LY.out.below hbgN
        clear LY
        replace stA := st_below stA hbgN
        replace stgX := st_below stgX hbgN
        replace stB := st_below stB hbgN
        replace stgZ := st_below stgZ hbgN
        clear hbgN
        obtain ⟨⟨p0, p1, p2, p3, p4, p5⟩, p6, z1, z2⟩ := ly.sfacts
        obtain ⟨⟨q0, q1⟩, q2⟩ := ly.pfacts
        obtain ⟨⟨a_0, a_1, a_2, a_3, a_4, a_5⟩, yA⟩ := st_facts stA
        obtain ⟨⟨gx_0, gx_1, gx_2, gx_3, gx_4, gx_5⟩, ygX⟩ := st_facts stgX
        obtain ⟨⟨b_0, b_1, b_2, b_3, b_4, b_5⟩, yB⟩ := st_facts stB
        obtain ⟨⟨gz_0, gz_1, gz_2, gz_3, gz_4, gz_5⟩, ygZ⟩ := st_facts stgZ
        obtain ⟨⟨gn_0, gn_1, gn_2, gn_3, gn_4, gn_5⟩, ygN⟩ := st_facts stgN
        go_wp2_with fail
        refine (cempty_lit _ _ _ _ _ _ _).mono ?_
        rintro e wH ⟨rfl, hb2⟩
        replace ly := ly.below hb2
        replace stA := st_below stA hb2
        replace stgX := st_below stgX hb2
        replace stB := st_below stB hb2
        replace stgZ := st_below stgZ hb2
        replace stgN := st_below stgN hb2
        clear hb2
        clear p0 p1 p2 p3 p4 p5 p6 z1 z2 q0 q1 q2
        clear a_0 a_1 a_2 a_3 a_4 a_5 yA
        clear gx_0 gx_1 gx_2 gx_3 gx_4 gx_5 ygX
        clear b_0 b_1 b_2 b_3 b_4 b_5 yB
        clear gz_0 gz_1 gz_2 gz_3 gz_4 gz_5 ygZ
        clear gn_0 gn_1 gn_2 gn_3 gn_4 gn_5 ygN
        obtain ⟨⟨p0, p1, p2, p3, p4, p5⟩, p6, z1, z2⟩ := ly.sfacts
        obtain ⟨⟨q0, q1⟩, q2⟩ := ly.pfacts
        obtain ⟨⟨a_0, a_1, a_2, a_3, a_4, a_5⟩, yA⟩ := st_facts stA
        obtain ⟨⟨gx_0, gx_1, gx_2, gx_3, gx_4, gx_5⟩, ygX⟩ := st_facts stgX
        obtain ⟨⟨b_0, b_1, b_2, b_3, b_4, b_5⟩, yB⟩ := st_facts stB
        obtain ⟨⟨gz_0, gz_1, gz_2, gz_3, gz_4, gz_5⟩, ygZ⟩ := st_facts stgZ
        obtain ⟨⟨gn_0, gn_1, gn_2, gn_3, gn_4, gn_5⟩, ygN⟩ := st_facts stgN
        go_upto_region 9 with fail
        refine wp_worldc (fun wx => Ly w wx ⟨ab, fi, dr, ne, co, la⟩ t i ∧ Stt wx wA.heap.size 24 ⟨aa, af, ad, an, ac, al⟩ ∧ Stt wx gX 30 ⟨aa, af, ad, an, ac, al⟩ ∧ Stt wx wD.heap.size 24 ⟨ba, bf, bd, bnn, bc, bl⟩ ∧ Stt wx gZ 30 ⟨ba, bf, bd, bnn, bc, bl⟩ ∧ Stt wx gN 30 ⟨na, nf, nd, nn, nc, nl⟩ ∧ Stt wx wH.heap.size 24 ⟨false, 0, false, ne, co, la⟩) ⟨ly.alloc _, Blk.alloc_ stA _, Blk.alloc_ stgX _, Blk.alloc_ stB _, Blk.alloc_ stgZ _, Blk.alloc_ stgN _, Blk.made wH _ _⟩ ?_
        clear p0 p1 p2 p3 p4 p5 p6 z1 z2 q0 q1 q2
        clear a_0 a_1 a_2 a_3 a_4 a_5 yA
        clear gx_0 gx_1 gx_2 gx_3 gx_4 gx_5 ygX
        clear b_0 b_1 b_2 b_3 b_4 b_5 yB
        clear gz_0 gz_1 gz_2 gz_3 gz_4 gz_5 ygZ
        clear gn_0 gn_1 gn_2 gn_3 gn_4 gn_5 ygN
        clear ly stA stgX stB stgZ stgN
        rintro wM ⟨ly, stA, stgX, stB, stgZ, stgN, stE⟩
        obtain ⟨⟨p0, p1, p2, p3, p4, p5⟩, p6, z1, z2⟩ := ly.sfacts
        obtain ⟨⟨q0, q1⟩, q2⟩ := ly.pfacts
        obtain ⟨⟨a_0, a_1, a_2, a_3, a_4, a_5⟩, yA⟩ := st_facts stA
        obtain ⟨⟨gx_0, gx_1, gx_2, gx_3, gx_4, gx_5⟩, ygX⟩ := st_facts stgX
        obtain ⟨⟨b_0, b_1, b_2, b_3, b_4, b_5⟩, yB⟩ := st_facts stB
        obtain ⟨⟨gz_0, gz_1, gz_2, gz_3, gz_4, gz_5⟩, ygZ⟩ := st_facts stgZ
        obtain ⟨⟨gn_0, gn_1, gn_2, gn_3, gn_4, gn_5⟩, ygN⟩ := st_facts stgN
        obtain ⟨⟨e_0, e_1, e_2, e_3, e_4, e_5⟩, yE⟩ := st_facts stE
        simp only [List.append]
        first | (go_region_held3 (fun w' => w'.cell? ⟨w.heap.size, 0, none⟩ = some (.bool ab) ∧ w'.cell? ⟨w.heap.size, 1, none⟩ = some (.int .i64 fi) ∧ w'.cell? ⟨w.heap.size, 2, none⟩ = some (.bool dr) ∧ w'.cell? ⟨w.heap.size, 3, none⟩ = some (.int .i64 ne) ∧ w'.cell? ⟨w.heap.size, 4, none⟩ = some (.int .u64 co) ∧ w'.cell? ⟨w.heap.size, 5, none⟩ = some (.int .u64 la) ∧ w'.cell? ⟨w.heap.size + 1, 0, none⟩ = some (.int .i64 t) ∧ w'.cell? ⟨w.heap.size + 1, 1, none⟩ = some (.int .i64 i) ∧ w'.cell? ⟨wA.heap.size, 0, none⟩ = some (.bool aa) ∧ w'.cell? ⟨wA.heap.size, 1, none⟩ = some (.int .i64 af) ∧ w'.cell? ⟨wA.heap.size, 2, none⟩ = some (.bool ad) ∧ w'.cell? ⟨wA.heap.size, 3, none⟩ = some (.int .i64 an) ∧ w'.cell? ⟨wA.heap.size, 4, none⟩ = some (.int .u64 ac) ∧ w'.cell? ⟨wA.heap.size, 5, none⟩ = some (.int .u64 al) ∧ w'.cell? ⟨gX, 0, none⟩ = some (.bool aa) ∧ w'.cell? ⟨gX, 1, none⟩ = some (.int .i64 af) ∧ w'.cell? ⟨gX, 2, none⟩ = some (.bool ad) ∧ w'.cell? ⟨gX, 3, none⟩ = some (.int .i64 an) ∧ w'.cell? ⟨gX, 4, none⟩ = some (.int .u64 ac) ∧ w'.cell? ⟨gX, 5, none⟩ = some (.int .u64 al) ∧ w'.cell? ⟨wD.heap.size, 0, none⟩ = some (.bool ba) ∧ w'.cell? ⟨wD.heap.size, 1, none⟩ = some (.int .i64 bf) ∧ w'.cell? ⟨wD.heap.size, 2, none⟩ = some (.bool bd) ∧ w'.cell? ⟨wD.heap.size, 3, none⟩ = some (.int .i64 bnn) ∧ w'.cell? ⟨wD.heap.size, 4, none⟩ = some (.int .u64 bc) ∧ w'.cell? ⟨wD.heap.size, 5, none⟩ = some (.int .u64 bl) ∧ w'.cell? ⟨gZ, 0, none⟩ = some (.bool ba) ∧ w'.cell? ⟨gZ, 1, none⟩ = some (.int .i64 bf) ∧ w'.cell? ⟨gZ, 2, none⟩ = some (.bool bd) ∧ w'.cell? ⟨gZ, 3, none⟩ = some (.int .i64 bnn) ∧ w'.cell? ⟨gZ, 4, none⟩ = some (.int .u64 bc) ∧ w'.cell? ⟨gZ, 5, none⟩ = some (.int .u64 bl) ∧ w'.cell? ⟨gN, 0, none⟩ = some (.bool na) ∧ w'.cell? ⟨gN, 1, none⟩ = some (.int .i64 nf) ∧ w'.cell? ⟨gN, 2, none⟩ = some (.bool nd) ∧ w'.cell? ⟨gN, 3, none⟩ = some (.int .i64 nn) ∧ w'.cell? ⟨gN, 4, none⟩ = some (.int .u64 nc) ∧ w'.cell? ⟨gN, 5, none⟩ = some (.int .u64 nl) ∧ w'.cell? ⟨wH.heap.size, 0, none⟩ = some (.bool false) ∧ w'.cell? ⟨wH.heap.size, 1, none⟩ = some (.int .i64 0) ∧ w'.cell? ⟨wH.heap.size, 2, none⟩ = some (.bool false) ∧ w'.cell? ⟨wH.heap.size, 3, none⟩ = some (.int .i64 ne) ∧ w'.cell? ⟨wH.heap.size, 4, none⟩ = some (.int .u64 co) ∧ w'.cell? ⟨wH.heap.size, 5, none⟩ = some (.int .u64 la)) (repeat (first | with_reducible assumption | refine ⟨?_, ?_⟩ | with_reducible refine kdrew ?_)) (first | (go_at_call 12; refine (own8 _ _ _ _ _ _ _).mono ?_; rintro e wn ⟨rfl, hbn⟩; (first | (replace ly := ly.below hbn; replace stA := st_below stA hbn; replace stgX := st_below stgX hbn; replace stB := st_below stB hbn; replace stgZ := st_below stgZ hbn; replace stgN := st_below stgN hbn; replace stE := st_below stE hbn) | (replace ly := ly.drew.below hbn; replace stA := st_below (st_drew stA) hbn; replace stgX := st_below (st_drew stgX) hbn; replace stB := st_below (st_drew stB) hbn; replace stgZ := st_below (st_drew stgZ) hbn; replace stgN := st_below (st_drew stgN) hbn; replace stE := st_below (st_drew stE) hbn)); clear hbn; clear p0 p1 p2 p3 p4 p5 p6 z1 z2 q0 q1 q2; clear a_0 a_1 a_2 a_3 a_4 a_5 yA; clear gx_0 gx_1 gx_2 gx_3 gx_4 gx_5 ygX; clear b_0 b_1 b_2 b_3 b_4 b_5 yB; clear gz_0 gz_1 gz_2 gz_3 gz_4 gz_5 ygZ; clear gn_0 gn_1 gn_2 gn_3 gn_4 gn_5 ygN; clear e_0 e_1 e_2 e_3 e_4 e_5 yE; obtain ⟨⟨p0, p1, p2, p3, p4, p5⟩, p6, z1, z2⟩ := ly.sfacts; obtain ⟨⟨q0, q1⟩, q2⟩ := ly.pfacts; obtain ⟨⟨a_0, a_1, a_2, a_3, a_4, a_5⟩, yA⟩ := st_facts stA; obtain ⟨⟨gx_0, gx_1, gx_2, gx_3, gx_4, gx_5⟩, ygX⟩ := st_facts stgX; obtain ⟨⟨b_0, b_1, b_2, b_3, b_4, b_5⟩, yB⟩ := st_facts stB; obtain ⟨⟨gz_0, gz_1, gz_2, gz_3, gz_4, gz_5⟩, ygZ⟩ := st_facts stgZ; obtain ⟨⟨gn_0, gn_1, gn_2, gn_3, gn_4, gn_5⟩, ygN⟩ := st_facts stgN; obtain ⟨⟨e_0, e_1, e_2, e_3, e_4, e_5⟩, yE⟩ := st_facts stE) | (go_at_call 17; refine (cnote_any ⟨ab, fi, dr, ne, co, la⟩ _ _ _ _ _ hb HH.out _ now0 now1 i0 i1).mono ?_; rw [HN.out]; rintro e wn ⟨rfl, hbn⟩; (first | (replace ly := ly.below hbn; replace stA := st_below stA hbn; replace stgX := st_below stgX hbn; replace stB := st_below stB hbn; replace stgZ := st_below stgZ hbn; replace stgN := st_below stgN hbn; replace stE := st_below stE hbn) | (replace ly := ly.drew.below hbn; replace stA := st_below (st_drew stA) hbn; replace stgX := st_below (st_drew stgX) hbn; replace stB := st_below (st_drew stB) hbn; replace stgZ := st_below (st_drew stgZ) hbn; replace stgN := st_below (st_drew stgN) hbn; replace stE := st_below (st_drew stE) hbn)); clear hbn; clear p0 p1 p2 p3 p4 p5 p6 z1 z2 q0 q1 q2; clear a_0 a_1 a_2 a_3 a_4 a_5 yA; clear gx_0 gx_1 gx_2 gx_3 gx_4 gx_5 ygX; clear b_0 b_1 b_2 b_3 b_4 b_5 yB; clear gz_0 gz_1 gz_2 gz_3 gz_4 gz_5 ygZ; clear gn_0 gn_1 gn_2 gn_3 gn_4 gn_5 ygN; clear e_0 e_1 e_2 e_3 e_4 e_5 yE; obtain ⟨⟨p0, p1, p2, p3, p4, p5⟩, p6, z1, z2⟩ := ly.sfacts; obtain ⟨⟨q0, q1⟩, q2⟩ := ly.pfacts; obtain ⟨⟨a_0, a_1, a_2, a_3, a_4, a_5⟩, yA⟩ := st_facts stA; obtain ⟨⟨gx_0, gx_1, gx_2, gx_3, gx_4, gx_5⟩, ygX⟩ := st_facts stgX; obtain ⟨⟨b_0, b_1, b_2, b_3, b_4, b_5⟩, yB⟩ := st_facts stB; obtain ⟨⟨gz_0, gz_1, gz_2, gz_3, gz_4, gz_5⟩, ygZ⟩ := st_facts stgZ; obtain ⟨⟨gn_0, gn_1, gn_2, gn_3, gn_4, gn_5⟩, ygN⟩ := st_facts stgN; obtain ⟨⟨e_0, e_1, e_2, e_3, e_4, e_5⟩, yE⟩ := st_facts stE))) | fail
        all_goals (go_wp2_with fail; go_ret; exact ⟨rfl, by first | exact ly.be | exact ly.drew.be⟩)
set_option maxRecDepth 100000 in
theorem lifted (os : Os) (started : os.Started) (H : Type) (enc : TypeId × Value → H) :
    ReturnsInHanded {} Try.checked os 3 .any (Rows.codelLooksSpec.pre6 enc Try.prog Try.f3 Rows.codelLooksRow.domain false) (Rows.codelLooksSpec.post enc Try.prog Try.f3 false true false false) := by
  refine returnsInHanded_of_change (C := Try.checked) own started (by kernel_rfl) Try.func3
    (ChangeSpec.witness6 (enc := enc) (C := Try.checked) false ⟨#[], #[.agg #[.bool false, .int .i64 0, .bool false, .int .i64 0, .int .u64 0, .int .u64 0], .agg #[.int .i64 0, .int .i64 0], .int .i64 0, .int .i64 0, .int .i64 0], []⟩ 8 (by kernel_rfl) (by kernel_rfl) (by kernel_rfl) (by kernel_rfl)) ?_
  intro W base args ds gs before hval0 hW hcnd _
  have hval : ∀ (j : Nat) t v, Try.f3.params[j]? = some t → args[j]? = some v → Value.okWide Try.prog W .any base t v := hval0
  have hW' := hW
  obtain ⟨p, q, hA0, hV, rfl, hfz, hnd⟩ := hW
  have hA : DataW.TrodAll enc Try.prog W 0 (fun _ => true) true Try.f3.params.toList args.toList ds p := hA0
  rw [Try.params3] at hA hval
  obtain ⟨v0, vs0, d0, ds0, p0, q0, hargs, rfl, rfl, h0, r0⟩ := trodAll_cons hA
  obtain ⟨v1, vs1, d1, ds1, p1, q1, rfl, rfl, rfl, h1, r1⟩ := trodAll_cons r0
  obtain ⟨v2, vs2, d2, ds2, p2, q2, rfl, rfl, rfl, h2, r2⟩ := trodAll_cons r1
  obtain ⟨v3, vs3, d3, ds3, p3, q3, rfl, rfl, rfl, h3, r3⟩ := trodAll_cons r2
  obtain ⟨v4, vs4, d4, ds4, p4, q4, rfl, rfl, rfl, h4, r4⟩ := trodAll_cons r3
  obtain ⟨rfl, rfl, rfl⟩ := trodAll_nil r4
  obtain rfl : args = #[v0, v1, v2, v3, v4] := by cases args; simp_all
  obtain ⟨rfl, rfl⟩ := trodVars_none hV
  obtain ⟨x00, x01, x02, x03, x04, x05, y00, y01, y02, y03, y04, y05, n0, rfl, g00, g01, g02, g03, g04, g05⟩ := open_six Try.underlying24 (by kernel_rfl) (by kernel_rfl) (hval 0 _ v0 rfl rfl) h0
  obtain ⟨a00, e00, ez00⟩ := DataW.trod_bool Try.underlying4 g00
  simp at e00
  subst e00
  obtain ⟨a01, e01, ez01, w01⟩ := DataW.trod_int Try.underlying2 g01
  simp at e01
  subst e01
  obtain ⟨a02, e02, ez02⟩ := DataW.trod_bool Try.underlying4 g02
  simp at e02
  subst e02
  obtain ⟨a03, e03, ez03, w03⟩ := DataW.trod_int Try.underlying2 g03
  simp at e03
  subst e03
  obtain ⟨a04, e04, ez04, w04⟩ := DataW.trod_int Try.underlying22 g04
  simp at e04
  subst e04
  obtain ⟨a05, e05, ez05, w05⟩ := DataW.trod_int Try.underlying22 g05
  simp at e05
  subst e05
  obtain ⟨x10, x11, y10, y11, n1, rfl, g10, g11⟩ := open_two Try.underlying26 (by kernel_rfl) (by kernel_rfl) (hval 1 _ v1 rfl rfl) h1
  obtain ⟨a10, e10, ez10, w10⟩ := DataW.trod_int Try.underlying2 g10
  simp at e10
  subst e10
  obtain ⟨a11, e11, ez11, w11⟩ := DataW.trod_int Try.underlying2 g11
  simp at e11
  subst e11
  obtain ⟨a2, rfl, rfl, rfl, w2⟩ := open_int Try.underlying2 (hval 2 _ v2 rfl rfl) h2
  obtain ⟨a3, rfl, rfl, rfl, w3⟩ := open_int Try.underlying2 (hval 3 _ v3 rfl rfl) h3
  obtain ⟨a4, rfl, rfl, rfl, w4⟩ := open_int Try.underlying3 (hval 4 _ v4 rfl rfl) h4
  clear hA0 hval0
  obtain ⟨l01, m01⟩ := wf_i64 w01
  obtain ⟨l03, m03⟩ := wf_i64 w03
  obtain ⟨l04, m04⟩ := wf_u64 w04
  obtain ⟨l05, m05⟩ := wf_u64 w05
  obtain ⟨l10, m10⟩ := wf_i64 w10
  obtain ⟨l11, m11⟩ := wf_i64 w11
  obtain ⟨l2, m2⟩ := wf_i64 w2
  obtain ⟨l3, m3⟩ := wf_i64 w3
  obtain ⟨l4, m4⟩ := wf_i64 w4
  refine (walk a00 a01 a02 a03 a04 a05 a10 a11 a2 a3 a4 W l01 m01 l03 m03 l04 m04 l05 m05 l10 m10 l11 m11 l2 m2 l3 m3 l4 m4).mono fun e W' ⟨he, hg⟩ => ?_
  subst he
  exact ⟨_, rfl, post_of_law hW' rfl laidOut reads rfl Try.underlying4 rfl rfl rfl hg⟩
theorem over : Rows.codelLooksRow.holds Try.pinned (OpenSpec.ofChange Rows.codelLooksSpec) :=
  OpenClaim.holds_of_wide 3 Try.f3 rfl rfl rfl rfl rfl rfl rfl ⟨rfl, rfl, rfl, rfl, rfl⟩ rfl rfl rfl rfl rfl (by kernel_rfl) Try.func3 (by kernel_rfl)
    (of_decide_eq_true (by kernel_rfl)) (by unfold Func.isWrapper; first | (rw [if_pos (by decide +kernel)]; kernel_rfl) | (rw [if_neg (by decide +kernel)]; exact ⟨rfl, rfl⟩))
    (fun os started H enc _ => lifted os started H enc)
theorem proved : Rows.CodelLooksSaid := over
end Go.Proofs.Ytkmhdkhaoegbjaa.codelLooks
