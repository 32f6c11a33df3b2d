/- CodelSpares is true of every state, all params, every time, sojourn and backlog, and changes nothing that it was given. -/
import Derived.Test.YtkmhdkhaoegbjaaCodw
import Derived.Test.YtkmhdkhaoegbjaaOst
import Derived.Test.YtkmhdkhaoegbjaaRefd
import Derived.Test.YtkmhdkhaoegbjaaRefg
import Derived.Test.YtkmhdkhaoegbjaaRowb
import Derived.Test.YtkmhdkhaoegbjaaRows
import Derived.WalkKit
import Derived.ProofKit
import Derived.OpenShut
import Derived.Deep.DeepCutAuto
import Derived.Deep.RegionHeld3
import Derived.Deep.RegionWith
namespace Go.Proofs.Ytkmhdkhaoegbjaa.codelSpares
open Go.ChangeShapes Go.WideShapes Go.ChangeAt Go.RowKit Kn
set_option linter.unusedVariables false
theorem own : ownKnob Try.prog.godebug = none := by kernel_rfl
theorem laidOut : laidOutB Try.prog = true := by kernel_rfl
theorem reads : (Try.f8.params.toList.all fun t => Try.prog.readableRec t && decide (t < Try.prog.types.size)) = true := by kernel_rfl
theorem _root_.Go.Proofs.Ytkmhdkhaoegbjaa.Lz.alloc {v w : World} {s a : Cst} {t i : Int} {g : Nat} (h : Lz v w g s a t i) (o : Obj) : Lz v (w.alloc o) g s a t i := ⟨h.l.alloc o, Blk.alloc_ h.c o, h.hg⟩
theorem time_two (s : Cst) (now : Int) : ¬ (timeC s now).2 = 2 := by unfold timeC; split <;> simp
theorem spare0 (s : Cst) (i now : Int) (hb : Bool) (h : (lookC s i now hb).2 = 2) : mayC s now hb = true ∧ lookC s i now hb = (beginC (consC s i now hb) i now, 2) := by
  unfold lookC at h ⊢
  cases hm : mayC s now hb
  · rw [hm] at h; simp at h
  · rw [hm] at h
    cases hd : s.dr
    · exact ⟨rfl, rfl⟩
    · rw [hd] at h; exact absurd h (time_two _ _)
theorem spare1 (s : Cst) (i now : Int) (hb : Bool) (h : (lookC s i now hb).2 = 2) : (lookC s i now hb).1.ne = sat (now + lawZ i (lookC s i now hb).1.co) := by
  rw [(spare0 s i now hb h).2]; rfl
theorem spare2 (s : Cst) (i now t : Int) (hb : Bool) (h : (lookC s i now hb).2 = 2) (ht : now ≤ t) (hn : t < (lookC s i now hb).1.ne) : (lookC (lookC s i now hb).1 i t hb).2 = 0 := by
  obtain ⟨hm, he⟩ := spare0 s i now hb h
  rw [he] at hn ⊢
  have hm' := hm
  unfold mayC at hm'
  simp at hm'
  obtain ⟨⟨ha, hf⟩, hh⟩ := hm'
  have hc : consC s i now hb = { s with dr := s.dr && true } := by unfold consC; rw [hm, hh, noteC_ab _ _ _ ha]
  have hab : (beginC (consC s i now hb) i now).ab = true := by rw [hc]; exact ha
  have hfi : (beginC (consC s i now hb) i now).fi = s.fi := by rw [hc]; rfl
  have hdr : (beginC (consC s i now hb) i now).dr = true := rfl
  generalize beginC (consC s i now hb) i now = b at hn hab hfi hdr ⊢
  have hmb : mayC b t hb = true := by unfold mayC; rw [hab, hfi, hh]; simp; omega
  unfold lookC
  rw [hmb, hdr]
  have hcb : (consC b i t hb).ne = b.ne := cons_ne _ _ _ _
  show (timeC (consC b i t hb) t).2 = 0
  unfold timeC
  rw [hcb, if_pos hn]
theorem spare3 (s : Cst) (i now : Int) (hb : Bool) (ha : s.ab = false) : (lookC s i now hb).2 = 0 := by
  have hm : mayC s now hb = false := by unfold mayC; rw [ha]; rfl
  unfold lookC
  rw [hm]; rfl
theorem cempty_lit (aa : Bool) (af : Int) (ad : Bool) (an ac al : Int) (w : World) :
    Calls Try.prog 16 #[.agg #[.bool aa, .int .i64 af, .bool ad, .int .i64 an, .int .u64 ac, .int .u64 al]] w fun e w' => e = .returned (.agg #[.bool false, .int .i64 0, .bool false, .int .i64 an, .int .u64 ac, .int .u64 al]) ∧ Below w.heap.size w w' := cempty_any ⟨aa, af, ad, an, ac, al⟩ w
theorem wrap_in (x : Int) (h0 : -9223372036854775808 ≤ x) (h1 : x ≤ 9223372036854775807) : IntKind.i64.wrap x = x := by rw [IntKind.wrap_i64]; omega
theorem tmod_in (x : Int) : -1099511627776 < x.tmod 1099511627776 ∧ x.tmod 1099511627776 < 1099511627776 := by
  constructor
  · have := Int.lt_tmod_of_pos x (b := 1099511627776) (by omega); omega
  · exact Int.tmod_lt_of_pos x (by omega)
set_option linter.unusedSimpArgs false
set_option maxRecDepth 100000 in
set_option maxHeartbeats 4000000 in
theorem walk (ab : Bool) (fi : Int) (dr : Bool) (ne co la t i nw j b later : Int) (w : World) (f0 : -9223372036854775808 ≤ fi) (f1 : fi ≤ 9223372036854775807) (ne0 : -9223372036854775808 ≤ ne) (ne1 : ne ≤ 9223372036854775807) (co0 : 0 ≤ co) (co1 : co ≤ 18446744073709551615) (la0 : 0 ≤ la) (la1 : la ≤ 18446744073709551615) (t0 : -9223372036854775808 ≤ t) (t1 : t ≤ 9223372036854775807) (i0 : -9223372036854775808 ≤ i) (i1 : i ≤ 9223372036854775807) (nw0 : -9223372036854775808 ≤ nw) (nw1 : nw ≤ 9223372036854775807) (j0 : -9223372036854775808 ≤ j) (j1 : j ≤ 9223372036854775807) (b0 : -9223372036854775808 ≤ b) (b1 : b ≤ 9223372036854775807) (lt0 : -9223372036854775808 ≤ later) (lt1 : later ≤ 9223372036854775807) :
    Calls Try.prog 8 #[.agg #[.bool ab, .int .i64 fi, .bool dr, .int .i64 ne, .int .u64 co, .int .u64 la], .agg #[.int .i64 t, .int .i64 i], .int .i64 nw, .int .i64 j, .int .i64 b, .int .i64 later] w fun e w' => e = .returned (.bool true) ∧ Below w.heap.size w w' := by
  obtain ⟨J, hJ⟩ : ∃ J, max i 1 = J := ⟨_, rfl⟩
  have J0 : 1 ≤ J := by omega
  have J1 : J ≤ 9223372036854775807 := by omega
  obtain ⟨now, hnow⟩ : ∃ n, nw.tmod 1099511627776 = n := ⟨_, rfl⟩
  obtain ⟨I, hI⟩ : ∃ n, J.tmod 1099511627776 = n := ⟨_, rfl⟩
  obtain ⟨M, hM⟩ : ∃ J, max later 0 = J := ⟨_, rfl⟩
  have M0 : 0 ≤ M := by omega
  obtain ⟨D, hD⟩ : ∃ n, M.tmod 1099511627776 = n := ⟨_, rfl⟩
  have hn2 := tmod_in nw
  rw [hnow] at hn2
  have hi2 := tmod_in J
  rw [hI] at hi2
  have hd2 := tmod_in M
  rw [hD] at hd2
  have I0 : 0 ≤ I := by rw [← hI]; exact Int.tmod_nonneg _ (by omega)
  have D0 : 0 ≤ D := by rw [← hD]; exact Int.tmod_nonneg _ (by omega)
  have w1 : IntKind.i64.wrap now = now := wrap_in _ (by omega) (by omega)
  have w2 : IntKind.i64.wrap I = I := wrap_in _ (by omega) (by omega)
  have w3 : IntKind.i64.wrap D = D := wrap_in _ (by omega) (by omega)
  have w4 : IntKind.i64.wrap (now + D) = now + D := wrap_in _ (by omega) (by omega)
  obtain ⟨hb, hH⟩ : ∃ hb, highB t j b = hb := ⟨_, rfl⟩
  have so : (⟨ab, fi, dr, ne, co, la⟩ : Cst).ok := ⟨by omega, by omega, by omega, by omega, by omega, by omega, by omega, by omega⟩
  obtain ⟨⟨⟨aa, af, ad, an, ac, al⟩, v⟩, hl⟩ : ∃ z, lookC ⟨ab, fi, dr, ne, co, la⟩ I now hb = z := ⟨_, rfl⟩
  have ao : (⟨aa, af, ad, an, ac, al⟩ : Cst).ok := by have := look_ok so I now hb; rw [hl] at this; exact this
  obtain ⟨⟨⟨ea, ef, ed, en, ec, el⟩, ev⟩, hE⟩ : ∃ z, lookC ⟨false, 0, false, an, ac, al⟩ I now hb = z := ⟨_, rfl⟩
  have hev : ev = 0 := by have := spare3 ⟨false, 0, false, an, ac, al⟩ I now hb rfl; rw [hE] at this; exact this
  subst hev
  have h1 : v = 2 → an = sat (now + lawZ I ac) := by have := spare1 ⟨ab, fi, dr, ne, co, la⟩ I now hb; rw [hl] at this; exact this
  have h2 : v = 2 → now + D < an → (lookC ⟨aa, af, ad, an, ac, al⟩ I (now + D) hb).2 = 0 := by have := fun h => spare2 ⟨ab, fi, dr, ne, co, la⟩ I now (now + D) hb h (by omega); rw [hl] at this; exact this
  have lz0 := lawZ_0 I ac
  have lz1 := lawZ_1 I ac (by omega)
  have eo : (⟨false, 0, false, an, ac, al⟩ : Cst).ok := ⟨by show (-9223372036854775808 : Int) ≤ 0; decide, by show (0 : Int) ≤ 9223372036854775807; decide, ao.n0, ao.n1, ao.c0, ao.c1, ao.l0, ao.l1⟩
  have HL := Lib.hid hl
  have HE := Lib.hid hE
  have H1 := Lib.hid h1
  have H2 := Lib.hid h2
  have HH := Lib.hid hH
  have W4 := Lib.hid w4
  clear hl hE h1 h2 hH w4
  go_enter Try.func8, Try.ntmps8
  go_upto_region 1 with fail
  refine wp_worldc (fun wx => Ly w wx ⟨ab, fi, dr, ne, co, la⟩ t i) (Ly.made w _ _ _ _ _ _ _ _) ?_
  rintro w0 ly
  go_wp2_with fail
  refine (awake8 _).mono ?_
  rintro e w1 ⟨rfl, hb1⟩
  replace ly := ly.below hb1
  clear hb1
  obtain ⟨⟨q0, q1⟩, q2⟩ := ly.pfacts
  go_upto_region 4 with fail
  refine wp_worldc (fun wx => Ly w wx ⟨ab, fi, dr, ne, co, la⟩ t J) (ly.setI J) ?_
  clear ly q0 q1 q2
  rintro w2 ly
  obtain ⟨⟨q0, q1⟩, q2⟩ := ly.pfacts
  go_upto_region 6 with fail
  refine wp_worldc (fun wx => Ly w wx ⟨ab, fi, dr, ne, co, la⟩ t I) (ly.setI I) ?_
  clear ly q0 q1 q2
  rintro w3 ly
  obtain ⟨⟨p0, p1, p2, p3, p4, p5⟩, p6, z1, z2⟩ := ly.sfacts
  obtain ⟨⟨q0, q1⟩, q2⟩ := ly.pfacts
  go_wp2_with fail
  refine (clook_any ⟨ab, fi, dr, ne, co, la⟩ _ _ _ _ _ hb HH.out _ (by omega) (by omega) (by omega) (by omega) so).mono ?_
  rw [HL.out]
  rintro e w4 ⟨rfl, hb4⟩
  replace ly := ly.below hb4
  clear hb4 p0 p1 p2 p3 p4 p5 p6 z1 z2 q0 q1 q2
  go_upto_region 7 with fail
  refine wp_worldc (fun wx => Lz w wx w4.heap.size ⟨ab, fi, dr, ne, co, la⟩ ⟨aa, af, ad, an, ac, al⟩ t I) (Lz.made ly _ _ _ _ _ _) ?_
  clear ly
  rintro w5 lz
  go_upto_if 43 with fail
  go_cut [] (fun wx => Lz w wx w4.heap.size ⟨ab, fi, dr, ne, co, la⟩ ⟨aa, af, ad, an, ac, al⟩ t I)
  case first =>
    obtain ⟨⟨p0, p1, p2, p3, p4, p5⟩, p6, z1, z2⟩ := lz.l.sfacts
    obtain ⟨⟨q0, q1⟩, q2⟩ := lz.l.pfacts
    obtain ⟨⟨c0, c1, c2, c3, c4, c5⟩, c6, z3⟩ := lz.cfacts
    by_cases hv : v = 2
    · subst hv
      have en1 := H1.out rfl
      have H3 := Lib.hid (H2.out rfl)
      clear H1 H2
      go_wp2_with fail
      refine (rrlaw_z _ _ _ (by omega) ao.c0 ao.c1).mono ?_
      rintro e wn ⟨rfl, hbn⟩
      replace lz := (show Lz w wn _ _ _ _ _ from by first | exact lz.below hbn | exact lz.drew.below hbn | exact (lz.drewN _).below hbn)
      clear hbn
      clear p0 p1 p2 p3 p4 p5 p6 z1 z2 q0 q1 q2 c0 c1 c2 c3 c4 c5 c6 z3
      obtain ⟨⟨p0, p1, p2, p3, p4, p5⟩, p6, z1, z2⟩ := lz.l.sfacts
      obtain ⟨⟨q0, q1⟩, q2⟩ := lz.l.pfacts
      obtain ⟨⟨c0, c1, c2, c3, c4, c5⟩, c6, z3⟩ := lz.cfacts
      go_wp2_with fail
      refine (radd02_any _ _ _ (by omega) (by omega) (by omega) (by omega)).mono ?_
      rw [← en1]
      rintro e wm ⟨rfl, hbn⟩
      clear en1
      replace lz := (show Lz w wm _ _ _ _ _ from by first | exact lz.below hbn | exact lz.drew.below hbn | exact (lz.drewN _).below hbn)
      clear hbn
      clear p0 p1 p2 p3 p4 p5 p6 z1 z2 q0 q1 q2 c0 c1 c2 c3 c4 c5 c6 z3
      obtain ⟨⟨p0, p1, p2, p3, p4, p5⟩, p6, z1, z2⟩ := lz.l.sfacts
      obtain ⟨⟨q0, q1⟩, q2⟩ := lz.l.pfacts
      obtain ⟨⟨c0, c1, c2, c3, c4, c5⟩, c6, z3⟩ := lz.cfacts
      have w4 := W4.out
      by_cases hlt : now + D < an
      · have hk := H3.out hlt
        obtain ⟨⟨⟨ca, cf, cd, cn, cc, cl⟩, cv⟩, hC⟩ : ∃ z, lookC ⟨aa, af, ad, an, ac, al⟩ I (now + D) hb = z := ⟨_, rfl⟩
        rw [hC] at hk
        have hk2 : cv = 0 := hk
        subst hk2
        clear hk
        have HC := Lib.hid hC
        clear hC
        go_wp2_with fail
        refine (clook_any ⟨aa, af, ad, an, ac, al⟩ _ _ _ _ _ hb HH.out _ (by omega) (by omega) (by omega) (by omega) ao).mono ?_
        rw [HC.out]
        rintro e wk ⟨rfl, hbn⟩
        replace lz := (show Lz w wk _ _ _ _ _ from by first | exact lz.below hbn | exact lz.drew.below hbn | exact (lz.drewN _).below hbn)
        clear hbn
        clear p0 p1 p2 p3 p4 p5 p6 z1 z2 q0 q1 q2 c0 c1 c2 c3 c4 c5 c6 z3
        obtain ⟨⟨p0, p1, p2, p3, p4, p5⟩, p6, z1, z2⟩ := lz.l.sfacts
        obtain ⟨⟨q0, q1⟩, q2⟩ := lz.l.pfacts
        obtain ⟨⟨c0, c1, c2, c3, c4, c5⟩, c6, z3⟩ := lz.cfacts
        go_wp2_with fail
        go_meet
        exact ⟨lz.l.alloc _, Blk.alloc_ lz.c _, lz.hg⟩
      · go_wp2_with fail
        go_meet
        exact lz
    · go_wp2_with fail
      go_meet
      exact lz
  case rest =>
    clear lz
    have lz := hcut
    clear hcut
    obtain ⟨⟨p0, p1, p2, p3, p4, p5⟩, p6, z1, z2⟩ := lz.l.sfacts
    obtain ⟨⟨q0, q1⟩, q2⟩ := lz.l.pfacts
    obtain ⟨⟨c0, c1, c2, c3, c4, c5⟩, c6, z3⟩ := lz.cfacts
    go_wp2_with fail
    have g0 := lz.l.has
    first | (go_region_with (first | (go_at_call 16; refine (cempty_lit _ _ _ _ _ _ _).mono ?_; rintro e wn ⟨rfl, hbn⟩; (first | (replace lz := (show Lz w wn _ _ _ _ _ from by with_reducible first | exact lz.below hbn | exact lz.drew.below hbn)) | ((first | (have bn0 := Blk.below_ (Blk.made _ _ _) hbn (by simp)) | (have bn0 := Blk.below_ (Blk.drew_ (Blk.made _ _ _)) hbn (by simp))); have bn := Lib.hid bn0; clear bn0; replace lz := (show Lz w wn _ _ _ _ _ from by with_reducible first | exact (lz.alloc _).below hbn | exact (lz.drew.alloc _).below hbn | exact (lz.alloc _).drew.below hbn))); (try (have bn2 := Lib.hid (bn.out.below_ hbn bn.out.size); clear bn; have bn := bn2; clear bn2)); (try (have b0 := bn.out.val (i := 0) rfl; have b1 := bn.out.val (i := 1) rfl; have b2 := bn.out.val (i := 2) rfl; have b3 := bn.out.val (i := 3) rfl; have b4 := bn.out.val (i := 4) rfl; have b5 := bn.out.val (i := 5) rfl; have b6 := bn.out.free)); clear hbn; clear p0 p1 p2 p3 p4 p5 p6 z1 z2 q0 q1 q2 c0 c1 c2 c3 c4 c5 c6 z3; obtain ⟨⟨p0, p1, p2, p3, p4, p5⟩, p6, z1, z2⟩ := lz.l.sfacts; obtain ⟨⟨q0, q1⟩, q2⟩ := lz.l.pfacts; obtain ⟨⟨c0, c1, c2, c3, c4, c5⟩, c6, z3⟩ := lz.cfacts; have g1 := lz.l.has) | (go_at_call 10; refine (clook_any ⟨false, 0, false, an, ac, al⟩ _ _ _ _ _ hb HH.out _ (by omega) (by omega) (by omega) (by omega) eo).mono ?_; rw [HE.out]; rintro e wn ⟨rfl, hbn⟩; (first | (replace lz := (show Lz w wn _ _ _ _ _ from by with_reducible first | exact lz.below hbn | exact lz.drew.below hbn)) | ((first | (have bn0 := Blk.below_ (Blk.made _ _ _) hbn (by simp)) | (have bn0 := Blk.below_ (Blk.drew_ (Blk.made _ _ _)) hbn (by simp))); have bn := Lib.hid bn0; clear bn0; replace lz := (show Lz w wn _ _ _ _ _ from by with_reducible first | exact (lz.alloc _).below hbn | exact (lz.drew.alloc _).below hbn | exact (lz.alloc _).drew.below hbn))); (try (have bn2 := Lib.hid (bn.out.below_ hbn bn.out.size); clear bn; have bn := bn2; clear bn2)); (try (have b0 := bn.out.val (i := 0) rfl; have b1 := bn.out.val (i := 1) rfl; have b2 := bn.out.val (i := 2) rfl; have b3 := bn.out.val (i := 3) rfl; have b4 := bn.out.val (i := 4) rfl; have b5 := bn.out.val (i := 5) rfl; have b6 := bn.out.free)); clear hbn; clear p0 p1 p2 p3 p4 p5 p6 z1 z2 q0 q1 q2 c0 c1 c2 c3 c4 c5 c6 z3; obtain ⟨⟨p0, p1, p2, p3, p4, p5⟩, p6, z1, z2⟩ := lz.l.sfacts; obtain ⟨⟨q0, q1⟩, q2⟩ := lz.l.pfacts; obtain ⟨⟨c0, c1, c2, c3, c4, c5⟩, c6, z3⟩ := lz.cfacts; have g1 := lz.l.has))) | fail
    all_goals (go_wp2_with fail; go_ret; exact ⟨rfl, (by repeat (first | with_reducible exact lz.l.be | with_reducible refine Below.drew ?_ | refine Below.setCell ?_ (by (try simp); (try omega)) _ | refine Below.alloc ?_ (by (try simp); (try omega)) _))⟩)
set_option maxRecDepth 100000 in
theorem lifted (os : Os) (started : os.Started) (H : Type) (enc : TypeId × Value → H) :
    ReturnsInHanded {} Try.checked os 8 .any (Rows.codelSparesSpec.pre6 enc Try.prog Try.f8 Rows.codelSparesRow.domain false) (Rows.codelSparesSpec.post enc Try.prog Try.f8 false true false false) := by
  refine returnsInHanded_of_change (C := Try.checked) own started (by kernel_rfl) Try.func8
    (ChangeSpec.witness6 (enc := enc) (C := Try.checked) false ⟨#[], #[.agg #[.bool false, .int .i64 0, .bool false, .int .i64 0, .int .u64 0, .int .u64 0], .agg #[.int .i64 0, .int .i64 0], .int .i64 0, .int .i64 0, .int .i64 0, .int .i64 0], []⟩ 8 (by kernel_rfl) (by kernel_rfl) (by kernel_rfl) (by kernel_rfl)) ?_
  intro W base args ds gs before hval0 hW hcnd _
  have hval : ∀ (j : Nat) t v, Try.f8.params[j]? = some t → args[j]? = some v → Value.okWide Try.prog W .any base t v := hval0
  have hW' := hW
  obtain ⟨p, q, hA0, hV, rfl, hfz, hnd⟩ := hW
  have hA : DataW.TrodAll enc Try.prog W 0 (fun _ => true) true Try.f8.params.toList args.toList ds p := hA0
  rw [Try.params8] at hA hval
  obtain ⟨v0, vs0, d0, ds0, p0, q0, hargs, rfl, rfl, h0, r0⟩ := trodAll_cons hA
  obtain ⟨v1, vs1, d1, ds1, p1, q1, rfl, rfl, rfl, h1, r1⟩ := trodAll_cons r0
  obtain ⟨v2, vs2, d2, ds2, p2, q2, rfl, rfl, rfl, h2, r2⟩ := trodAll_cons r1
  obtain ⟨v3, vs3, d3, ds3, p3, q3, rfl, rfl, rfl, h3, r3⟩ := trodAll_cons r2
  obtain ⟨v4, vs4, d4, ds4, p4, q4, rfl, rfl, rfl, h4, r4⟩ := trodAll_cons r3
  obtain ⟨v5, vs5, d5, ds5, p5, q5, rfl, rfl, rfl, h5, r5⟩ := trodAll_cons r4
  obtain ⟨rfl, rfl, rfl⟩ := trodAll_nil r5
  obtain rfl : args = #[v0, v1, v2, v3, v4, v5] := by cases args; simp_all
  obtain ⟨rfl, rfl⟩ := trodVars_none hV
  obtain ⟨x00, x01, x02, x03, x04, x05, y00, y01, y02, y03, y04, y05, n0, rfl, g00, g01, g02, g03, g04, g05⟩ := open_six Try.underlying24 (by kernel_rfl) (by kernel_rfl) (hval 0 _ v0 rfl rfl) h0
  obtain ⟨a00, e00, ez00⟩ := DataW.trod_bool Try.underlying4 g00
  simp at e00
  subst e00
  obtain ⟨a01, e01, ez01, w01⟩ := DataW.trod_int Try.underlying2 g01
  simp at e01
  subst e01
  obtain ⟨a02, e02, ez02⟩ := DataW.trod_bool Try.underlying4 g02
  simp at e02
  subst e02
  obtain ⟨a03, e03, ez03, w03⟩ := DataW.trod_int Try.underlying2 g03
  simp at e03
  subst e03
  obtain ⟨a04, e04, ez04, w04⟩ := DataW.trod_int Try.underlying22 g04
  simp at e04
  subst e04
  obtain ⟨a05, e05, ez05, w05⟩ := DataW.trod_int Try.underlying22 g05
  simp at e05
  subst e05
  obtain ⟨x10, x11, y10, y11, n1, rfl, g10, g11⟩ := open_two Try.underlying26 (by kernel_rfl) (by kernel_rfl) (hval 1 _ v1 rfl rfl) h1
  obtain ⟨a10, e10, ez10, w10⟩ := DataW.trod_int Try.underlying2 g10
  simp at e10
  subst e10
  obtain ⟨a11, e11, ez11, w11⟩ := DataW.trod_int Try.underlying2 g11
  simp at e11
  subst e11
  obtain ⟨a2, rfl, rfl, rfl, w2⟩ := open_int Try.underlying2 (hval 2 _ v2 rfl rfl) h2
  obtain ⟨a3, rfl, rfl, rfl, w3⟩ := open_int Try.underlying2 (hval 3 _ v3 rfl rfl) h3
  obtain ⟨a4, rfl, rfl, rfl, w4⟩ := open_int Try.underlying3 (hval 4 _ v4 rfl rfl) h4
  obtain ⟨a5, rfl, rfl, rfl, w5⟩ := open_int Try.underlying2 (hval 5 _ v5 rfl rfl) h5
  clear hA0 hval0
  obtain ⟨l01, m01⟩ := wf_i64 w01
  obtain ⟨l03, m03⟩ := wf_i64 w03
  obtain ⟨l04, m04⟩ := wf_u64 w04
  obtain ⟨l05, m05⟩ := wf_u64 w05
  obtain ⟨l10, m10⟩ := wf_i64 w10
  obtain ⟨l11, m11⟩ := wf_i64 w11
  obtain ⟨l2, m2⟩ := wf_i64 w2
  obtain ⟨l3, m3⟩ := wf_i64 w3
  obtain ⟨l4, m4⟩ := wf_i64 w4
  obtain ⟨l5, m5⟩ := wf_i64 w5
  refine (walk a00 a01 a02 a03 a04 a05 a10 a11 a2 a3 a4 a5 W l01 m01 l03 m03 l04 m04 l05 m05 l10 m10 l11 m11 l2 m2 l3 m3 l4 m4 l5 m5).mono fun e W' ⟨he, hg⟩ => ?_
  subst he
  exact ⟨_, rfl, post_of_law hW' rfl laidOut reads rfl Try.underlying4 rfl rfl rfl hg⟩
theorem over : Rows.codelSparesRow.holds Try.pinned (OpenSpec.ofChange Rows.codelSparesSpec) :=
  OpenClaim.holds_of_wide 8 Try.f8 rfl rfl rfl rfl rfl rfl rfl ⟨rfl, rfl, rfl, rfl, rfl⟩ rfl rfl rfl rfl rfl (by kernel_rfl) Try.func8 (by kernel_rfl)
    (of_decide_eq_true (by kernel_rfl)) (by unfold Func.isWrapper; first | (rw [if_pos (by decide +kernel)]; kernel_rfl) | (rw [if_neg (by decide +kernel)]; exact ⟨rfl, rfl⟩))
    (fun os started H enc _ => lifted os started H enc)
theorem proved : Rows.CodelSparesSaid := over
end Go.Proofs.Ytkmhdkhaoegbjaa.codelSpares
