/- CodelBack is true of every state, all params, every time and every backlog, and changes nothing that it was given. -/
import Derived.Test.YtkmhdkhaoegbjaaCodw
import Derived.Test.YtkmhdkhaoegbjaaOst
import Derived.Test.YtkmhdkhaoegbjaaRefd
import Derived.Test.YtkmhdkhaoegbjaaRefg
import Derived.Test.YtkmhdkhaoegbjaaRowb
import Derived.Test.YtkmhdkhaoegbjaaRows
import Derived.WalkKit
import Derived.ProofKit
import Derived.OpenShut
import Derived.Deep.DeepCutAuto
import Derived.Deep.RegionHeld3
import Derived.Deep.RegionWith
namespace Go.Proofs.Ytkmhdkhaoegbjaa.codelBack
open Go.ChangeShapes Go.WideShapes Go.ChangeAt Go.RowKit Kn
set_option linter.unusedVariables false
theorem own : ownKnob Try.prog.godebug = none := by kernel_rfl
theorem laidOut : laidOutB Try.prog = true := by kernel_rfl
theorem reads : (Try.f7.params.toList.all fun t => Try.prog.readableRec t && decide (t < Try.prog.types.size)) = true := by kernel_rfl
set_option linter.unusedSimpArgs false
set_option maxRecDepth 100000 in
set_option maxHeartbeats 4000000 in
theorem walk (ab : Bool) (fi : Int) (dr : Bool) (ne co la t i now b : Int) (w : World) (f0 : -9223372036854775808 ≤ fi) (f1 : fi ≤ 9223372036854775807) (ne0 : -9223372036854775808 ≤ ne) (ne1 : ne ≤ 9223372036854775807) (co0 : 0 ≤ co) (co1 : co ≤ 18446744073709551615) (la0 : 0 ≤ la) (la1 : la ≤ 18446744073709551615) (t0 : -9223372036854775808 ≤ t) (t1 : t ≤ 9223372036854775807) (i0 : -9223372036854775808 ≤ i) (i1 : i ≤ 9223372036854775807) (now0 : -9223372036854775808 ≤ now) (now1 : now ≤ 9223372036854775807) (b0 : -9223372036854775808 ≤ b) (b1 : b ≤ 9223372036854775807) :
    Calls Try.prog 7 #[.agg #[.bool ab, .int .i64 fi, .bool dr, .int .i64 ne, .int .u64 co, .int .u64 la], .agg #[.int .i64 t, .int .i64 i], .int .i64 now, .int .i64 b] w fun e w' => e = .returned (.bool true) ∧ Below w.heap.size w w' := by
  obtain ⟨I, hI⟩ : ∃ I, max i 0 = I := ⟨_, rfl⟩
  have I0 : 0 ≤ I := by omega
  have I1 : I ≤ 9223372036854775807 := by omega
  go_enter Try.func7, Try.ntmps7
  go_upto_region 1 with fail
  refine wp_worldc (fun wx => Ly w wx ⟨ab, fi, dr, ne, co, la⟩ t i) (Ly.made w _ _ _ _ _ _ _ _) ?_
  rintro w0 ly
  go_wp2_with fail
  refine (awake8 _).mono ?_
  rintro e w1 ⟨rfl, hb⟩
  replace ly := ly.below hb
  clear hb
  obtain ⟨⟨p0, p1, p2, p3, p4, p5⟩, p6, z1, z2⟩ := ly.sfacts
  obtain ⟨⟨q0, q1⟩, q2⟩ := ly.pfacts
  go_upto_region 4 with fail
  refine wp_worldc (fun wx => Ly w wx ⟨true, now, false, ne, co, la⟩ t i) (Ly.one (z := ⟨true, now, false, ne, co, la⟩) (Ly.one (z := ⟨true, fi, false, ne, co, la⟩) (Ly.one (z := ⟨ab, fi, false, ne, co, la⟩) ly 2 _ rfl) 0 _ rfl) 1 _ rfl) ?_
  clear ly p0 p1 p2 p3 p4 p5 p6 z1 z2 q0 q1 q2
  rintro w2 ly
  obtain ⟨⟨q0, q1⟩, q2⟩ := ly.pfacts
  go_upto_region 5 with fail
  refine wp_worldc (fun wx => Ly w wx ⟨true, now, false, ne, co, la⟩ t I) (ly.setI I) ?_
  clear ly q0 q1 q2
  rintro w3 ly
  obtain ⟨B, hB⟩ : ∃ B, (if b < 2 then 2 else b) = B := ⟨_, rfl⟩
  have hh : highB t t B = true := by unfold highB; simp; split at hB <;> omega
  have HB := Lib.hid hB
  clear hB
  go_upto_if 25 with fail
  go_cut [3] (fun s3 wx => s3 = .int .i64 B ∧ Ly w wx ⟨true, now, false, ne, co, la⟩ t I)
  case first =>
    by_cases h : b < 2
    · have e2 : B = 2 := by have := HB.out; rw [if_pos h] at this; omega
      go_wp2
      go_meet
      exact ⟨by rw [e2], ly⟩
    · have e2 : B = b := by have := HB.out; rw [if_neg h] at this; omega
      go_wp2
      go_meet
      exact ⟨by rw [e2], ly⟩
  case rest =>
    clear ly
    obtain ⟨rfl, ly⟩ := hcut
    obtain ⟨⟨p0, p1, p2, p3, p4, p5⟩, p6, z1, z2⟩ := ly.sfacts
    obtain ⟨⟨q0, q1⟩, q2⟩ := ly.pfacts
    have hw : IntKind.u64.wrap (co - la) = (co - la) % 18446744073709551616 := by simp [IntKind.wrap, IntKind.bits, IntKind.signed]
    generalize hd : (co - la) % 18446744073709551616 = d at hw
    have d0 : 0 ≤ d := by omega
    have d1 : d ≤ 18446744073709551615 := by omega
    obtain ⟨rb, hr⟩ : ∃ rb, decide (sat (now - ne) < sat (16 * I)) = rb := ⟨_, rfl⟩
    obtain ⟨sb, hsb⟩ : ∃ sb, (rb && decide (2 ≤ d) && decide (d ≤ 9223372036854775808)) = sb := ⟨_, rfl⟩
    have hk : beginN ⟨true, now, false, ne, co, la⟩ I now = bif sb then d else 1 := by
      show (if 2 ≤ (co - la) % 18446744073709551616 ∧ (co - la) % 18446744073709551616 ≤ 9223372036854775808 ∧ sat (now - ne) < sat (16 * I) then (co - la) % 18446744073709551616 else 1) = _
      rw [hd]
      by_cases hc : 2 ≤ d ∧ d ≤ 9223372036854775808 ∧ sat (now - ne) < sat (16 * I)
      · rw [if_pos hc]; rw [← hsb, ← hr]; simp [hc]
      · rw [if_neg hc]
        have : sb = false := by rw [← hsb, ← hr]; simp; intro h1 h2; exact Int.not_le.1 fun h3 => hc ⟨h2, h3, h1⟩
        rw [this]; rfl
    have hl := look_back ne co la I now
    obtain ⟨k, hk'⟩ : ∃ k, beginN ⟨true, now, false, ne, co, la⟩ I now = k := ⟨_, rfl⟩
    rw [hk'] at hl
    rw [hk'] at hk
    have k0 : 0 ≤ k ∧ k ≤ 18446744073709551615 := by rw [hk]; cases sb <;> simp <;> omega
    have lz0 := lawZ_0 I k
    have lz1 := lawZ_1 I k I1
    have HR := Lib.hid hr
    have HK := Lib.hid hk
    have HS := Lib.hid hsb
    clear hr hk hk' hd hsb
    go_wp2_with fail
    refine (clook_any ⟨true, now, false, ne, co, la⟩ _ _ _ _ _ true hh _ now0 now1 (by omega) I1 ⟨by omega, by omega, by omega, by omega, by omega, by omega, by omega, by omega⟩).mono ?_
    rw [hl]
    rintro e w4 ⟨rfl, hb⟩
    replace ly := ly.below hb
    clear hb hl p0 p1 p2 p3 p4 p5 p6 z1 z2 q0 q1 q2
    go_upto_region 8 with fail
    refine wp_worldc (fun wx => Lz w wx w4.heap.size ⟨true, now, false, ne, co, la⟩ ⟨true, now, true, sat (now + lawZ I k), k, k⟩ t I) (Lz.made ly _ _ _ _ _ _) ?_
    clear ly
    rintro w5 lz
    obtain ⟨⟨p0, p1, p2, p3, p4, p5⟩, p6, z1, z2⟩ := lz.l.sfacts
    obtain ⟨⟨q0, q1⟩, q2⟩ := lz.l.pfacts
    obtain ⟨⟨c0, c1, c2, c3, c4, c5⟩, c6, z3⟩ := lz.cfacts
    go_upto_region 9 with fail
    go_cut [12] (fun s12 wx => s12 = .bool sb ∧ Lz w wx w4.heap.size ⟨true, now, false, ne, co, la⟩ ⟨true, now, true, sat (now + lawZ I k), k, k⟩ t I)
    case first =>
      have hr := HR.out
      have hs := HS.out
      cases rb
      · have es : sb = false := by rw [← hs]; rfl
        subst es
        refine wp_region_noPanic ?_
        refine wp_region_held_drew (S := (fun w' => w'.cell? ⟨w.heap.size, 3, none⟩ = some (.int .i64 ne) ∧ w'.cell? ⟨w.heap.size + 1, 1, none⟩ = some (.int .i64 I))) (by kernel_rfl) (by (repeat (first | with_reducible assumption | refine ⟨?_, ?_⟩ | with_reducible refine kdrew ?_))) (fun hHeld => ?_)
        refine wpAnyH_take (i := 0) (v := ?_) rfl (by kernel_rfl) (by kernel_rfl) (by kernel_rfl) (fun _ _ _ h => h) (Or.inl ⟨by rfl, ?_⟩) (by assumption) ?_
        rotate_left
        · (intro wS hSw; (try dsimp only at hSw); (first | (go_simp; done) | (go_simp; with_reducible rfl)))
        try simp only [Act.put, List.getElem_toArray, List.getElem_cons_zero, List.getElem_cons_succ, List.setIfInBounds_toArray, List.set_cons_zero, List.set_cons_succ]
        refine wpAnyH_take (i := 1) (v := ?_) rfl (by kernel_rfl) (by kernel_rfl) (by kernel_rfl) (fun _ _ _ h => h) (Or.inl ⟨by rfl, ?_⟩) (by assumption) ?_
        rotate_left
        · (intro wS hSw; (try dsimp only at hSw); (first | (go_simp; done) | (go_simp; with_reducible rfl)))
        try simp only [Act.put, List.getElem_toArray, List.getElem_cons_zero, List.getElem_cons_succ, List.setIfInBounds_toArray, List.set_cons_zero, List.set_cons_succ]
        refine wpAnyH_take (i := 2) (v := ?_) rfl (by kernel_rfl) (by kernel_rfl) (by kernel_rfl) (fun _ _ _ h => h) (Or.inl ⟨by rfl, ?_⟩) (by assumption) ?_
        rotate_left
        · (intro wS hSw; (try dsimp only at hSw); (first | (go_simp; done) | (go_simp; with_reducible rfl)))
        try simp only [Act.put, List.getElem_toArray, List.getElem_cons_zero, List.getElem_cons_succ, List.setIfInBounds_toArray, List.set_cons_zero, List.set_cons_succ]
        refine wpAnyH_take (i := 4) (v := ?_) rfl (by kernel_rfl) (by kernel_rfl) (by kernel_rfl) (fun _ _ _ h => h) (Or.inl ⟨by rfl, ?_⟩) (by assumption) ?_
        rotate_left
        · (intro wS hSw; (try dsimp only at hSw); (first | (go_simp; done) | (go_simp; with_reducible rfl)))
        try simp only [Act.put, List.getElem_toArray, List.getElem_cons_zero, List.getElem_cons_succ, List.setIfInBounds_toArray, List.set_cons_zero, List.set_cons_succ]
        refine wpAnyH_take (i := 5) (v := ?_) rfl (by kernel_rfl) (by kernel_rfl) (by kernel_rfl) (fun _ _ _ h => h) (Or.inl ⟨by rfl, ?_⟩) (by assumption) ?_
        rotate_left
        · (intro wS hSw; (try dsimp only at hSw); (first | (go_simp; done) | (go_simp; with_reducible rfl)))
        try simp only [Act.put, List.getElem_toArray, List.getElem_cons_zero, List.getElem_cons_succ, List.setIfInBounds_toArray, List.set_cons_zero, List.set_cons_succ]
        refine wpAnyH_ready (rs := [3]) (by kernel_rfl) (by simp) ?_
        refine AllReadyH.cons rfl (fun K hK => ?_) AllReadyH.nil
        rw [if_pos (by rfl)]
        refine wp_enter (by go_simp; exact ⟨rfl, rfl⟩) ?_
        refine (rsub02_any _ _ _ (by omega) (by omega) (by omega) (by omega)).mono ?_
        rintro e wn ⟨rfl, hbn⟩
        replace lz := (show Lz w wn _ _ _ _ _ from by first | exact lz.below hbn | exact lz.drew.below hbn | exact (lz.drewN _).below hbn)
        clear hbn
        clear p0 p1 p2 p3 p4 p5 p6 z1 z2 q0 q1 q2 c0 c1 c2 c3 c4 c5 c6 z3
        obtain ⟨⟨p0, p1, p2, p3, p4, p5⟩, p6, z1, z2⟩ := lz.l.sfacts
        obtain ⟨⟨q0, q1⟩, q2⟩ := lz.l.pfacts
        obtain ⟨⟨c0, c1, c2, c3, c4, c5⟩, c6, z3⟩ := lz.cfacts
        refine ⟨_, rfl, ?_⟩
        refine hK.out _ _ (by (repeat (first | with_reducible assumption | refine ⟨?_, ?_⟩ | with_reducible refine kdrew ?_))) (fun hHeld => ?_)
        clear hK K
        try simp only [Act.put, List.getElem_toArray, List.getElem_cons_zero, List.getElem_cons_succ, List.setIfInBounds_toArray, List.set_cons_zero, List.set_cons_succ]
        refine wpAnyH_ready (rs := [6]) (by kernel_rfl) (by simp) ?_
        refine AllReadyH.cons rfl (fun K hK => ?_) AllReadyH.nil
        rw [if_pos (by rfl)]
        refine wp_enter (by go_simp; exact ⟨rfl, rfl⟩) ?_
        refine (rmul02_any _ _ _ (by omega) (by omega) (by omega) (by omega)).mono ?_
        rintro e wn ⟨rfl, hbn⟩
        replace lz := (show Lz w wn _ _ _ _ _ from by first | exact lz.below hbn | exact lz.drew.below hbn | exact (lz.drewN _).below hbn)
        clear hbn
        clear p0 p1 p2 p3 p4 p5 p6 z1 z2 q0 q1 q2 c0 c1 c2 c3 c4 c5 c6 z3
        obtain ⟨⟨p0, p1, p2, p3, p4, p5⟩, p6, z1, z2⟩ := lz.l.sfacts
        obtain ⟨⟨q0, q1⟩, q2⟩ := lz.l.pfacts
        obtain ⟨⟨c0, c1, c2, c3, c4, c5⟩, c6, z3⟩ := lz.cfacts
        refine ⟨_, rfl, ?_⟩
        refine hK.out _ _ (by (repeat (first | with_reducible assumption | refine ⟨?_, ?_⟩ | with_reducible refine kdrew ?_))) (fun hHeld => ?_)
        clear hK K
        try simp only [Act.put, List.getElem_toArray, List.getElem_cons_zero, List.getElem_cons_succ, List.setIfInBounds_toArray, List.set_cons_zero, List.set_cons_succ]
        refine wpAnyH_take (i := 7) (v := ?_) rfl (by kernel_rfl) (by kernel_rfl) (by kernel_rfl) (fun _ _ _ h => h) (Or.inl ⟨by rfl, ?_⟩) (by assumption) ?_
        rotate_left
        · (intro wS hSw; (try dsimp only at hSw); (first | (go_simp; done) | (go_simp; with_reducible rfl)))
        try simp only [Act.put, List.getElem_toArray, List.getElem_cons_zero, List.getElem_cons_succ, List.setIfInBounds_toArray, List.set_cons_zero, List.set_cons_succ]
        refine wpAnyH_take (i := 8) (v := ?_) rfl (by kernel_rfl) (by kernel_rfl) (by kernel_rfl) (fun _ _ _ h => h) (Or.inl ⟨by rfl, ?_⟩) (by assumption) ?_
        rotate_left
        · (intro wS hSw; (try dsimp only at hSw); (first | (go_simp; done) | (go_simp; with_reducible rfl)))
        try simp only [Act.put, List.getElem_toArray, List.getElem_cons_zero, List.getElem_cons_succ, List.setIfInBounds_toArray, List.set_cons_zero, List.set_cons_succ]
        refine wpAnyH_take (i := 9) (v := undef) rfl (by kernel_rfl) (by kernel_rfl) (by kernel_rfl) (fun _ _ _ h => h) (Or.inr ⟨by rfl, rfl⟩) (by assumption) ?_
        try simp only [Act.put, List.getElem_toArray, List.getElem_cons_zero, List.getElem_cons_succ, List.setIfInBounds_toArray, List.set_cons_zero, List.set_cons_succ]
        refine wpAnyH_take (i := 10) (v := undef) rfl (by kernel_rfl) (by kernel_rfl) (by kernel_rfl) (fun _ _ _ h => h) (Or.inr ⟨by rfl, rfl⟩) (by assumption) ?_
        try simp only [Act.put, List.getElem_toArray, List.getElem_cons_zero, List.getElem_cons_succ, List.setIfInBounds_toArray, List.set_cons_zero, List.set_cons_succ]
        refine wpAnyH_take (i := 11) (v := ?_) rfl (by kernel_rfl) (by kernel_rfl) (by kernel_rfl) (fun _ _ _ h => h) (Or.inl ⟨by rfl, ?_⟩) (by assumption) ?_
        rotate_left
        · (intro wS hSw; (try dsimp only at hSw); (first | (go_simp; done) | (go_simp; with_reducible rfl)))
        try simp only [Act.put, List.getElem_toArray, List.getElem_cons_zero, List.getElem_cons_succ, List.setIfInBounds_toArray, List.set_cons_zero, List.set_cons_succ]
        refine wpAnyH_take (i := 12) (v := ?_) rfl (by kernel_rfl) (by kernel_rfl) (by kernel_rfl) (fun _ _ _ h => h) (Or.inl ⟨by rfl, ?_⟩) (by assumption) ?_
        rotate_left
        · (intro wS hSw; (try dsimp only at hSw); (first | (go_simp; done) | (go_simp; with_reducible rfl)))
        try simp only [Act.put, List.getElem_toArray, List.getElem_cons_zero, List.getElem_cons_succ, List.setIfInBounds_toArray, List.set_cons_zero, List.set_cons_succ]
        refine wpAnyH_take (i := 13) (v := undef) rfl (by kernel_rfl) (by kernel_rfl) (by kernel_rfl) (fun _ _ _ h => h) (Or.inr ⟨by rfl, rfl⟩) (by assumption) ?_
        try simp only [Act.put, List.getElem_toArray, List.getElem_cons_zero, List.getElem_cons_succ, List.setIfInBounds_toArray, List.set_cons_zero, List.set_cons_succ]
        refine wpAnyH_take (i := 14) (v := undef) rfl (by kernel_rfl) (by kernel_rfl) (by kernel_rfl) (fun _ _ _ h => h) (Or.inr ⟨by rfl, rfl⟩) (by assumption) ?_
        try simp only [Act.put, List.getElem_toArray, List.getElem_cons_zero, List.getElem_cons_succ, List.setIfInBounds_toArray, List.set_cons_zero, List.set_cons_succ]
        refine wpAnyH_take (i := 15) (v := ?_) rfl (by kernel_rfl) (by kernel_rfl) (by kernel_rfl) (fun _ _ _ h => h) (Or.inl ⟨by rfl, ?_⟩) (by assumption) ?_
        rotate_left
        · (intro wS hSw; (try dsimp only at hSw); (first | (go_simp; done) | (go_simp; with_reducible rfl)))
        try simp only [Act.put, List.getElem_toArray, List.getElem_cons_zero, List.getElem_cons_succ, List.setIfInBounds_toArray, List.set_cons_zero, List.set_cons_succ]
        refine wpAnyH_take (i := 16) (v := ?_) rfl (by kernel_rfl) (by kernel_rfl) (by kernel_rfl) (fun _ _ _ h => h) (Or.inl ⟨by rfl, ?_⟩) (by assumption) ?_
        rotate_left
        · (intro wS hSw; (try dsimp only at hSw); (first | (go_simp; done) | (go_simp; with_reducible rfl)))
        try simp only [Act.put, List.getElem_toArray, List.getElem_cons_zero, List.getElem_cons_succ, List.setIfInBounds_toArray, List.set_cons_zero, List.set_cons_succ]
        refine wpAnyH_done (by kernel_rfl) ?_ _
        refine NoPanic.normal ?_
        go_wp2_with fail
        go_meet
        exact ⟨by first | rfl | simp, (show Lz w _ _ _ _ _ _ from by first | exact lz | exact lz.drew | exact lz.drewN _)⟩
      · by_cases e1 : d < 2
        · have es : sb = false := by rw [← hs]; simp; omega
          subst es
          have e2 : decide (2 ≤ d) = false := by simp; omega
          have e3 : ¬ (2 ≤ d) := by omega
          refine wp_region_noPanic ?_
          refine wp_region_held_drew (S := (fun w' => w'.cell? ⟨w.heap.size, 3, none⟩ = some (.int .i64 ne) ∧ w'.cell? ⟨w.heap.size + 1, 1, none⟩ = some (.int .i64 I))) (by kernel_rfl) (by (repeat (first | with_reducible assumption | refine ⟨?_, ?_⟩ | with_reducible refine kdrew ?_))) (fun hHeld => ?_)
          refine wpAnyH_take (i := 0) (v := ?_) rfl (by kernel_rfl) (by kernel_rfl) (by kernel_rfl) (fun _ _ _ h => h) (Or.inl ⟨by rfl, ?_⟩) (by assumption) ?_
          rotate_left
          · (intro wS hSw; (try dsimp only at hSw); (first | (go_simp; done) | (go_simp; with_reducible rfl)))
          try simp only [Act.put, List.getElem_toArray, List.getElem_cons_zero, List.getElem_cons_succ, List.setIfInBounds_toArray, List.set_cons_zero, List.set_cons_succ]
          refine wpAnyH_take (i := 1) (v := ?_) rfl (by kernel_rfl) (by kernel_rfl) (by kernel_rfl) (fun _ _ _ h => h) (Or.inl ⟨by rfl, ?_⟩) (by assumption) ?_
          rotate_left
          · (intro wS hSw; (try dsimp only at hSw); (first | (go_simp; done) | (go_simp; with_reducible rfl)))
          try simp only [Act.put, List.getElem_toArray, List.getElem_cons_zero, List.getElem_cons_succ, List.setIfInBounds_toArray, List.set_cons_zero, List.set_cons_succ]
          refine wpAnyH_take (i := 2) (v := ?_) rfl (by kernel_rfl) (by kernel_rfl) (by kernel_rfl) (fun _ _ _ h => h) (Or.inl ⟨by rfl, ?_⟩) (by assumption) ?_
          rotate_left
          · (intro wS hSw; (try dsimp only at hSw); (first | (go_simp; done) | (go_simp; with_reducible rfl)))
          try simp only [Act.put, List.getElem_toArray, List.getElem_cons_zero, List.getElem_cons_succ, List.setIfInBounds_toArray, List.set_cons_zero, List.set_cons_succ]
          refine wpAnyH_take (i := 4) (v := ?_) rfl (by kernel_rfl) (by kernel_rfl) (by kernel_rfl) (fun _ _ _ h => h) (Or.inl ⟨by rfl, ?_⟩) (by assumption) ?_
          rotate_left
          · (intro wS hSw; (try dsimp only at hSw); (first | (go_simp; done) | (go_simp; with_reducible rfl)))
          try simp only [Act.put, List.getElem_toArray, List.getElem_cons_zero, List.getElem_cons_succ, List.setIfInBounds_toArray, List.set_cons_zero, List.set_cons_succ]
          refine wpAnyH_take (i := 5) (v := ?_) rfl (by kernel_rfl) (by kernel_rfl) (by kernel_rfl) (fun _ _ _ h => h) (Or.inl ⟨by rfl, ?_⟩) (by assumption) ?_
          rotate_left
          · (intro wS hSw; (try dsimp only at hSw); (first | (go_simp; done) | (go_simp; with_reducible rfl)))
          try simp only [Act.put, List.getElem_toArray, List.getElem_cons_zero, List.getElem_cons_succ, List.setIfInBounds_toArray, List.set_cons_zero, List.set_cons_succ]
          refine wpAnyH_ready (rs := [3]) (by kernel_rfl) (by simp) ?_
          refine AllReadyH.cons rfl (fun K hK => ?_) AllReadyH.nil
          rw [if_pos (by rfl)]
          refine wp_enter (by go_simp; exact ⟨rfl, rfl⟩) ?_
          refine (rsub02_any _ _ _ (by omega) (by omega) (by omega) (by omega)).mono ?_
          rintro e wn ⟨rfl, hbn⟩
          replace lz := (show Lz w wn _ _ _ _ _ from by first | exact lz.below hbn | exact lz.drew.below hbn | exact (lz.drewN _).below hbn)
          clear hbn
          clear p0 p1 p2 p3 p4 p5 p6 z1 z2 q0 q1 q2 c0 c1 c2 c3 c4 c5 c6 z3
          obtain ⟨⟨p0, p1, p2, p3, p4, p5⟩, p6, z1, z2⟩ := lz.l.sfacts
          obtain ⟨⟨q0, q1⟩, q2⟩ := lz.l.pfacts
          obtain ⟨⟨c0, c1, c2, c3, c4, c5⟩, c6, z3⟩ := lz.cfacts
          refine ⟨_, rfl, ?_⟩
          refine hK.out _ _ (by (repeat (first | with_reducible assumption | refine ⟨?_, ?_⟩ | with_reducible refine kdrew ?_))) (fun hHeld => ?_)
          clear hK K
          try simp only [Act.put, List.getElem_toArray, List.getElem_cons_zero, List.getElem_cons_succ, List.setIfInBounds_toArray, List.set_cons_zero, List.set_cons_succ]
          refine wpAnyH_ready (rs := [6]) (by kernel_rfl) (by simp) ?_
          refine AllReadyH.cons rfl (fun K hK => ?_) AllReadyH.nil
          rw [if_pos (by rfl)]
          refine wp_enter (by go_simp; exact ⟨rfl, rfl⟩) ?_
          refine (rmul02_any _ _ _ (by omega) (by omega) (by omega) (by omega)).mono ?_
          rintro e wn ⟨rfl, hbn⟩
          replace lz := (show Lz w wn _ _ _ _ _ from by first | exact lz.below hbn | exact lz.drew.below hbn | exact (lz.drewN _).below hbn)
          clear hbn
          clear p0 p1 p2 p3 p4 p5 p6 z1 z2 q0 q1 q2 c0 c1 c2 c3 c4 c5 c6 z3
          obtain ⟨⟨p0, p1, p2, p3, p4, p5⟩, p6, z1, z2⟩ := lz.l.sfacts
          obtain ⟨⟨q0, q1⟩, q2⟩ := lz.l.pfacts
          obtain ⟨⟨c0, c1, c2, c3, c4, c5⟩, c6, z3⟩ := lz.cfacts
          refine ⟨_, rfl, ?_⟩
          refine hK.out _ _ (by (repeat (first | with_reducible assumption | refine ⟨?_, ?_⟩ | with_reducible refine kdrew ?_))) (fun hHeld => ?_)
          clear hK K
          try simp only [Act.put, List.getElem_toArray, List.getElem_cons_zero, List.getElem_cons_succ, List.setIfInBounds_toArray, List.set_cons_zero, List.set_cons_succ]
          refine wpAnyH_take (i := 7) (v := ?_) rfl (by kernel_rfl) (by kernel_rfl) (by kernel_rfl) (fun _ _ _ h => h) (Or.inl ⟨by rfl, ?_⟩) (by assumption) ?_
          rotate_left
          · (intro wS hSw; (try dsimp only at hSw); (first | (go_simp; done) | (go_simp; with_reducible rfl)))
          try simp only [Act.put, List.getElem_toArray, List.getElem_cons_zero, List.getElem_cons_succ, List.setIfInBounds_toArray, List.set_cons_zero, List.set_cons_succ]
          refine wpAnyH_take (i := 8) (v := ?_) rfl (by kernel_rfl) (by kernel_rfl) (by kernel_rfl) (fun _ _ _ h => h) (Or.inl ⟨by rfl, ?_⟩) (by assumption) ?_
          rotate_left
          · (intro wS hSw; (try dsimp only at hSw); (first | (go_simp; done) | (go_simp; with_reducible rfl)))
          try simp only [Act.put, List.getElem_toArray, List.getElem_cons_zero, List.getElem_cons_succ, List.setIfInBounds_toArray, List.set_cons_zero, List.set_cons_succ]
          refine wpAnyH_take (i := 9) (v := ?_) rfl (by kernel_rfl) (by kernel_rfl) (by kernel_rfl) (fun _ _ _ h => h) (Or.inl ⟨by rfl, ?_⟩) (by assumption) ?_
          rotate_left
          · (intro wS hSw; (try dsimp only at hSw); (first | (go_simp; done) | (go_simp; with_reducible rfl)))
          try simp only [Act.put, List.getElem_toArray, List.getElem_cons_zero, List.getElem_cons_succ, List.setIfInBounds_toArray, List.set_cons_zero, List.set_cons_succ]
          refine wpAnyH_take (i := 10) (v := ?_) rfl (by kernel_rfl) (by kernel_rfl) (by kernel_rfl) (fun _ _ _ h => h) (Or.inl ⟨by rfl, ?_⟩) (by assumption) ?_
          rotate_left
          · (intro wS hSw; (try dsimp only at hSw); (first | (go_simp; done) | (go_simp; with_reducible rfl)))
          try simp only [Act.put, List.getElem_toArray, List.getElem_cons_zero, List.getElem_cons_succ, List.setIfInBounds_toArray, List.set_cons_zero, List.set_cons_succ]
          refine wpAnyH_take (i := 11) (v := ?_) rfl (by kernel_rfl) (by kernel_rfl) (by kernel_rfl) (fun _ _ _ h => h) (Or.inl ⟨by rfl, ?_⟩) (by assumption) ?_
          rotate_left
          · (intro wS hSw; (try dsimp only at hSw); (first | (go_simp; done) | (go_simp; with_reducible rfl)))
          try simp only [Act.put, List.getElem_toArray, List.getElem_cons_zero, List.getElem_cons_succ, List.setIfInBounds_toArray, List.set_cons_zero, List.set_cons_succ]
          refine wpAnyH_take (i := 12) (v := ?_) rfl (by kernel_rfl) (by kernel_rfl) (by kernel_rfl) (fun _ _ _ h => h) (Or.inl ⟨by rfl, ?_⟩) (by assumption) ?_
          rotate_left
          · (intro wS hSw; (try dsimp only at hSw); (first | (go_simp; done) | (go_simp; with_reducible rfl)))
          try simp only [Act.put, List.getElem_toArray, List.getElem_cons_zero, List.getElem_cons_succ, List.setIfInBounds_toArray, List.set_cons_zero, List.set_cons_succ]
          refine wpAnyH_take (i := 13) (v := undef) rfl (by kernel_rfl) (by kernel_rfl) (by kernel_rfl) (fun _ _ _ h => h) (Or.inr ⟨by rfl, rfl⟩) (by assumption) ?_
          try simp only [Act.put, List.getElem_toArray, List.getElem_cons_zero, List.getElem_cons_succ, List.setIfInBounds_toArray, List.set_cons_zero, List.set_cons_succ]
          refine wpAnyH_take (i := 14) (v := undef) rfl (by kernel_rfl) (by kernel_rfl) (by kernel_rfl) (fun _ _ _ h => h) (Or.inr ⟨by rfl, rfl⟩) (by assumption) ?_
          try simp only [Act.put, List.getElem_toArray, List.getElem_cons_zero, List.getElem_cons_succ, List.setIfInBounds_toArray, List.set_cons_zero, List.set_cons_succ]
          refine wpAnyH_take (i := 15) (v := ?_) rfl (by kernel_rfl) (by kernel_rfl) (by kernel_rfl) (fun _ _ _ h => h) (Or.inl ⟨by rfl, ?_⟩) (by assumption) ?_
          rotate_left
          · (intro wS hSw; (try dsimp only at hSw); (first | (go_simp; done) | (go_simp; with_reducible rfl)))
          try simp only [Act.put, List.getElem_toArray, List.getElem_cons_zero, List.getElem_cons_succ, List.setIfInBounds_toArray, List.set_cons_zero, List.set_cons_succ]
          refine wpAnyH_take (i := 16) (v := ?_) rfl (by kernel_rfl) (by kernel_rfl) (by kernel_rfl) (fun _ _ _ h => h) (Or.inl ⟨by rfl, ?_⟩) (by assumption) ?_
          rotate_left
          · (intro wS hSw; (try dsimp only at hSw); (first | (go_simp; done) | (go_simp; with_reducible rfl)))
          try simp only [Act.put, List.getElem_toArray, List.getElem_cons_zero, List.getElem_cons_succ, List.setIfInBounds_toArray, List.set_cons_zero, List.set_cons_succ]
          refine wpAnyH_done (by kernel_rfl) ?_ _
          refine NoPanic.normal ?_
          go_wp2_with fail
          go_meet
          exact ⟨by first | rfl | simp, (show Lz w _ _ _ _ _ _ from by first | exact lz | exact lz.drew | exact lz.drewN _)⟩
        · have e3 : 2 ≤ d := by omega
          have es : sb = decide (d ≤ 9223372036854775808) := by rw [← hs]; simp [e3]
          subst es
          first | (go_region_held3 (fun w' => w'.cell? ⟨w.heap.size, 3, none⟩ = some (.int .i64 ne) ∧ w'.cell? ⟨w.heap.size + 1, 1, none⟩ = some (.int .i64 I)) (repeat (first | with_reducible assumption | refine ⟨?_, ?_⟩ | with_reducible refine kdrew ?_)) ((first | (go_at_call 20; refine (rsub02_any _ _ _ (by omega) (by omega) (by omega) (by omega)).mono ?_; rintro e wn ⟨rfl, hbn⟩; replace lz := (show Lz w wn _ _ _ _ _ from by first | exact lz.below hbn | exact lz.drew.below hbn | exact (lz.drewN _).below hbn); clear hbn; clear p0 p1 p2 p3 p4 p5 p6 z1 z2 q0 q1 q2 c0 c1 c2 c3 c4 c5 c6 z3; obtain ⟨⟨p0, p1, p2, p3, p4, p5⟩, p6, z1, z2⟩ := lz.l.sfacts; obtain ⟨⟨q0, q1⟩, q2⟩ := lz.l.pfacts; obtain ⟨⟨c0, c1, c2, c3, c4, c5⟩, c6, z3⟩ := lz.cfacts) | (go_at_call 21; refine (rmul02_any _ _ _ (by omega) (by omega) (by omega) (by omega)).mono ?_; rintro e wn ⟨rfl, hbn⟩; replace lz := (show Lz w wn _ _ _ _ _ from by first | exact lz.below hbn | exact lz.drew.below hbn | exact (lz.drewN _).below hbn); clear hbn; clear p0 p1 p2 p3 p4 p5 p6 z1 z2 q0 q1 q2 c0 c1 c2 c3 c4 c5 c6 z3; obtain ⟨⟨p0, p1, p2, p3, p4, p5⟩, p6, z1, z2⟩ := lz.l.sfacts; obtain ⟨⟨q0, q1⟩, q2⟩ := lz.l.pfacts; obtain ⟨⟨c0, c1, c2, c3, c4, c5⟩, c6, z3⟩ := lz.cfacts)))) | fail
          all_goals (go_wp2_with fail; go_meet; exact ⟨by first | rfl | simp, (show Lz w _ _ _ _ _ _ from by first | exact lz | exact lz.drew | exact lz.drewN _)⟩)
    case rest =>
      clear p0 p1 p2 p3 p4 p5 p6 z1 z2 q0 q1 q2 c0 c1 c2 c3 c4 c5 c6 z3
      clear lz
      obtain ⟨rfl, lz⟩ := hcut
      go_upto_if 57 with fail
      go_cut [13] (fun s13 wx => s13 = .int .u64 k ∧ Lz w wx w4.heap.size ⟨true, now, false, ne, co, la⟩ ⟨true, now, true, sat (now + lawZ I k), k, k⟩ t I)
      case first =>
        have hk := HK.out
        cases sb
        · have ek : k = 1 := hk
          go_wp2
          go_meet
          exact ⟨by rw [ek], lz⟩
        · have ek : k = d := hk
          go_wp2
          go_meet
          exact ⟨by rw [ek], lz⟩
      case rest =>
        clear lz
        obtain ⟨rfl, lz⟩ := hcut
        obtain ⟨⟨p0, p1, p2, p3, p4, p5⟩, p6, z1, z2⟩ := lz.l.sfacts
        obtain ⟨⟨q0, q1⟩, q2⟩ := lz.l.pfacts
        obtain ⟨⟨c0, c1, c2, c3, c4, c5⟩, c6, z3⟩ := lz.cfacts
        go_wp2_with fail
        first | (go_region_held3 (fun w' => w'.cell? ⟨w4.heap.size, 1, none⟩ = some (.int .i64 now) ∧ w'.cell? ⟨w4.heap.size, 2, none⟩ = some (.bool true) ∧ w'.cell? ⟨w4.heap.size, 3, none⟩ = some (.int .i64 (sat (now + lawZ I k))) ∧ w'.cell? ⟨w4.heap.size, 4, none⟩ = some (.int .u64 k) ∧ w'.cell? ⟨w4.heap.size, 5, none⟩ = some (.int .u64 k) ∧ w'.cell? ⟨w.heap.size + 1, 1, none⟩ = some (.int .i64 I)) (repeat (first | with_reducible assumption | refine ⟨?_, ?_⟩ | with_reducible refine kdrew ?_)) ((first | (go_at_call 19; refine (rrlaw_z _ _ _ I1 k0.1 k0.2).mono ?_; rintro e wn ⟨rfl, hbn⟩; replace lz := (show Lz w wn _ _ _ _ _ from by first | exact lz.below hbn | exact lz.drew.below hbn | exact (lz.drewN _).below hbn); clear hbn; clear p0 p1 p2 p3 p4 p5 p6 z1 z2 q0 q1 q2 c0 c1 c2 c3 c4 c5 c6 z3; obtain ⟨⟨p0, p1, p2, p3, p4, p5⟩, p6, z1, z2⟩ := lz.l.sfacts; obtain ⟨⟨q0, q1⟩, q2⟩ := lz.l.pfacts; obtain ⟨⟨c0, c1, c2, c3, c4, c5⟩, c6, z3⟩ := lz.cfacts) | (go_at_call 18; refine (radd02_any _ _ _ now0 now1 (by omega) (by omega)).mono ?_; rintro e wn ⟨rfl, hbn⟩; replace lz := (show Lz w wn _ _ _ _ _ from by first | exact lz.below hbn | exact lz.drew.below hbn | exact (lz.drewN _).below hbn); clear hbn; clear p0 p1 p2 p3 p4 p5 p6 z1 z2 q0 q1 q2 c0 c1 c2 c3 c4 c5 c6 z3; obtain ⟨⟨p0, p1, p2, p3, p4, p5⟩, p6, z1, z2⟩ := lz.l.sfacts; obtain ⟨⟨q0, q1⟩, q2⟩ := lz.l.pfacts; obtain ⟨⟨c0, c1, c2, c3, c4, c5⟩, c6, z3⟩ := lz.cfacts)))) | fail
        all_goals (go_wp2_with fail; go_ret; exact ⟨rfl, by first | exact lz.l.be | exact lz.drew.l.be⟩)
set_option maxRecDepth 100000 in
theorem lifted (os : Os) (started : os.Started) (H : Type) (enc : TypeId × Value → H) :
    ReturnsInHanded {} Try.checked os 7 .any (Rows.codelBackSpec.pre6 enc Try.prog Try.f7 Rows.codelBackRow.domain false) (Rows.codelBackSpec.post enc Try.prog Try.f7 false true false false) := by
  refine returnsInHanded_of_change (C := Try.checked) own started (by kernel_rfl) Try.func7
    (ChangeSpec.witness6 (enc := enc) (C := Try.checked) false ⟨#[], #[.agg #[.bool false, .int .i64 0, .bool false, .int .i64 0, .int .u64 0, .int .u64 0], .agg #[.int .i64 0, .int .i64 0], .int .i64 0, .int .i64 0], []⟩ 8 (by kernel_rfl) (by kernel_rfl) (by kernel_rfl) (by kernel_rfl)) ?_
  intro W base args ds gs before hval0 hW hcnd _
  have hval : ∀ (j : Nat) t v, Try.f7.params[j]? = some t → args[j]? = some v → Value.okWide Try.prog W .any base t v := hval0
  have hW' := hW
  obtain ⟨p, q, hA0, hV, rfl, hfz, hnd⟩ := hW
  have hA : DataW.TrodAll enc Try.prog W 0 (fun _ => true) true Try.f7.params.toList args.toList ds p := hA0
  rw [Try.params7] at hA hval
  obtain ⟨v0, vs0, d0, ds0, p0, q0, hargs, rfl, rfl, h0, r0⟩ := trodAll_cons hA
  obtain ⟨v1, vs1, d1, ds1, p1, q1, rfl, rfl, rfl, h1, r1⟩ := trodAll_cons r0
  obtain ⟨v2, vs2, d2, ds2, p2, q2, rfl, rfl, rfl, h2, r2⟩ := trodAll_cons r1
  obtain ⟨v3, vs3, d3, ds3, p3, q3, rfl, rfl, rfl, h3, r3⟩ := trodAll_cons r2
  obtain ⟨rfl, rfl, rfl⟩ := trodAll_nil r3
  obtain rfl : args = #[v0, v1, v2, v3] := by cases args; simp_all
  obtain ⟨rfl, rfl⟩ := trodVars_none hV
  obtain ⟨x00, x01, x02, x03, x04, x05, y00, y01, y02, y03, y04, y05, n0, rfl, g00, g01, g02, g03, g04, g05⟩ := open_six Try.underlying24 (by kernel_rfl) (by kernel_rfl) (hval 0 _ v0 rfl rfl) h0
  obtain ⟨a00, e00, ez00⟩ := DataW.trod_bool Try.underlying4 g00
  simp at e00
  subst e00
  obtain ⟨a01, e01, ez01, w01⟩ := DataW.trod_int Try.underlying2 g01
  simp at e01
  subst e01
  obtain ⟨a02, e02, ez02⟩ := DataW.trod_bool Try.underlying4 g02
  simp at e02
  subst e02
  obtain ⟨a03, e03, ez03, w03⟩ := DataW.trod_int Try.underlying2 g03
  simp at e03
  subst e03
  obtain ⟨a04, e04, ez04, w04⟩ := DataW.trod_int Try.underlying22 g04
  simp at e04
  subst e04
  obtain ⟨a05, e05, ez05, w05⟩ := DataW.trod_int Try.underlying22 g05
  simp at e05
  subst e05
  obtain ⟨x10, x11, y10, y11, n1, rfl, g10, g11⟩ := open_two Try.underlying26 (by kernel_rfl) (by kernel_rfl) (hval 1 _ v1 rfl rfl) h1
  obtain ⟨a10, e10, ez10, w10⟩ := DataW.trod_int Try.underlying2 g10
  simp at e10
  subst e10
  obtain ⟨a11, e11, ez11, w11⟩ := DataW.trod_int Try.underlying2 g11
  simp at e11
  subst e11
  obtain ⟨a2, rfl, rfl, rfl, w2⟩ := open_int Try.underlying2 (hval 2 _ v2 rfl rfl) h2
  obtain ⟨a3, rfl, rfl, rfl, w3⟩ := open_int Try.underlying3 (hval 3 _ v3 rfl rfl) h3
  clear hA0 hval0
  obtain ⟨l01, m01⟩ := wf_i64 w01
  obtain ⟨l03, m03⟩ := wf_i64 w03
  obtain ⟨l04, m04⟩ := wf_u64 w04
  obtain ⟨l05, m05⟩ := wf_u64 w05
  obtain ⟨l10, m10⟩ := wf_i64 w10
  obtain ⟨l11, m11⟩ := wf_i64 w11
  obtain ⟨l2, m2⟩ := wf_i64 w2
  obtain ⟨l3, m3⟩ := wf_i64 w3
  refine (walk a00 a01 a02 a03 a04 a05 a10 a11 a2 a3 W l01 m01 l03 m03 l04 m04 l05 m05 l10 m10 l11 m11 l2 m2 l3 m3).mono fun e W' ⟨he, hg⟩ => ?_
  subst he
  exact ⟨_, rfl, post_of_law hW' rfl laidOut reads rfl Try.underlying4 rfl rfl rfl hg⟩
theorem over : Rows.codelBackRow.holds Try.pinned (OpenSpec.ofChange Rows.codelBackSpec) :=
  OpenClaim.holds_of_wide 7 Try.f7 rfl rfl rfl rfl rfl rfl rfl ⟨rfl, rfl, rfl, rfl, rfl⟩ rfl rfl rfl rfl rfl (by kernel_rfl) Try.func7 (by kernel_rfl)
    (of_decide_eq_true (by kernel_rfl)) (by unfold Func.isWrapper; first | (rw [if_pos (by decide +kernel)]; kernel_rfl) | (rw [if_neg (by decide +kernel)]; exact ⟨rfl, rfl⟩))
    (fun os started H enc _ => lifted os started H enc)
theorem proved : Rows.CodelBackSaid := over
end Go.Proofs.Ytkmhdkhaoegbjaa.codelBack
