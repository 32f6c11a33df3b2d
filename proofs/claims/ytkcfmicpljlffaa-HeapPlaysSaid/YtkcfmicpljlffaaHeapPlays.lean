/- HeapPlays is true of every room and every list of acts, and changes nothing that it was given. -/
import Derived.Test.YtkcfmicpljlffaaHqb
import Derived.Test.YtkcfmicpljlffaaHelpb
import Derived.Test.YtkcfmicpljlffaaHelpc
import Derived.Test.YtkcfmicpljlffaaRowb
import Derived.Test.YtkcfmicpljlffaaRows
import Derived.WalkKit
import Derived.ProofKit
import Derived.OpenShut
import Derived.Deep.DeepCutAuto
import Derived.Deep.CutBlock
import Derived.Deep.RegionHeld3
namespace Go.Proofs.Ytkcfmicpljlffaa.heapPlays
open Go.ChangeShapes Go.WideShapes Go.ChangeAt Go.RowKit
set_option linter.unusedVariables false
theorem own : ownKnob Try.prog.godebug = none := by kernel_rfl
theorem laidOut : laidOutB Try.prog = true := by kernel_rfl
theorem reads : (Try.f3.params.toList.all fun t => Try.prog.readableRec t && decide (t < Try.prog.types.size)) = true := by kernel_rfl
set_option linter.unusedSimpArgs false
theorem hkey_both {v w : World} {p x n ga : Nat} {L Ld : List En} {q : Ha} (i : Int) (h : Hd v w p x n ga L Ld q) : Calls Try.prog 19 #[.pointer (some ⟨p, 0, none⟩), .int .i64 i] w fun e w' => ((hasE i L = false ∧ e = .returned (.tuple #[.int .i64 0, .bool false])) ∨ ∃ a, a ∈ L ∧ a.m = i ∧ e = .returned (.tuple #[.int .i64 a.k, .bool true])) ∧ Hd v w' p x n ga L Ld q := by
  by_cases h1 : i < 0 ∨ (n : Int) ≤ i
  · refine (lkey_out i h1 w h.h).mono ?_
    rintro e w' ⟨rfl, rfl⟩
    exact ⟨.inl ⟨hasE_no.2 fun a ha e => by have := h.h.range a ha; omega, rfl⟩, h⟩
  · obtain ⟨j, rfl, hj⟩ := int_nat h1
    cases hh : hasE (j : Int) L
    · refine (lkey_none hj hh w h.h).mono ?_
      rintro e w' ⟨rfl, rfl⟩
      exact ⟨.inl ⟨rfl, rfl⟩, h⟩
    · obtain ⟨a, ha, hm⟩ := hasE_iff.1 hh
      refine (lkey_some hj ha hm w h.h).mono ?_
      rintro e w' ⟨rfl, hb⟩
      exact ⟨.inr ⟨a, ha, hm, rfl⟩, h.below hb⟩
theorem same_of {L : List En} {a b : En} (h : L.Pairwise fun a b => a.m ≠ b.m) (ha : a ∈ L) (hb : b ∈ L) (he : a.m = b.m) : a = b := by
  induction L with
  | nil => simp at ha
  | cons c l ih =>
    rw [List.pairwise_cons] at h
    rcases List.mem_cons.1 ha with e1 | h1
    · rcases List.mem_cons.1 hb with e2 | h2
      · rw [e1, e2]
      · exact absurd (by rw [← e1]; exact he) (h.1 b h2)
    · rcases List.mem_cons.1 hb with e2 | h2
      · exact absurd (by rw [← e2]; exact he.symm) (h.1 a h1)
      · exact ih h.2 h1 h2
theorem putL_len {n : Nat} {L : List En} {i k t : Int} : (putL n L i k t).length ≤ L.length + 1 := by
  unfold putL
  split
  · rw [len_ins]; exact Nat.le_refl _
  · omega
theorem remL_len {n : Nat} {L : List En} {i : Int} : (remL n L i).length ≤ L.length := by
  unfold remL
  split
  · exact List.length_filter_le _ _
  · exact Nat.le_refl _
set_option maxRecDepth 100000 in
set_option maxHeartbeats 8000000 in
theorem walk (r : Int) (A : Option Addr) (len cap : Nat) (Q : Nat → Ha) (w : World) (hl : len ≤ cap) (hc : cap ≤ maxLen) (hQ : SeqAt w w.heap.size A len 4 (fun i => haRow (Q i))) (hok : ∀ i, i < len → (Q i).ok) (r0 : 0 ≤ r) (r1 : r ≤ 255) :
    Calls Try.prog 3 #[.int .u8 r, .slice A len cap] w fun e w' => e = .returned (.bool true) ∧ Below w.heap.size w w' := by
  unfold maxLen at hc
  have HQ := Lib.hid hQ
  have HOK := Lib.hid hok
  clear hQ hok
  obtain ⟨n, hn⟩ : ∃ n : Nat, (1 + r % 30).toNat = n := ⟨_, rfl⟩
  have n0 : 1 ≤ n := by omega
  have n1 : n ≤ 30 := by omega
  have e1 : r.tmod 30 = r % 30 := Int.tmod_eq_emod_of_nonneg r0
  have e2 : IntKind.i64.wrap (1 + r % 30) = (n : Int) := by rw [IntKind.wrap_i64]; omega
  have e3 : IntKind.u8.wrap (r % 30) = r % 30 := by simp [IntKind.wrap, IntKind.signed, IntKind.bits]; omega
  have e4 : IntKind.i64.wrap (r % 30) = r % 30 := by rw [IntKind.wrap_i64]; omega
  go_enter Try.func3, Try.ntmps3
  go_wp2_with fail
  refine (awake07 _).mono ?_
  rintro e w1 ⟨rfl, hb1⟩
  have B1 := Lib.hid hb1
  clear hb1
  go_wp2_with fail
  refine (lnew_yes (base := w.heap.size) n (by omega) (by omega) _ B1.out.size).mono ?_
  rintro e w2 ⟨p, rfl, hp, h2, b2⟩
  have H2 := Lib.hid h2
  have B2 := Lib.hid (B1.out.trans (b2.mono B1.out.size))
  clear h2 b2 B1 e1 e2 e3 e4 hn r0 r1
  go_upto_region 8 with fail
  refine wp_worldh (fun wx => HeapL w.heap.size wx p n [] ∧ DocL w.heap.size wx w2.heap.size n [] ∧ Below w.heap.size w wx) ⟨H2.out.below ((Below.refl _ _).alloc (Nat.le_refl _) _), ⟨_, Blk.made _ _ _, World.ownsRow_nil _ _ _ _⟩, B2.out.alloc B2.out.size _⟩ ?_
  have hx2 := B2.out.size
  obtain ⟨x, hx⟩ : ∃ x, w2.heap.size = x := ⟨_, rfl⟩
  rw [hx] at hx2 ⊢
  clear H2 B2
  rintro w3 ⟨h3, d3, b3⟩
  have H3 := Lib.hid h3
  have D3 := Lib.hid d3
  have B3 := Lib.hid b3
  clear h3 d3 b3
  go_wp2_with fail
  go_loopw [38] (fun s38 wr => ∃ (k : Nat) (L : List En), k ≤ len ∧ s38 = .int .i64 (k : Int) ∧ L.length ≤ k ∧ HeapL w.heap.size wr p n L ∧ DocL w.heap.size wr x n L ∧ Below w.heap.size w wr) (fun i _ => len - (intOf i).toNat)
  case atStart => exact ⟨0, [], Nat.zero_le _, rfl, Nat.le_refl _, H3.out, D3.out, B3.out⟩
  case round =>
    clear H3 D3 B3
    obtain ⟨k, L, hk, rfl, hLk, h4, d4, b4⟩ := hrel
    by_cases hlt : k < len
    · obtain ⟨kb, ko, rfl, hkb, hkc⟩ := HQ.out (by omega)
      have hq : ∀ j, j < 4 → wr.cell? ⟨kb, ko + k * 4 + j, none⟩ = (haRow (Q k))[j]? := fun j hj => (b4.cell hkb).trans (hkc k hlt j hj)
      have hqk := HOK.out k hlt
      obtain ⟨⟨d, i, ky, t⟩, hqe⟩ : ∃ q, Q k = q := ⟨_, rfl⟩
      rw [hqe] at hq hqk
      obtain ⟨⟨d0, d1⟩, ⟨i0, i1⟩, ⟨ky0, ky1⟩, ⟨t0, t1⟩⟩ : (0 ≤ d ∧ d ≤ 255) ∧ (-9223372036854775808 ≤ i ∧ i ≤ 9223372036854775807) ∧ (-9223372036854775808 ≤ ky ∧ ky ≤ 9223372036854775807) ∧ (0 ≤ t ∧ t ≤ 18446744073709551615) := hqk
      have q0 : wr.cell? ⟨kb, ko + k * 4, none⟩ = some (.int .u8 d) := hq 0 (by omega)
      have q1 : wr.cell? ⟨kb, ko + k * 4 + 1, none⟩ = some (.int .i64 i) := hq 1 (by omega)
      have q2 : wr.cell? ⟨kb, ko + k * 4 + 2, none⟩ = some (.int .i64 ky) := hq 2 (by omega)
      have q3 : wr.cell? ⟨kb, ko + k * 4 + 3, none⟩ = some (.int .u64 t) := hq 3 (by omega)
      have hkr : kb < wr.heap.size := by have := b4.size; omega
      have kk0 : (0 : Int) ≤ (k : Int) := by omega
      have kk1 : (k : Int) < (len : Int) := by omega
      clear hq hkc hqe
      by_cases h80 : k < 80
      · go_upto_region 11 with fail
        obtain ⟨ga, hga⟩ : ∃ g, wr.heap.size = g := ⟨_, rfl⟩
        refine wp_worldh (fun wx => Hd w wx p x n ga L L ⟨d, i, ky, t⟩) ⟨h4.below ((Below.refl _ _).alloc (Nat.le_refl _) _), d4.below ((Below.refl _ _).alloc (Nat.le_refl _) _), b4.alloc b4.size _, Blk.new_ hga.symm, hx2, by omega, h4.distinct⟩ ?_
        rw [hga]
        clear h4 d4 b4 q0 q1 q2 q3 hkr hga
        rintro w4 hd
        have HD := Lib.hid hd
        have c0 : w4.cell? ⟨ga, 0, none⟩ = some (.int .u8 d) := hd.a.val rfl
        have c1 : w4.cell? ⟨ga, 1, none⟩ = some (.int .i64 i) := hd.a.val rfl
        have c2 : w4.cell? ⟨ga, 2, none⟩ = some (.int .i64 ky) := hd.a.val rfl
        have c3 : w4.cell? ⟨ga, 3, none⟩ = some (.int .u64 t) := hd.a.val rfl
        clear hd
        obtain ⟨D, hD⟩ : ∃ D, d % 6 = D := ⟨_, rfl⟩
        have f1 : d.tmod 6 = D := by rw [← hD]; exact Int.tmod_eq_emod_of_nonneg d0
        have hD0 : 0 ≤ D ∧ D < 6 := by omega
        have f2 : IntKind.u8.wrap D = D := by
          have : IntKind.u8.wrap D = D % 256 := by simp [IntKind.wrap, IntKind.signed, IntKind.bits]
          rw [this]; omega
        clear hD
        go_upto_block 2 with fail
        go_cut [11, 12, 13, 14] from 48 to 189 (fun s11 s12 s13 s14 wx => ∃ (er : Int) (L' : List En), s11 = .int .i64 er ∧ s12 = .int .i64 er ∧ L'.length ≤ k + 1 ∧ Hd w wx p x n ga L' L' ⟨d, i, ky, t⟩)
        case first =>
          by_cases h3 : D = 3
          · subst h3
            go_upto_region 16 with fail
            first | (go_region_held3 (fun w' => w'.cell? ⟨ga, 1, none⟩ = some (.int .i64 i)) ((repeat (first | with_reducible assumption | refine ⟨?_, ?_⟩ | with_reducible refine kdrew ?_))) (first | (go_at_call 10; refine (hd_rem i _ (by first | exact HD.out | exact HD.out.drew)).mono ?_; rintro e wn ⟨rfl, hn1⟩; have c1wn : wn.cell? ⟨ga, 1, none⟩ = some (.int .i64 i) := hn1.a.val rfl) | (go_at_call 11; refine (hd_rrem i _ hn1).mono ?_; rintro e wm ⟨rfl, hn2⟩; have c1wm : wm.cell? ⟨ga, 1, none⟩ = some (.int .i64 i) := hn2.a.val rfl))) | fail
            all_goals (go_wp2_with fail; go_meet; exact ⟨_, remL n L i, rfl, rfl, Nat.le_trans remL_len (by omega), (by first | exact hn2 | exact hn2.drew | exact hn2.drewN _)⟩)
          · by_cases h4 : D = 4
            · subst h4
              cases hLL : L with
              | nil =>
                subst hLL
                go_wp2_with fail
                refine (lmin_none _ HD.out.h).mono ?_
                rintro e wn ⟨rfl, rfl⟩
                go_wp2_with fail
                go_meet
                exact ⟨0, [], rfl, rfl, Nat.zero_le _, HD.out⟩
              | cons a l =>
                subst hLL
                obtain ⟨am, ham⟩ : ∃ am, a.m = am := ⟨_, rfl⟩
                have hll : l.length + 1 ≤ k := by simpa using hLk
                go_wp2_with fail
                refine (lmin_some _ HD.out.h).mono ?_
                rw [ham]
                rintro e wn ⟨rfl, rfl⟩
                clear ham
                go_wp2_with fail
                refine (hd_rem am _ HD.out).mono ?_
                rintro e wn ⟨rfl, hn1⟩
                have HN1 := Lib.hid hn1
                clear hn1
                go_wp2_with fail
                refine (hd_rrem am _ HN1.out).mono ?_
                rintro e wm ⟨rfl, hn2⟩
                have HN2 := Lib.hid hn2
                clear hn2
                go_wp2_with fail
                go_meet
                exact ⟨_, _, rfl, rfl, Nat.le_trans remL_len (by rw [List.length_cons]; omega), HN2.out⟩
            · by_cases h5 : D = 5
              · subst h5
                go_upto_region 22 with fail
                first | (go_region_held3 (fun w' => w'.cell? ⟨ga, 2, none⟩ = some (.int .i64 ky)) ((repeat (first | with_reducible assumption | refine ⟨?_, ?_⟩ | with_reducible refine kdrew ?_))) (first | (go_at_call 14; refine (ldue ky _ (Hd.h (by first | exact HD.out | exact HD.out.drew))).mono ?_; rintro e wn ⟨g1, rfl, o1, b1⟩; rw [due_intL] at o1; have hn1 := Hd.below (by first | exact HD.out | exact HD.out.drew) b1; have c2wn : wn.cell? ⟨ga, 2, none⟩ = some (.int .i64 ky) := hn1.a.val rfl) | (go_at_call 15; refine (rdue ky _ hn1.d (by omega)).mono ?_; rintro e wm ⟨v2, rfl, o2, b2⟩; have o3 := own_below o1 b2; have hn2 := hn1.below b2; have c2wm : wm.cell? ⟨ga, 2, none⟩ = some (.int .i64 ky) := hn2.a.val rfl) | (go_at_call 13; refine (eq_own o3 o2).mono ?_; rw [decide_eq_true rfl]; rintro e wq ⟨rfl, qq, rfl⟩; have hn3 := hn2.drewN qq; have c2q : (wm.drewN qq).cell? ⟨ga, 2, none⟩ = some (.int .i64 ky) := hn3.a.val rfl))) | fail
                all_goals (go_wp2_with fail; go_meet; exact ⟨0, L, rfl, rfl, by omega, (by first | exact hn3 | exact hn3.drew | exact hn3.drewN _)⟩)
              · have g3 : (D == 3) = false := by simp [h3]
                have g4 : (D == 4) = false := by simp [h4]
                have g5 : (D == 5) = false := by simp [h5]
                go_upto_region 14 with fail
                first | (go_region_held3 (fun w' => w'.cell? ⟨ga, 1, none⟩ = some (.int .i64 i) ∧ w'.cell? ⟨ga, 2, none⟩ = some (.int .i64 ky) ∧ w'.cell? ⟨ga, 3, none⟩ = some (.int .u64 t)) ((repeat (first | with_reducible assumption | refine ⟨?_, ?_⟩ | with_reducible refine kdrew ?_))) (first | (go_at_call 16; refine (hd_put i ky t _ (by first | exact HD.out | exact HD.out.drew)).mono ?_; rintro e wn ⟨rfl, hn1⟩; have c1wn : wn.cell? ⟨ga, 1, none⟩ = some (.int .i64 i) := hn1.a.val rfl; have c2wn : wn.cell? ⟨ga, 2, none⟩ = some (.int .i64 ky) := hn1.a.val rfl; have c3wn : wn.cell? ⟨ga, 3, none⟩ = some (.int .u64 t) := hn1.a.val rfl) | (go_at_call 17; refine (hd_rput ⟨ky, t, i⟩ _ hn1 (by omega)).mono ?_; rintro e wm ⟨rfl, hn2⟩; have c1wm : wm.cell? ⟨ga, 1, none⟩ = some (.int .i64 i) := hn2.a.val rfl; have c2wm : wm.cell? ⟨ga, 2, none⟩ = some (.int .i64 ky) := hn2.a.val rfl; have c3wm : wm.cell? ⟨ga, 3, none⟩ = some (.int .u64 t) := hn2.a.val rfl))) | fail
                all_goals (go_wp2_with fail; go_meet; exact ⟨_, putL n L i ky t, rfl, rfl, Nat.le_trans putL_len (by omega), (by first | exact hn2 | exact hn2.drew | exact hn2.drewN _)⟩)
        case rest =>
          clear HD c0 c1 c2 c3 hLk
          obtain ⟨er, L', rfl, rfl, hLk, hd⟩ := hcut
          have HD := Lib.hid hd
          clear hd
          obtain ⟨vx, bx, ox⟩ := HD.out.d.ex
          obtain ⟨Ax, cx, rfl⟩ := own_form ox
          have qx : wc.cell? ⟨x, 0, none⟩ = some (.slice Ax L'.length cx) := bx.val rfl
          have OX := Lib.hid ox
          have c1 : wc.cell? ⟨ga, 1, none⟩ = some (.int .i64 i) := HD.out.a.val rfl
          obtain ⟨m, hm⟩ : ∃ m, L'.length = m := ⟨_, rfl⟩
          rw [hm] at qx OX hLk
          have HM := Lib.hid hm
          clear bx ox hm
          have hmin : ∃ (bm : Int) (ok : Bool), (m = 0 ∧ bm = 0 ∧ ok = false ∨ 0 < m ∧ bm = (L'[0]!).m ∧ ok = true) ∧ Calls Try.prog 12 #[.pointer (some ⟨p, 0, none⟩)] wc fun e w' => e = .returned (.tuple #[.int .i64 bm, .bool ok]) ∧ wc = w' := by
            cases hLL : L' with
            | nil =>
              have h := HD.out.h
              rw [hLL] at h
              exact ⟨0, false, .inl ⟨by rw [← HM.out, hLL]; rfl, rfl, rfl⟩, lmin_none _ h⟩
            | cons a l =>
              have h := HD.out.h
              rw [hLL] at h
              exact ⟨a.m, true, .inr ⟨by rw [← HM.out, hLL]; simp, by simp, rfl⟩, lmin_some _ h⟩
          obtain ⟨bm, ok, hmc, hmn⟩ := hmin
          have HMN := Lib.hid hmn
          clear hmn
          have hlen : Calls Try.prog 18 #[.pointer (some ⟨p, 0, none⟩)] (wc.drewN 0) fun e w' => True := (llen _ (HD.out.h.below (below_drewN_ (Below.refl _ _) _))).mono fun _ _ _ => trivial
          clear hlen
          have hlen : ∀ q, Calls Try.prog 18 #[.pointer (some ⟨p, 0, none⟩)] (wc.drewN q) fun e w' => e = .returned (.int .i64 (m : Int)) ∧ w' = wc.drewN q := fun q => by
            have h := llen _ (HD.out.h.below (below_drewN_ (Below.refl _ _) q))
            rw [HM.out] at h
            exact h.mono fun _ _ h => ⟨h.1, h.2.symm⟩
          have HLEN := Lib.hid hlen
          clear hlen
          go_upto_region 24 with fail
          go_cut [15, 16, 101] from 102 to 189 (fun s15 s16 s101 wx => s15 = .int .i64 bm ∧ s16 = .bool ok ∧ wx = wc)
          case first =>
            go_wp2_with fail
            refine HMN.out.mono ?_
            rintro e wn ⟨rfl, rfl⟩
            go_wp2_with fail
            go_meet
            exact ⟨rfl, rfl, by trivial⟩
          case rest =>
            obtain ⟨rfl, rfl, rfl⟩ := hcut
            clear HMN
            go_upto_region 25 with fail
            go_cut [150] from 106 to 189 (fun s150 wx => s150 = .bool false ∧ ∃ q, wx = wc.drewN q)
            case first =>
              rcases hmc with ⟨rfl, rfl, rfl⟩ | ⟨hm0, hbm, rfl⟩
              · go_quiet ((go_at_call 18; refine Calls.quiet_of_same (HLEN.out _)))
                go_wp2_with fail
                go_meet
                exact ⟨by first | rfl | simp, _, rfl⟩
              · obtain ⟨g, c', hv, _, hg, r0, r1, r2⟩ := own_enr OX.out hm0
                injection hv with hv1 hv2 hv3
                subst hv1 hv3
                rw [Nat.zero_mul, ← hbm] at r0
                have m0 : (0 : Int) < (m : Int) := by omega
                clear r1 r2 hv2 hbm
                go_quiet ((go_at_call 18; refine Calls.quiet_of_same (HLEN.out _)))
                go_wp2_with fail
                go_meet
                exact ⟨by first | rfl | simp, _, rfl⟩
            case rest =>
              obtain ⟨rfl, q, rfl⟩ := hcut
              clear hmc HLEN
              go_upto_region 27 with fail
              refine wp_worldh (fun wx => Hd w wx p x n ga L' L' ⟨d, i, ky, t⟩ ∧ wx.cell? ⟨ga, 1, none⟩ = some (.int .i64 i)) ⟨HD.out.drewN _, c1⟩ ?_
              clear HD c1 qx OX
              rintro wy ⟨hd, c1⟩
              have HD := Lib.hid hd
              clear hd
              go_wp2_with fail
              refine (hkey_both i HD.out).mono ?_
              rintro e wz ⟨hc, hd⟩
              have HZ := Lib.hid hd
              have hln := HM.out
              obtain ⟨vx, bx, ox⟩ := hd.d.ex
              obtain ⟨Ax, cx, rfl⟩ := own_form ox
              have qx : wz.cell? ⟨x, 0, none⟩ = some (.slice Ax L'.length cx) := bx.val rfl
              have OX := Lib.hid ox
              have c1z : wz.cell? ⟨ga, 1, none⟩ = some (.int .i64 i) := hd.a.val rfl
              rw [hln] at qx OX
              clear bx ox hd HD c1 hln
              rcases hc with ⟨hno, rfl⟩ | ⟨a, ha, ham, rfl⟩
              · go_wp2_with fail
                refine (rfind i _ HZ.out.d (by rw [HM.out]; omega)).mono ?_
                rintro e wn ⟨hc, rfl⟩
                rcases hc with ⟨-, rfl⟩ | ⟨k0, hk0, hkm, -⟩
                · go_wp2_with fail
                  go_roundw
                  case rel => exact ⟨k + 1, L', by omega, by go_num, by rw [HM.out]; omega, HZ.out.h, HZ.out.d, HZ.out.b⟩
                  case measure => simp [intOf]; omega
                · exact absurd hkm ((hasE_no.1 hno) _ (by rw [getElem!_pos L' k0 hk0]; exact List.getElem_mem hk0))
              · obtain ⟨ak, hak⟩ : ∃ y, a.k = y := ⟨_, rfl⟩
                rw [hak]
                have HA := Lib.hid (And.intro ha (And.intro ham hak))
                clear ha ham hak
                go_wp2_with fail
                refine (rfind i _ HZ.out.d (by rw [HM.out]; omega)).mono ?_
                rintro e wn ⟨hc, rfl⟩
                rcases hc with ⟨hno, -⟩ | ⟨k0, hk0, hkm, rfl⟩
                · exact absurd HA.out.2.1 ((hasE_no.1 hno) _ HA.out.1)
                · have hk0' : k0 < m := by rw [← HM.out]; exact hk0
                  obtain ⟨g, c', hv, _, hg, r0, r1, r2⟩ := own_enr OX.out hk0'
                  injection hv with hv1 hv2 hv3
                  subst hv1 hv3
                  have hsame : L'[k0]! = a := by
                    have h1 : L'[k0]! ∈ L' := by rw [getElem!_pos L' k0 hk0]; exact List.getElem_mem hk0
                    have h2 : (L'[k0]!).m = a.m := by rw [hkm, HA.out.2.1]
                    exact same_of HZ.out.dd h1 HA.out.1 h2
                  rw [hsame, HA.out.2.2] at r1
                  have z0 : (0 : Int) ≤ (k0 : Int) := by omega
                  have z1 : (k0 : Int) < (m : Int) := by omega
                  clear hsame r0 r2 hv2 hkm
                  go_wp2_with fail
                  go_roundw
                  case rel => exact ⟨k + 1, L', by omega, by go_num, by rw [HM.out]; omega, HZ.out.h, HZ.out.d, HZ.out.b⟩
                  case measure => simp [intOf]; omega
      · have kk2 : ¬ (k : Int) < 80 := by omega
        go_wp2_with fail
        go_ret
        exact ⟨rfl, b4.alloc b4.size _⟩
    · obtain rfl : k = len := by omega
      go_wp2_with fail
      go_ret
      exact ⟨rfl, b4⟩
set_option maxRecDepth 100000 in
theorem lifted (os : Os) (started : os.Started) (H : Type) (enc : TypeId × Value → H) :
    ReturnsInHanded {} Try.checked os 3 .any (Rows.heapPlaysSpec.pre6 enc Try.prog Try.f3 Rows.heapPlaysRow.domain false) (Rows.heapPlaysSpec.post enc Try.prog Try.f3 false true false false) := by
  refine returnsInHanded_of_change (C := Try.checked) own started (by kernel_rfl) Try.func3
    (ChangeSpec.witness6 (enc := enc) (C := Try.checked) false ⟨#[], #[.int .u8 0, .slice none 0 0], []⟩ 8 (by kernel_rfl) (by kernel_rfl) (by kernel_rfl) (by kernel_rfl)) ?_
  intro W base args ds gs before hval0 hW hcnd _
  have hval : ∀ (j : Nat) t v, Try.f3.params[j]? = some t → args[j]? = some v → Value.okWide Try.prog W .any base t v := hval0
  have hW' := hW
  obtain ⟨p, q, hA0, hV, rfl, hfz, hnd⟩ := hW
  have hA : DataW.TrodAll enc Try.prog W 0 (fun _ => true) true Try.f3.params.toList args.toList ds p := hA0
  rw [Try.params3] at hA hval
  obtain ⟨v0, vs0, d0, ds0, p0, q0, hargs, rfl, rfl, h0, r0⟩ := trodAll_cons hA
  obtain ⟨v1, vs1, d1, ds1, p1, q1, rfl, rfl, rfl, h1, r1⟩ := trodAll_cons r0
  obtain ⟨rfl, rfl, rfl⟩ := trodAll_nil r1
  obtain rfl : args = #[v0, v1] := by cases args; simp_all
  obtain ⟨rfl, rfl⟩ := trodVars_none hV
  obtain ⟨a0, rfl, rfl, rfl, w0⟩ := open_int Try.underlying5 (hval 0 _ v0 rfl rfl) h0
  obtain ⟨A1, len1, cap1, rfl⟩ := okWide_slice Try.underlying22 (hval 1 _ v1 rfl rfl)
  obtain ⟨fu1, g1⟩ := h1
  obtain ⟨s1, t1, Q1, u1, o1⟩ := open_has g1
  clear hA0 hval0
  obtain ⟨l0, m0⟩ := wf_u8 w0
  refine (walk a0 A1 len1 cap1 Q1 W s1 t1 u1 o1 l0 m0).mono fun e W' ⟨he, hg⟩ => ?_
  subst he
  exact ⟨_, rfl, post_of_law hW' rfl laidOut reads rfl Try.underlying4 rfl rfl rfl hg⟩
theorem over : Rows.heapPlaysRow.holds Try.pinned (OpenSpec.ofChange Rows.heapPlaysSpec) :=
  OpenClaim.holds_of_wide 3 Try.f3 rfl rfl rfl rfl rfl rfl rfl ⟨rfl, rfl, rfl, rfl, rfl⟩ rfl rfl rfl rfl rfl (by kernel_rfl) Try.func3 (by kernel_rfl)
    (of_decide_eq_true (by kernel_rfl)) (by unfold Func.isWrapper; first | (rw [if_pos (by decide +kernel)]; kernel_rfl) | (rw [if_neg (by decide +kernel)]; exact ⟨rfl, rfl⟩))
    (fun os started H enc _ => lifted os started H enc)
theorem proved : Rows.HeapPlaysSaid := over
end Go.Proofs.Ytkcfmicpljlffaa.heapPlays
