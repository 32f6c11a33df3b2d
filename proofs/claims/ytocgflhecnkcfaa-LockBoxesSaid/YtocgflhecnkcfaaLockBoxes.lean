/- LockBoxes is true of every list of deeds, and changes nothing that it was given. -/
import Derived.Test.YtocgflhecnkcfaaLkd
import Derived.Test.YtocgflhecnkcfaaLke
import Derived.Test.YtocgflhecnkcfaaHelpc
import Derived.Test.YtocgflhecnkcfaaRowb
import Derived.Test.YtocgflhecnkcfaaRows
import Derived.WalkKit
import Derived.ProofKit
import Derived.OpenShut
import Derived.Deep.DeepCutAuto
import Derived.Deep.RegionHeld3
import Derived.Deep.QuietTactic
import Derived.BigQuiet
namespace Go.Proofs.Ytocgflhecnkcfaa.lockBoxes
open Go.ChangeShapes Go.WideShapes Go.ChangeAt Go.RowKit
set_option linter.unusedVariables false
theorem own : ownKnob Try.prog.godebug = none := by kernel_rfl
theorem laidOut : laidOutB Try.prog = true := by kernel_rfl
theorem reads : (Try.f4.params.toList.all fun t => Try.prog.readableRec t && decide (t < Try.prog.types.size)) = true := by kernel_rfl
theorem quiet_s {P : Program} {f : FuncId} {args : Array Value} {w : World} {a : Nat} {v : Value} (h : Calls P f args (w.drewN a) fun e w' => e = .returned v ∧ w.drewN a = w') :
    Calls P f args (w.drewN a) fun e w'' => e = .returned v ∧ ∃ m, w'' = w.drewN m := h.mono fun _ _ ⟨h, hm⟩ => ⟨h, a, hm.symm⟩
set_option maxRecDepth 100000 in
set_option maxHeartbeats 16000000 in
theorem walk (A : Option Addr) (len cap : Nat) (Q : Nat → DeV) (w : World) (hlc : len ≤ cap) (hcm : cap ≤ maxLen) (hQ : SeqAt w w.heap.size A len 10 (fun i => deRow (Q i))) (hok : ∀ i, i < len → (0 ≤ (Q i).d ∧ (Q i).d ≤ 255)) :
    Calls Try.prog 4 #[.slice A len cap] w fun e w' => e = .returned (.bool true) ∧ Below w.heap.size w w' := by
  unfold maxLen at hcm
  have HQ := Lib.hid hQ
  have HO := Lib.hid hok
  clear hQ hok
  go_enter Try.func4, Try.ntmps4
  go_wp2_with fail
  refine (awake19 _).mono ?_
  rintro e w1 ⟨rfl, hb⟩
  have B1 := Lib.hid hb
  clear hb
  go_wp2_with fail
  refine (bx_new _).mono ?_
  rintro e w2 ⟨rfl, h2, b2⟩
  obtain ⟨b, hl⟩ : ∃ l, w1.heap.size = l := ⟨_, rfl⟩
  have hwl : w.heap.size ≤ b := by have := B1.out.size; omega
  have B2 := Lib.hid (B1.out.trans (b2.mono B1.out.size))
  rw [hl] at h2 ⊢
  have H2 := Lib.hid h2
  clear h2 b2 hl B1
  go_upto_region 4 with fail
  refine wp_worldx (fun wx => BoxAt wx b 0 op0 re0 ∧ DBox wx w2.heap.size 0 op0 re0 ∧ Below w.heap.size w wx) ⟨Blk.alloc_ H2.out _, Blk.made _ _ _, B2.out.alloc B2.out.size _⟩ ?_
  obtain ⟨x, hx⟩ : ∃ x, w2.heap.size = x := ⟨_, rfl⟩
  have hwx : w.heap.size ≤ x := by have := B2.out.size; omega
  rw [hx]
  clear hx H2 B2
  rintro w3 ⟨h1, h2, h3⟩
  have H1 := Lib.hid h1
  have H2 := Lib.hid h2
  have H3 := Lib.hid h3
  clear h1 h2 h3
  go_wp2_with fail
  go_loopw [20] (fun s20 wr => ∃ k : Nat, k ≤ len ∧ s20 = .int .i64 (k : Int) ∧ ∃ s o r, (0 ≤ s ∧ s ≤ 2) ∧ BoxAt wr b s o r ∧ DBox wr x s o r ∧ Below w.heap.size w wr) (fun i _ => len - (intOf i).toNat)
  case atStart => exact ⟨0, Nat.zero_le _, rfl, 0, op0, re0, by omega, H1.out, H2.out, H3.out⟩
  case round =>
    clear H1 H2 H3
    obtain ⟨k, hk, rfl, s, o, r, ⟨s0, s2⟩, h1, hd, h3⟩ := hrel
    have hbx : ¬ b = x := fun h => (Blk.other h1 hd (by decide)) h
    have hxb : ¬ x = b := fun h => hbx h.symm
    have H1 := Lib.hid h1
    have HD := Lib.hid hd
    have H3 := Lib.hid h3
    clear h1 hd h3
    by_cases hlt : k < len
    · have k0 : (0 : Int) ≤ (k : Int) := by omega
      have k1 : (k : Int) < (len : Int) := by omega
      obtain ⟨kb, ko, rfl, hkb, hkc⟩ := HQ.out (by omega)
      have hdd := HO.out k hlt
      obtain ⟨d, ok, ot, oc, on, ra, rk, rt, rc, rs, hq⟩ : ∃ d ok ot oc on ra rk rt rc rs, Q k = ⟨d, ⟨ok, ot, oc, on⟩, ⟨ra, rk, rt, rc, rs⟩⟩ := ⟨_, _, _, _, _, _, _, _, _, _, rfl⟩
      rw [hq] at hdd
      have q0 : wr.cell? ⟨kb, ko + k * 10, none⟩ = some (.int .u8 d) := (H3.out.cell (p := ⟨kb, ko + k * 10 + 0, none⟩) hkb).trans (by have := hkc k hlt 0 (by omega); simp only [hq] at this; exact this)
      have q1 : wr.cell? ⟨kb, ko + k * 10 + 1, none⟩ = some (.int .u8 ok) := (H3.out.cell (p := ⟨kb, ko + k * 10 + 1, none⟩) hkb).trans (by have := hkc k hlt 1 (by omega); simp only [hq] at this; exact this)
      have q2 : wr.cell? ⟨kb, ko + k * 10 + 2, none⟩ = some (.int .i64 ot) := (H3.out.cell (p := ⟨kb, ko + k * 10 + 2, none⟩) hkb).trans (by have := hkc k hlt 2 (by omega); simp only [hq] at this; exact this)
      have q3 : wr.cell? ⟨kb, ko + k * 10 + 3, none⟩ = some (.int .i64 oc) := (H3.out.cell (p := ⟨kb, ko + k * 10 + 3, none⟩) hkb).trans (by have := hkc k hlt 3 (by omega); simp only [hq] at this; exact this)
      have q4 : wr.cell? ⟨kb, ko + k * 10 + 4, none⟩ = some (.int .i64 on) := (H3.out.cell (p := ⟨kb, ko + k * 10 + 4, none⟩) hkb).trans (by have := hkc k hlt 4 (by omega); simp only [hq] at this; exact this)
      have q5 : wr.cell? ⟨kb, ko + k * 10 + 5, none⟩ = some (.int .u8 ra) := (H3.out.cell (p := ⟨kb, ko + k * 10 + 5, none⟩) hkb).trans (by have := hkc k hlt 5 (by omega); simp only [hq] at this; exact this)
      have q6 : wr.cell? ⟨kb, ko + k * 10 + 6, none⟩ = some (.int .u64 rk) := (H3.out.cell (p := ⟨kb, ko + k * 10 + 6, none⟩) hkb).trans (by have := hkc k hlt 6 (by omega); simp only [hq] at this; exact this)
      have q7 : wr.cell? ⟨kb, ko + k * 10 + 7, none⟩ = some (.int .i64 rt) := (H3.out.cell (p := ⟨kb, ko + k * 10 + 7, none⟩) hkb).trans (by have := hkc k hlt 7 (by omega); simp only [hq] at this; exact this)
      have q8 : wr.cell? ⟨kb, ko + k * 10 + 8, none⟩ = some (.int .i64 rc) := (H3.out.cell (p := ⟨kb, ko + k * 10 + 8, none⟩) hkb).trans (by have := hkc k hlt 8 (by omega); simp only [hq] at this; exact this)
      have q9 : wr.cell? ⟨kb, ko + k * 10 + 9, none⟩ = some (.int .i64 rs) := (H3.out.cell (p := ⟨kb, ko + k * 10 + 9, none⟩) hkb).trans (by have := hkc k hlt 9 (by omega); simp only [hq] at this; exact this)
      clear hkc hq
      by_cases h100 : 100 ≤ k
      · have h100' : (100 : Int) ≤ (k : Int) := by omega
        go_wp2_with fail
        go_ret
        exact ⟨rfl, H3.out.alloc H3.out.size _⟩
      have h100' : ¬ (100 : Int) ≤ (k : Int) := by omega
      obtain ⟨m, hm⟩ : ∃ m, d.tmod 4 = m := ⟨_, rfl⟩
      have m0 : 0 ≤ m := by rw [← hm]; exact Int.tmod_nonneg _ hdd.1
      have m4 : m < 4 := by rw [← hm]; exact Int.tmod_lt_of_pos _ (by omega)
      go_upto_region 7 with fail
      refine wp_worldx (fun wx => BoxAt wx b s o r ∧ DBox wx x s o r ∧ Blk wx wr.heap.size 49 #[.int .u8 d, .int .u8 ok, .int .i64 ot, .int .i64 oc, .int .i64 on, .int .u8 ra, .int .u64 rk, .int .i64 rt, .int .i64 rc, .int .i64 rs] ∧ Below w.heap.size w wx) ⟨Blk.alloc_ H1.out _, Blk.alloc_ HD.out _, Blk.made _ _ _, H3.out.alloc H3.out.size _⟩ ?_
      obtain ⟨g, hg⟩ : ∃ g, wr.heap.size = g := ⟨_, rfl⟩
      have hwg : w.heap.size ≤ g := by have := H3.out.size; omega
      have hgb : ¬ g = b := by have := Blk.size H1.out; omega
      have hgx : ¬ g = x := by have := Blk.size HD.out; omega
      rw [hg]
      clear hg H1 HD H3 q0 q1 q2 q3 q4 q5 q6 q7 q8 q9
      rintro w4 ⟨h1, hd, hg, h3⟩
      have H1 := Lib.hid h1
      have HD := Lib.hid hd
      have HG := Lib.hid hg
      have H3 := Lib.hid h3
      have y0 : w4.cell? ⟨g, 0, none⟩ = some (.int .u8 d) := hg.val (i := 0) rfl
      have y1 : w4.cell? ⟨g, 1, none⟩ = some (.int .u8 ok) := hg.val (i := 1) rfl
      have y2 : w4.cell? ⟨g, 2, none⟩ = some (.int .i64 ot) := hg.val (i := 2) rfl
      have y3 : w4.cell? ⟨g, 3, none⟩ = some (.int .i64 oc) := hg.val (i := 3) rfl
      have y4 : w4.cell? ⟨g, 4, none⟩ = some (.int .i64 on) := hg.val (i := 4) rfl
      have y5 : w4.cell? ⟨g, 5, none⟩ = some (.int .u8 ra) := hg.val (i := 5) rfl
      have y6 : w4.cell? ⟨g, 6, none⟩ = some (.int .u64 rk) := hg.val (i := 6) rfl
      have y7 : w4.cell? ⟨g, 7, none⟩ = some (.int .i64 rt) := hg.val (i := 7) rfl
      have y8 : w4.cell? ⟨g, 8, none⟩ = some (.int .i64 rc) := hg.val (i := 8) rfl
      have y9 : w4.cell? ⟨g, 9, none⟩ = some (.int .i64 rs) := hg.val (i := 9) rfl
      clear h1 hd hg h3 hdd
      have m03 : m = 0 ∨ m = 1 ∨ m = 2 ∨ m = 3 := by omega
      clear m0 m4
      rcases m03 with rfl | rfl | rfl | rfl
      · go_upto_region 14 with fail
        clear y0 y5 y6 y7 y8 y9
        have SZ : 0 ≤ (if s = 0 then 1 else s) ∧ (if s = 0 then 1 else s) ≤ 2 := by split <;> omega
        go_region_held3 (fun w' => w'.cell? ⟨g, 1, none⟩ = some (.int .u8 ok) ∧ w'.cell? ⟨g, 2, none⟩ = some (.int .i64 ot) ∧ w'.cell? ⟨g, 3, none⟩ = some (.int .i64 oc) ∧ w'.cell? ⟨g, 4, none⟩ = some (.int .i64 on)) (repeat (first | with_reducible assumption | refine ⟨?_, ?_⟩ | with_reducible refine kdrew ?_)) (first | (go_at_call 15; refine (bx_post b s o r ⟨ok, ot, oc, on⟩ _ (by exact H1.out)).mono ?_; rintro e wn ⟨rfl, h1, kk⟩; replace H1 := Lib.hid h1; replace HD := Lib.hid (Blk.kept (by exact HD.out) kk hxb); replace HG := Lib.hid (Blk.kept (by exact HG.out) kk hgb); replace H3 := Lib.hid (Below.trans (by first | with_reducible exact H3.out | with_reducible exact H3.out.drew | exact ⟨H3.out.os, H3.out.tape, H3.out.output, H3.out.size, H3.out.block⟩) (kk.below (B := w.heap.size) (fun j hj => (by omega)) (by exact H3.out.size))); clear kk h1 y1 y2 y3 y4; have y1 : wn.cell? ⟨g, 1, none⟩ = some (.int .u8 ok) := HG.out.val (i := 1) rfl; have y2 : wn.cell? ⟨g, 2, none⟩ = some (.int .i64 ot) := HG.out.val (i := 2) rfl; have y3 : wn.cell? ⟨g, 3, none⟩ = some (.int .i64 oc) := HG.out.val (i := 3) rfl; have y4 : wn.cell? ⟨g, 4, none⟩ = some (.int .i64 on) := HG.out.val (i := 4) rfl) | (go_at_call 16; refine (dx_post x s o r ⟨ok, ot, oc, on⟩ _ (by exact HD.out)).mono ?_; rintro e wn ⟨rfl, h1, kk⟩; replace HD := Lib.hid h1; replace H1 := Lib.hid (Blk.kept (by exact H1.out) kk hbx); replace HG := Lib.hid (Blk.kept (by exact HG.out) kk hgx); replace H3 := Lib.hid (Below.trans (by first | with_reducible exact H3.out | with_reducible exact H3.out.drew | exact ⟨H3.out.os, H3.out.tape, H3.out.output, H3.out.size, H3.out.block⟩) (kk.below (B := w.heap.size) (fun j hj => (by omega)) (by exact H3.out.size))); clear kk h1 y1 y2 y3 y4; have y1 : wn.cell? ⟨g, 1, none⟩ = some (.int .u8 ok) := HG.out.val (i := 1) rfl; have y2 : wn.cell? ⟨g, 2, none⟩ = some (.int .i64 ot) := HG.out.val (i := 2) rfl; have y3 : wn.cell? ⟨g, 3, none⟩ = some (.int .i64 oc) := HG.out.val (i := 3) rfl; have y4 : wn.cell? ⟨g, 4, none⟩ = some (.int .i64 on) := HG.out.val (i := 4) rfl))
        all_goals (
          have x0 := Blk.val HD.out (i := 0) rfl
          go_wp2_with fail
          go_quiet ((go_at_call 22; exact quiet_s (bx_state b _ _ _ _ H1.out SZ.1 SZ.2)))
          go_wp2
          exact ⟨⟨k + 1, by omega, by simp, _, _, _, SZ, H1.out, HD.out, ⟨H3.out.os, H3.out.tape, H3.out.output, H3.out.size, H3.out.block⟩⟩, by simp [intOf]; omega⟩
          )
      · obtain ⟨pk, pt, pc, pn⟩ := o
        obtain ⟨ea, ek, et, ec, es⟩ := r
        by_cases hs : s = 1
        · subst hs
          go_wp2_with fail
          refine (bx_op b 1 ⟨pk, pt, pc, pn⟩ ⟨ea, ek, et, ec, es⟩ _ H1.out).mono ?_
          rintro e w5 ⟨hv, hb⟩
          replace hv : e = .returned (.tuple #[.agg #[.int .u8 pk, .int .i64 pt, .int .i64 pc, .int .i64 pn], .bool true]) := hv
          subst hv
          go_upto_region 18 with fail
          refine wp_worldx (fun wx => BoxAt wx b 1 ⟨pk, pt, pc, pn⟩ ⟨ea, ek, et, ec, es⟩ ∧ DBox wx x 1 ⟨pk, pt, pc, pn⟩ ⟨ea, ek, et, ec, es⟩ ∧ Blk wx w5.heap.size 46 #[.int .u8 pk, .int .i64 pt, .int .i64 pc, .int .i64 pn] ∧ Below w.heap.size w wx) ⟨Blk.alloc_ (Blk.below_ H1.out hb (Blk.size H1.out)) _, Blk.alloc_ (Blk.below_ HD.out hb (Blk.size HD.out)) _, Blk.made _ _ _, (H3.out.trans (hb.mono H3.out.size)).alloc (by have := hb.size; have := H3.out.size; omega) _⟩ ?_
          obtain ⟨g2, hg2⟩ : ∃ g, w5.heap.size = g := ⟨_, rfl⟩
          rw [hg2]
          clear hg2 hb H1 HD H3 HG y0 y1 y2 y3 y4 y5 y6 y7 y8 y9
          rintro w6 ⟨h1, hd, hg, h3⟩
          have H1 := Lib.hid h1
          have HD := Lib.hid hd
          have H3 := Lib.hid h3
          have v0 : w6.cell? ⟨g2, 0, none⟩ = some (.int .u8 pk) := hg.val (i := 0) rfl
          have v1 : w6.cell? ⟨g2, 1, none⟩ = some (.int .i64 pt) := hg.val (i := 1) rfl
          have v2 : w6.cell? ⟨g2, 2, none⟩ = some (.int .i64 pc) := hg.val (i := 2) rfl
          have v3 : w6.cell? ⟨g2, 3, none⟩ = some (.int .i64 pn) := hg.val (i := 3) rfl
          have u0 : w6.cell? ⟨x, 1, none⟩ = some (.int .u8 pk) := Blk.val hd (i := 1) rfl
          have u1 : w6.cell? ⟨x, 2, none⟩ = some (.int .i64 pt) := Blk.val hd (i := 2) rfl
          have u2 : w6.cell? ⟨x, 3, none⟩ = some (.int .i64 pc) := Blk.val hd (i := 3) rfl
          have u3 : w6.cell? ⟨x, 4, none⟩ = some (.int .i64 pn) := Blk.val hd (i := 4) rfl
          have x0 : w6.cell? ⟨x, 0, none⟩ = some (.int .i64 1) := Blk.val hd (i := 0) rfl
          clear h1 hd hg h3
          go_quiet (fail)
          go_upto_region 23 with fail
          refine wp_worldx (fun wx => BoxAt wx b 1 ⟨pk, pt, pc, pn⟩ ⟨ea, ek, et, ec, es⟩ ∧ DBox wx x 1 ⟨pk, pt, pc, pn⟩ ⟨ea, ek, et, ec, es⟩ ∧ Below w.heap.size w wx) ⟨H1.out, HD.out, ⟨H3.out.os, H3.out.tape, H3.out.output, H3.out.size, H3.out.block⟩⟩ ?_
          clear H1 HD H3 x0 v0 v1 v2 v3 u0 u1 u2 u3
          rintro w9 ⟨h1, hd, h3⟩
          have H1 := Lib.hid h1
          have HD := Lib.hid hd
          have H3 := Lib.hid h3
          clear h1 hd h3
          have SZ : 0 ≤ (1 : Int) ∧ (1 : Int) ≤ 2 := by omega
          have x0 := Blk.val HD.out (i := 0) rfl
          go_wp2_with fail
          go_quiet ((go_at_call 22; exact quiet_s (bx_state b _ _ _ _ H1.out SZ.1 SZ.2)))
          go_wp2
          exact ⟨⟨k + 1, by omega, by simp, _, _, _, SZ, H1.out, HD.out, ⟨H3.out.os, H3.out.tape, H3.out.output, H3.out.size, H3.out.block⟩⟩, by simp [intOf]; omega⟩
        · have hf : (s == 1) = false := beq_eq_false_iff_ne.2 hs
          have hs' : ¬ (s = 1) := hs
          go_wp2_with fail
          refine (bx_op b s ⟨pk, pt, pc, pn⟩ ⟨ea, ek, et, ec, es⟩ _ H1.out).mono ?_
          rintro e w5 ⟨hv, hb⟩
          rw [if_neg hs, hf] at hv
          replace hv : e = .returned (.tuple #[.agg #[.int .u8 0, .int .i64 0, .int .i64 0, .int .i64 0], .bool false]) := hv
          subst hv
          go_upto_region 18 with fail
          refine wp_worldx (fun wx => BoxAt wx b s ⟨pk, pt, pc, pn⟩ ⟨ea, ek, et, ec, es⟩ ∧ DBox wx x s ⟨pk, pt, pc, pn⟩ ⟨ea, ek, et, ec, es⟩ ∧ Blk wx w5.heap.size 46 #[.int .u8 0, .int .i64 0, .int .i64 0, .int .i64 0] ∧ Below w.heap.size w wx) ⟨Blk.alloc_ (Blk.below_ H1.out hb (Blk.size H1.out)) _, Blk.alloc_ (Blk.below_ HD.out hb (Blk.size HD.out)) _, Blk.made _ _ _, (H3.out.trans (hb.mono H3.out.size)).alloc (by have := hb.size; have := H3.out.size; omega) _⟩ ?_
          obtain ⟨g2, hg2⟩ : ∃ g, w5.heap.size = g := ⟨_, rfl⟩
          rw [hg2]
          clear hg2 hb H1 HD H3 HG y0 y1 y2 y3 y4 y5 y6 y7 y8 y9
          rintro w6 ⟨h1, hd, hg, h3⟩
          have H1 := Lib.hid h1
          have HD := Lib.hid hd
          have H3 := Lib.hid h3
          have v0 : w6.cell? ⟨g2, 0, none⟩ = some (.int .u8 0) := hg.val (i := 0) rfl
          have v1 : w6.cell? ⟨g2, 1, none⟩ = some (.int .i64 0) := hg.val (i := 1) rfl
          have v2 : w6.cell? ⟨g2, 2, none⟩ = some (.int .i64 0) := hg.val (i := 2) rfl
          have v3 : w6.cell? ⟨g2, 3, none⟩ = some (.int .i64 0) := hg.val (i := 3) rfl
          have u0 : w6.cell? ⟨x, 1, none⟩ = some (.int .u8 pk) := Blk.val hd (i := 1) rfl
          have u1 : w6.cell? ⟨x, 2, none⟩ = some (.int .i64 pt) := Blk.val hd (i := 2) rfl
          have u2 : w6.cell? ⟨x, 3, none⟩ = some (.int .i64 pc) := Blk.val hd (i := 3) rfl
          have u3 : w6.cell? ⟨x, 4, none⟩ = some (.int .i64 pn) := Blk.val hd (i := 4) rfl
          have x0 : w6.cell? ⟨x, 0, none⟩ = some (.int .i64 s) := Blk.val hd (i := 0) rfl
          clear h1 hd hg h3
          go_quiet (fail)
          go_upto_region 23 with fail
          refine wp_worldx (fun wx => BoxAt wx b s ⟨pk, pt, pc, pn⟩ ⟨ea, ek, et, ec, es⟩ ∧ DBox wx x s ⟨pk, pt, pc, pn⟩ ⟨ea, ek, et, ec, es⟩ ∧ Below w.heap.size w wx) ⟨H1.out, HD.out, ⟨H3.out.os, H3.out.tape, H3.out.output, H3.out.size, H3.out.block⟩⟩ ?_
          clear H1 HD H3 x0 v0 v1 v2 v3 u0 u1 u2 u3
          rintro w9 ⟨h1, hd, h3⟩
          have H1 := Lib.hid h1
          have HD := Lib.hid hd
          have H3 := Lib.hid h3
          clear h1 hd h3
          have SZ : 0 ≤ (s : Int) ∧ (s : Int) ≤ 2 := by omega
          have x0 := Blk.val HD.out (i := 0) rfl
          go_wp2_with fail
          go_quiet ((go_at_call 22; exact quiet_s (bx_state b _ _ _ _ H1.out SZ.1 SZ.2)))
          go_wp2
          exact ⟨⟨k + 1, by omega, by simp, _, _, _, SZ, H1.out, HD.out, ⟨H3.out.os, H3.out.tape, H3.out.output, H3.out.size, H3.out.block⟩⟩, by simp [intOf]; omega⟩
      · go_upto_region 21 with fail
        clear y0 y1 y2 y3 y4
        have SZ : 0 ≤ (if s = 1 then 2 else s) ∧ (if s = 1 then 2 else s) ≤ 2 := by split <;> omega
        go_region_held3 (fun w' => w'.cell? ⟨g, 5, none⟩ = some (.int .u8 ra) ∧ w'.cell? ⟨g, 6, none⟩ = some (.int .u64 rk) ∧ w'.cell? ⟨g, 7, none⟩ = some (.int .i64 rt) ∧ w'.cell? ⟨g, 8, none⟩ = some (.int .i64 rc) ∧ w'.cell? ⟨g, 9, none⟩ = some (.int .i64 rs)) (repeat (first | with_reducible assumption | refine ⟨?_, ?_⟩ | with_reducible refine kdrew ?_)) (first | (go_at_call 18; refine (bx_fin b s o r ⟨ra, rk, rt, rc, rs⟩ _ (by exact H1.out)).mono ?_; rintro e wn ⟨rfl, h1, kk⟩; replace H1 := Lib.hid h1; replace HD := Lib.hid (Blk.kept (by exact HD.out) kk hxb); replace HG := Lib.hid (Blk.kept (by exact HG.out) kk hgb); replace H3 := Lib.hid (Below.trans (by first | with_reducible exact H3.out | with_reducible exact H3.out.drew | exact ⟨H3.out.os, H3.out.tape, H3.out.output, H3.out.size, H3.out.block⟩) (kk.below (B := w.heap.size) (fun j hj => (by omega)) (by exact H3.out.size))); clear kk h1 y5 y6 y7 y8 y9; have y5 : wn.cell? ⟨g, 5, none⟩ = some (.int .u8 ra) := HG.out.val (i := 5) rfl; have y6 : wn.cell? ⟨g, 6, none⟩ = some (.int .u64 rk) := HG.out.val (i := 6) rfl; have y7 : wn.cell? ⟨g, 7, none⟩ = some (.int .i64 rt) := HG.out.val (i := 7) rfl; have y8 : wn.cell? ⟨g, 8, none⟩ = some (.int .i64 rc) := HG.out.val (i := 8) rfl; have y9 : wn.cell? ⟨g, 9, none⟩ = some (.int .i64 rs) := HG.out.val (i := 9) rfl) | (go_at_call 19; refine (dx_fin x s o r ⟨ra, rk, rt, rc, rs⟩ _ (by exact HD.out)).mono ?_; rintro e wn ⟨rfl, h1, kk⟩; replace HD := Lib.hid h1; replace H1 := Lib.hid (Blk.kept (by exact H1.out) kk hbx); replace HG := Lib.hid (Blk.kept (by exact HG.out) kk hgx); replace H3 := Lib.hid (Below.trans (by first | with_reducible exact H3.out | with_reducible exact H3.out.drew | exact ⟨H3.out.os, H3.out.tape, H3.out.output, H3.out.size, H3.out.block⟩) (kk.below (B := w.heap.size) (fun j hj => (by omega)) (by exact H3.out.size))); clear kk h1 y5 y6 y7 y8 y9; have y5 : wn.cell? ⟨g, 5, none⟩ = some (.int .u8 ra) := HG.out.val (i := 5) rfl; have y6 : wn.cell? ⟨g, 6, none⟩ = some (.int .u64 rk) := HG.out.val (i := 6) rfl; have y7 : wn.cell? ⟨g, 7, none⟩ = some (.int .i64 rt) := HG.out.val (i := 7) rfl; have y8 : wn.cell? ⟨g, 8, none⟩ = some (.int .i64 rc) := HG.out.val (i := 8) rfl; have y9 : wn.cell? ⟨g, 9, none⟩ = some (.int .i64 rs) := HG.out.val (i := 9) rfl))
        all_goals (
          have x0 := Blk.val HD.out (i := 0) rfl
          go_wp2_with fail
          go_quiet ((go_at_call 22; exact quiet_s (bx_state b _ _ _ _ H1.out SZ.1 SZ.2)))
          go_wp2
          exact ⟨⟨k + 1, by omega, by simp, _, _, _, SZ, H1.out, HD.out, ⟨H3.out.os, H3.out.tape, H3.out.output, H3.out.size, H3.out.block⟩⟩, by simp [intOf]; omega⟩
          )
      · obtain ⟨pk, pt, pc, pn⟩ := o
        obtain ⟨ea, ek, et, ec, es⟩ := r
        by_cases hs : s = 2
        · subst hs
          go_wp2_with fail
          refine (bx_col b 2 ⟨pk, pt, pc, pn⟩ ⟨ea, ek, et, ec, es⟩ _ H1.out).mono ?_
          rintro e w5 ⟨hv, h1, kk⟩
          replace hv : e = .returned (.tuple #[.agg #[.int .u8 ea, .int .u64 ek, .int .i64 et, .int .i64 ec, .int .i64 es], .bool true]) := hv
          subst hv
          replace h1 : BoxAt w5 b 0 ⟨pk, pt, pc, pn⟩ ⟨ea, ek, et, ec, es⟩ := h1
          have hbb := H3.out.trans (kk.below (B := w.heap.size) (fun j hj => by omega) H3.out.size)
          have hdd := Blk.kept HD.out kk hxb
          go_upto_region 10 with fail
          refine wp_worldx (fun wx => BoxAt wx b 0 ⟨pk, pt, pc, pn⟩ ⟨ea, ek, et, ec, es⟩ ∧ DBox wx x 2 ⟨pk, pt, pc, pn⟩ ⟨ea, ek, et, ec, es⟩ ∧ Blk wx w5.heap.size 47 #[.int .u8 ea, .int .u64 ek, .int .i64 et, .int .i64 ec, .int .i64 es] ∧ Below w.heap.size w wx) ⟨Blk.alloc_ h1 _, Blk.alloc_ hdd _, Blk.made _ _ _, hbb.alloc hbb.size _⟩ ?_
          obtain ⟨g2, hg2⟩ : ∃ g, w5.heap.size = g := ⟨_, rfl⟩
          have hgx2 : ¬ g2 = x := by have := Blk.size hdd; omega
          rw [hg2]
          clear hg2 kk hbb hdd h1 H1 HD H3 HG y0 y1 y2 y3 y4 y5 y6 y7 y8 y9
          rintro w6 ⟨h1, hd, hg, h3⟩
          have H1 := Lib.hid h1
          have HD := Lib.hid hd
          have HG := Lib.hid hg
          have H3 := Lib.hid h3
          clear h1 hd hg h3
          go_wp2_with fail
          refine (dx_col x 2 ⟨pk, pt, pc, pn⟩ ⟨ea, ek, et, ec, es⟩ _ HD.out).mono ?_
          rintro e w7 ⟨hv, h1, kk⟩
          replace hv : e = .returned (.tuple #[.agg #[.int .u8 ea, .int .u64 ek, .int .i64 et, .int .i64 ec, .int .i64 es], .bool true]) := hv
          subst hv
          replace h1 : DBox w7 x 0 ⟨pk, pt, pc, pn⟩ ⟨ea, ek, et, ec, es⟩ := h1
          have hbb := H3.out.trans (kk.below (B := w.heap.size) (fun j hj => by omega) H3.out.size)
          have hdd := Blk.kept H1.out kk hbx
          have hgg := Blk.kept HG.out kk hgx2
          go_upto_region 11 with fail
          refine wp_worldx (fun wx => BoxAt wx b 0 ⟨pk, pt, pc, pn⟩ ⟨ea, ek, et, ec, es⟩ ∧ DBox wx x 0 ⟨pk, pt, pc, pn⟩ ⟨ea, ek, et, ec, es⟩ ∧ Blk wx g2 47 #[.int .u8 ea, .int .u64 ek, .int .i64 et, .int .i64 ec, .int .i64 es] ∧ Blk wx w7.heap.size 43 #[.int .u8 ea, .int .u64 ek, .int .i64 et, .int .i64 ec, .int .i64 es] ∧ Below w.heap.size w wx) ⟨Blk.alloc_ hdd _, Blk.alloc_ h1 _, Blk.alloc_ hgg _, Blk.made _ _ _, hbb.alloc hbb.size _⟩ ?_
          obtain ⟨g3, hg3⟩ : ∃ g, w7.heap.size = g := ⟨_, rfl⟩
          rw [hg3]
          clear hg3 kk hbb hdd hgg h1 H1 HD H3 HG
          rintro w8 ⟨h1, hd, hg, hh, h3⟩
          have H1 := Lib.hid h1
          have HD := Lib.hid hd
          have H3 := Lib.hid h3
          have v0 : w8.cell? ⟨g2, 0, none⟩ = some (.int .u8 ea) := hg.val (i := 0) rfl
          have v1 : w8.cell? ⟨g2, 1, none⟩ = some (.int .u64 ek) := hg.val (i := 1) rfl
          have v2 : w8.cell? ⟨g2, 2, none⟩ = some (.int .i64 et) := hg.val (i := 2) rfl
          have v3 : w8.cell? ⟨g2, 3, none⟩ = some (.int .i64 ec) := hg.val (i := 3) rfl
          have v4 : w8.cell? ⟨g2, 4, none⟩ = some (.int .i64 es) := hg.val (i := 4) rfl
          have u0 : w8.cell? ⟨g3, 0, none⟩ = some (.int .u8 ea) := hh.val (i := 0) rfl
          have u1 : w8.cell? ⟨g3, 1, none⟩ = some (.int .u64 ek) := hh.val (i := 1) rfl
          have u2 : w8.cell? ⟨g3, 2, none⟩ = some (.int .i64 et) := hh.val (i := 2) rfl
          have u3 : w8.cell? ⟨g3, 3, none⟩ = some (.int .i64 ec) := hh.val (i := 3) rfl
          have u4 : w8.cell? ⟨g3, 4, none⟩ = some (.int .i64 es) := hh.val (i := 4) rfl
          clear h1 hd hg hh h3
          have SZ : 0 ≤ (0 : Int) ∧ (0 : Int) ≤ 2 := by omega
          have x0 := Blk.val HD.out (i := 0) rfl
          go_wp2_with fail
          go_quiet ((go_at_call 22; exact quiet_s (bx_state b _ _ _ _ H1.out SZ.1 SZ.2)))
          go_wp2
          exact ⟨⟨k + 1, by omega, by simp, _, _, _, SZ, H1.out, HD.out, ⟨H3.out.os, H3.out.tape, H3.out.output, H3.out.size, H3.out.block⟩⟩, by simp [intOf]; omega⟩
        · have hf : (s == 2) = false := beq_eq_false_iff_ne.2 hs
          have hs' : ¬ (s = 2) := hs
          go_wp2_with fail
          refine (bx_col b s ⟨pk, pt, pc, pn⟩ ⟨ea, ek, et, ec, es⟩ _ H1.out).mono ?_
          rintro e w5 ⟨hv, h1, kk⟩
          rw [if_neg hs, hf] at hv
          rw [if_neg hs] at h1
          replace hv : e = .returned (.tuple #[.agg #[.int .u8 0, .int .u64 0, .int .i64 0, .int .i64 0, .int .i64 0], .bool false]) := hv
          subst hv
          replace h1 : BoxAt w5 b s ⟨pk, pt, pc, pn⟩ ⟨ea, ek, et, ec, es⟩ := h1
          have hbb := H3.out.trans (kk.below (B := w.heap.size) (fun j hj => by omega) H3.out.size)
          have hdd := Blk.kept HD.out kk hxb
          go_upto_region 10 with fail
          refine wp_worldx (fun wx => BoxAt wx b s ⟨pk, pt, pc, pn⟩ ⟨ea, ek, et, ec, es⟩ ∧ DBox wx x s ⟨pk, pt, pc, pn⟩ ⟨ea, ek, et, ec, es⟩ ∧ Blk wx w5.heap.size 47 #[.int .u8 0, .int .u64 0, .int .i64 0, .int .i64 0, .int .i64 0] ∧ Below w.heap.size w wx) ⟨Blk.alloc_ h1 _, Blk.alloc_ hdd _, Blk.made _ _ _, hbb.alloc hbb.size _⟩ ?_
          obtain ⟨g2, hg2⟩ : ∃ g, w5.heap.size = g := ⟨_, rfl⟩
          have hgx2 : ¬ g2 = x := by have := Blk.size hdd; omega
          rw [hg2]
          clear hg2 kk hbb hdd h1 H1 HD H3 HG y0 y1 y2 y3 y4 y5 y6 y7 y8 y9
          rintro w6 ⟨h1, hd, hg, h3⟩
          have H1 := Lib.hid h1
          have HD := Lib.hid hd
          have HG := Lib.hid hg
          have H3 := Lib.hid h3
          clear h1 hd hg h3
          go_wp2_with fail
          refine (dx_col x s ⟨pk, pt, pc, pn⟩ ⟨ea, ek, et, ec, es⟩ _ HD.out).mono ?_
          rintro e w7 ⟨hv, h1, kk⟩
          rw [if_neg hs, hf] at hv
          rw [if_neg hs] at h1
          replace hv : e = .returned (.tuple #[.agg #[.int .u8 0, .int .u64 0, .int .i64 0, .int .i64 0, .int .i64 0], .bool false]) := hv
          subst hv
          replace h1 : DBox w7 x s ⟨pk, pt, pc, pn⟩ ⟨ea, ek, et, ec, es⟩ := h1
          have hbb := H3.out.trans (kk.below (B := w.heap.size) (fun j hj => by omega) H3.out.size)
          have hdd := Blk.kept H1.out kk hbx
          have hgg := Blk.kept HG.out kk hgx2
          go_upto_region 11 with fail
          refine wp_worldx (fun wx => BoxAt wx b s ⟨pk, pt, pc, pn⟩ ⟨ea, ek, et, ec, es⟩ ∧ DBox wx x s ⟨pk, pt, pc, pn⟩ ⟨ea, ek, et, ec, es⟩ ∧ Blk wx g2 47 #[.int .u8 0, .int .u64 0, .int .i64 0, .int .i64 0, .int .i64 0] ∧ Blk wx w7.heap.size 43 #[.int .u8 0, .int .u64 0, .int .i64 0, .int .i64 0, .int .i64 0] ∧ Below w.heap.size w wx) ⟨Blk.alloc_ hdd _, Blk.alloc_ h1 _, Blk.alloc_ hgg _, Blk.made _ _ _, hbb.alloc hbb.size _⟩ ?_
          obtain ⟨g3, hg3⟩ : ∃ g, w7.heap.size = g := ⟨_, rfl⟩
          rw [hg3]
          clear hg3 kk hbb hdd hgg h1 H1 HD H3 HG
          rintro w8 ⟨h1, hd, hg, hh, h3⟩
          have H1 := Lib.hid h1
          have HD := Lib.hid hd
          have H3 := Lib.hid h3
          have v0 : w8.cell? ⟨g2, 0, none⟩ = some (.int .u8 0) := hg.val (i := 0) rfl
          have v1 : w8.cell? ⟨g2, 1, none⟩ = some (.int .u64 0) := hg.val (i := 1) rfl
          have v2 : w8.cell? ⟨g2, 2, none⟩ = some (.int .i64 0) := hg.val (i := 2) rfl
          have v3 : w8.cell? ⟨g2, 3, none⟩ = some (.int .i64 0) := hg.val (i := 3) rfl
          have v4 : w8.cell? ⟨g2, 4, none⟩ = some (.int .i64 0) := hg.val (i := 4) rfl
          have u0 : w8.cell? ⟨g3, 0, none⟩ = some (.int .u8 0) := hh.val (i := 0) rfl
          have u1 : w8.cell? ⟨g3, 1, none⟩ = some (.int .u64 0) := hh.val (i := 1) rfl
          have u2 : w8.cell? ⟨g3, 2, none⟩ = some (.int .i64 0) := hh.val (i := 2) rfl
          have u3 : w8.cell? ⟨g3, 3, none⟩ = some (.int .i64 0) := hh.val (i := 3) rfl
          have u4 : w8.cell? ⟨g3, 4, none⟩ = some (.int .i64 0) := hh.val (i := 4) rfl
          clear h1 hd hg hh h3
          have SZ : 0 ≤ (s : Int) ∧ (s : Int) ≤ 2 := by omega
          have x0 := Blk.val HD.out (i := 0) rfl
          go_wp2_with fail
          go_quiet ((go_at_call 22; exact quiet_s (bx_state b _ _ _ _ H1.out SZ.1 SZ.2)))
          go_wp2
          exact ⟨⟨k + 1, by omega, by simp, _, _, _, SZ, H1.out, HD.out, ⟨H3.out.os, H3.out.tape, H3.out.output, H3.out.size, H3.out.block⟩⟩, by simp [intOf]; omega⟩
    · obtain rfl : k = len := by omega
      go_wp2_with fail
      go_ret
      exact ⟨rfl, H3.out⟩
set_option maxRecDepth 100000 in
theorem lifted (os : Os) (started : os.Started) (H : Type) (enc : TypeId × Value → H) :
    ReturnsInHanded {} Try.checked os 4 .any (Rows.lockBoxesSpec.pre6 enc Try.prog Try.f4 Rows.lockBoxesRow.domain false) (Rows.lockBoxesSpec.post enc Try.prog Try.f4 false true false false) := by
  refine returnsInHanded_of_change (C := Try.checked) own started (by kernel_rfl) Try.func4
    (ChangeSpec.witness6 (enc := enc) (C := Try.checked) false ⟨#[], #[.slice none 0 0], []⟩ 8 (by kernel_rfl) (by kernel_rfl) (by kernel_rfl) (by kernel_rfl)) ?_
  intro W base args ds gs before hval0 hW hcnd _
  have hval : ∀ (j : Nat) t v, Try.f4.params[j]? = some t → args[j]? = some v → Value.okWide Try.prog W .any base t v := hval0
  have hW' := hW
  obtain ⟨p, q, hA0, hV, rfl, hfz, hnd⟩ := hW
  have hA : DataW.TrodAll enc Try.prog W 0 (fun _ => true) true Try.f4.params.toList args.toList ds p := hA0
  rw [Try.params4] at hA hval
  obtain ⟨v0, vs0, d0, ds0, p0, q0, hargs, rfl, rfl, h0, r0⟩ := trodAll_cons hA
  obtain ⟨rfl, rfl, rfl⟩ := trodAll_nil r0
  obtain rfl : args = #[v0] := by cases args; simp_all
  obtain ⟨rfl, rfl⟩ := trodVars_none hV
  obtain ⟨A0, len0, cap0, rfl⟩ := okWide_slice Try.underlying35 (hval 0 _ v0 rfl rfl)
  obtain ⟨fu0, g0⟩ := h0
  obtain ⟨s0, t0, Q0, u0, o0⟩ := open_des g0
  clear hA0 hval0
  refine (walk A0 len0 cap0 Q0 W s0 t0 u0 o0).mono fun e W' ⟨he, hg⟩ => ?_
  subst he
  exact ⟨_, rfl, post_of_law hW' rfl laidOut reads rfl Try.underlying4 rfl rfl rfl hg⟩
theorem over : Rows.lockBoxesRow.holds Try.pinned (OpenSpec.ofChange Rows.lockBoxesSpec) :=
  OpenClaim.holds_of_wide 4 Try.f4 rfl rfl rfl rfl rfl rfl rfl ⟨rfl, rfl, rfl, rfl, rfl⟩ rfl rfl rfl rfl rfl (by kernel_rfl) Try.func4 (by kernel_rfl)
    (of_decide_eq_true (by kernel_rfl)) (by unfold Func.isWrapper; first | (rw [if_pos (by decide +kernel)]; kernel_rfl) | (rw [if_neg (by decide +kernel)]; exact ⟨rfl, rfl⟩))
    (fun os started H enc _ => lifted os started H enc)
theorem proved : Rows.LockBoxesSaid := over
end Go.Proofs.Ytocgflhecnkcfaa.lockBoxes
