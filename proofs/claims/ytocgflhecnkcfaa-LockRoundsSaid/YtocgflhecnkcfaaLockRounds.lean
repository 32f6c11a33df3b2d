/- LockRounds is true of every list of calls and every list of answers, and changes nothing that it was given. -/
import Derived.Test.YtocgflhecnkcfaaLkd
import Derived.Test.YtocgflhecnkcfaaLke
import Derived.Test.YtocgflhecnkcfaaRowb
import Derived.Test.YtocgflhecnkcfaaRows
import Derived.WalkKit
import Derived.ProofKit
import Derived.OpenShut
import Derived.Deep.DeepCutAuto
import Derived.Deep.RegionHeld3
import Derived.Deep.QuietTactic
import Derived.BigQuiet
namespace Go.Proofs.Ytocgflhecnkcfaa.lockRounds
open Go.ChangeShapes Go.WideShapes Go.ChangeAt Go.RowKit
set_option linter.unusedVariables false
theorem own : ownKnob Try.prog.godebug = none := by kernel_rfl
theorem laidOut : laidOutB Try.prog = true := by kernel_rfl
theorem reads : (Try.f5.params.toList.all fun t => Try.prog.readableRec t && decide (t < Try.prog.types.size)) = true := by kernel_rfl
set_option maxRecDepth 100000 in
set_option maxHeartbeats 16000000 in
theorem walk (A : Option Addr) (len cap : Nat) (Q : Nat → OpV) (A2 : Option Addr) (len2 cap2 : Nat) (R : Nat → ReV) (w : World) (hlc : len ≤ cap) (hcm : cap ≤ maxLen) (hQ : SeqAt w w.heap.size A len 4 (fun i => opRow (Q i))) (hok : True) (hlc2 : len2 ≤ cap2) (hcm2 : cap2 ≤ maxLen) (hR : SeqAt w w.heap.size A2 len2 5 (fun i => reRow (R i))) (hok2 : True) :
    Calls Try.prog 5 #[.slice A len cap, .slice A2 len2 cap2] w fun e w' => e = .returned (.bool true) ∧ Below w.heap.size w w' := by
  unfold maxLen at hcm hcm2
  have HQ := Lib.hid hQ
  have HR := Lib.hid hR
  clear hQ hok hR hok2
  go_enter Try.func5, Try.ntmps5
  go_wp2_with fail
  refine (awake19 _).mono ?_
  rintro e w1 ⟨rfl, hb⟩
  have B1 := Lib.hid hb
  clear hb
  go_wp2_with fail
  refine (bx_new _).mono ?_
  rintro e w2 ⟨rfl, h2, b2⟩
  obtain ⟨b, hl⟩ : ∃ l, w1.heap.size = l := ⟨_, rfl⟩
  have hwl : w.heap.size ≤ b := by have := B1.out.size; omega
  have B2 := Lib.hid (B1.out.trans (b2.mono B1.out.size))
  rw [hl] at h2 ⊢
  have H2 := Lib.hid h2
  clear h2 b2 hl B1
  go_wp2_with fail
  go_loopw [21] (fun s21 wr => ∃ k : Nat, k ≤ len ∧ s21 = .int .i64 (k : Int) ∧ ∃ o r, BoxAt wr b 0 o r ∧ Below w.heap.size w wr) (fun i _ => len - (intOf i).toNat)
  case atStart => exact ⟨0, Nat.zero_le _, rfl, _, _, H2.out, B2.out⟩
  case round =>
    clear H2 B2
    obtain ⟨k, hk, rfl, o, r, h1, h3⟩ := hrel
    have H1 := Lib.hid h1
    have H3 := Lib.hid h3
    clear h1 h3
    by_cases hlt : k < len
    · have k0 : (0 : Int) ≤ (k : Int) := by omega
      have k1 : (k : Int) < (len : Int) := by omega
      obtain ⟨kb, ko, rfl, hkb, hkc⟩ := HQ.out (by omega)
      obtain ⟨ok, ot, oc, on, hq⟩ : ∃ a b c d, Q k = ⟨a, b, c, d⟩ := ⟨_, _, _, _, rfl⟩
      have q0 : wr.cell? ⟨kb, ko + k * 4, none⟩ = some (.int .u8 ok) := (H3.out.cell (p := ⟨kb, ko + k * 4 + 0, none⟩) hkb).trans (by have := hkc k hlt 0 (by omega); simp only [hq] at this; exact this)
      have q1 : wr.cell? ⟨kb, ko + k * 4 + 1, none⟩ = some (.int .i64 ot) := (H3.out.cell (p := ⟨kb, ko + k * 4 + 1, none⟩) hkb).trans (by have := hkc k hlt 1 (by omega); simp only [hq] at this; exact this)
      have q2 : wr.cell? ⟨kb, ko + k * 4 + 2, none⟩ = some (.int .i64 oc) := (H3.out.cell (p := ⟨kb, ko + k * 4 + 2, none⟩) hkb).trans (by have := hkc k hlt 2 (by omega); simp only [hq] at this; exact this)
      have q3 : wr.cell? ⟨kb, ko + k * 4 + 3, none⟩ = some (.int .i64 on) := (H3.out.cell (p := ⟨kb, ko + k * 4 + 3, none⟩) hkb).trans (by have := hkc k hlt 3 (by omega); simp only [hq] at this; exact this)
      clear hkc
      by_cases h30 : 30 ≤ k
      · have h30' : (30 : Int) ≤ (k : Int) := by omega
        go_wp2_with fail
        refine (bx_state b 0 o r _ (Blk.alloc_ H1.out _) (by omega) (by omega)).mono ?_
        rintro e w4 ⟨rfl, rfl⟩
        go_wp2_with fail
        go_ret
        exact ⟨rfl, H3.out.alloc H3.out.size _⟩
      have h30' : ¬ (30 : Int) ≤ (k : Int) := by omega
      by_cases h2 : len2 ≤ k
      · have h2' : (len2 : Int) ≤ (k : Int) := by omega
        go_wp2_with fail
        refine (bx_state b 0 o r _ (Blk.alloc_ H1.out _) (by omega) (by omega)).mono ?_
        rintro e w4 ⟨rfl, rfl⟩
        go_wp2_with fail
        go_ret
        exact ⟨rfl, H3.out.alloc H3.out.size _⟩
      have h2' : ¬ (len2 : Int) ≤ (k : Int) := by omega
      have h3' : (k : Int) < (len2 : Int) := by omega
      obtain ⟨rb, ro, rfl, hrb, hrc⟩ := HR.out (by omega)
      obtain ⟨ra, rk, rt, rc, rs, hr⟩ : ∃ a b c d e, R k = ⟨a, b, c, d, e⟩ := ⟨_, _, _, _, _, rfl⟩
      have HRC : Hid (∀ j, j < 5 → w.cell? ⟨rb, ro + k * 5 + j, none⟩ = (reRow ⟨ra, rk, rt, rc, rs⟩)[j]?) := Lib.hid (fun j hj => by have := hrc k (by omega) j hj; simp only [hr] at this; exact this)
      clear hrc hr
      go_upto_region 7 with fail
      refine wp_worldx (fun wx => BoxAt wx b 0 o r ∧ Blk wx wr.heap.size 46 #[.int .u8 ok, .int .i64 ot, .int .i64 oc, .int .i64 on] ∧ Below w.heap.size w wx) ⟨Blk.alloc_ H1.out _, Blk.made _ _ _, H3.out.alloc H3.out.size _⟩ ?_
      obtain ⟨g, hg⟩ : ∃ g, wr.heap.size = g := ⟨_, rfl⟩
      have hwg : w.heap.size ≤ g := by have := H3.out.size; omega
      have hgb : ¬ g = b := by have := Blk.size H1.out; omega
      rw [hg]
      clear hg H1 H3 q0 q1 q2 q3
      rintro w3 ⟨h1, h2, h3⟩
      have H1 := Lib.hid h1
      have H2 := Lib.hid h2
      have H3 := Lib.hid h3
      have y0 : w3.cell? ⟨g, 0, none⟩ = some (.int .u8 ok) := h2.val (i := 0) rfl
      have y1 : w3.cell? ⟨g, 1, none⟩ = some (.int .i64 ot) := h2.val (i := 1) rfl
      have y2 : w3.cell? ⟨g, 2, none⟩ = some (.int .i64 oc) := h2.val (i := 2) rfl
      have y3 : w3.cell? ⟨g, 3, none⟩ = some (.int .i64 on) := h2.val (i := 3) rfl
      clear h1 h2 h3
      go_wp2_with fail
      refine (bx_post b 0 o r ⟨ok, ot, oc, on⟩ _ H1.out).mono ?_
      rintro e w4 ⟨hv, h1, kk⟩
      replace hv : e = .returned (.bool true) := hv
      subst hv
      have H2' := Lib.hid (Blk.kept H2.out kk hgb)
      have H3' := Lib.hid (H3.out.trans (kk.below (B := w.heap.size) (fun j hj => by omega) H3.out.size))
      have H1' : Hid (BoxAt w4 b 1 ⟨ok, ot, oc, on⟩ r) := Lib.hid h1
      clear kk h1 H1 H2 H3 y0 y1 y2 y3
      replace H1 := H1'
      replace H2 := H2'
      replace H3 := H3'
      clear H1' H2' H3'
      have y0 : w4.cell? ⟨g, 0, none⟩ = some (.int .u8 ok) := H2.out.val (i := 0) rfl
      have y1 : w4.cell? ⟨g, 1, none⟩ = some (.int .i64 ot) := H2.out.val (i := 1) rfl
      have y2 : w4.cell? ⟨g, 2, none⟩ = some (.int .i64 oc) := H2.out.val (i := 2) rfl
      have y3 : w4.cell? ⟨g, 3, none⟩ = some (.int .i64 on) := H2.out.val (i := 3) rfl
      go_wp2_with fail
      refine (bx_post b 1 ⟨ok, ot, oc, on⟩ r ⟨ok, ot, oc, on⟩ _ H1.out).mono ?_
      rintro e w5 ⟨hv, h1, kk⟩
      replace hv : e = .returned (.bool false) := hv
      subst hv
      have H2' := Lib.hid (Blk.kept H2.out kk hgb)
      have H3' := Lib.hid (H3.out.trans (kk.below (B := w.heap.size) (fun j hj => by omega) H3.out.size))
      have H1' : Hid (BoxAt w5 b 1 ⟨ok, ot, oc, on⟩ r) := Lib.hid h1
      clear kk h1 H1 H2 H3 y0 y1 y2 y3
      replace H1 := H1'
      replace H2 := H2'
      replace H3 := H3'
      clear H1' H2' H3'
      have y0 : w5.cell? ⟨g, 0, none⟩ = some (.int .u8 ok) := H2.out.val (i := 0) rfl
      have y1 : w5.cell? ⟨g, 1, none⟩ = some (.int .i64 ot) := H2.out.val (i := 1) rfl
      have y2 : w5.cell? ⟨g, 2, none⟩ = some (.int .i64 oc) := H2.out.val (i := 2) rfl
      have y3 : w5.cell? ⟨g, 3, none⟩ = some (.int .i64 on) := H2.out.val (i := 3) rfl
      go_wp2_with fail
      refine (bx_op b 1 ⟨ok, ot, oc, on⟩ r _ H1.out).mono ?_
      rintro e w6 ⟨hv, hb⟩
      replace hv : e = .returned (.tuple #[.agg #[.int .u8 ok, .int .i64 ot, .int .i64 oc, .int .i64 on], .bool true]) := hv
      subst hv
      go_upto_region 11 with fail
      refine wp_worldx (fun wx => BoxAt wx b 1 ⟨ok, ot, oc, on⟩ r ∧ Blk wx g 46 #[.int .u8 ok, .int .i64 ot, .int .i64 oc, .int .i64 on] ∧ Blk wx w6.heap.size 46 #[.int .u8 ok, .int .i64 ot, .int .i64 oc, .int .i64 on] ∧ Below w.heap.size w wx) ⟨Blk.alloc_ (Blk.below_ H1.out hb (Blk.size H1.out)) _, Blk.alloc_ (Blk.below_ H2.out hb (Blk.size H2.out)) _, Blk.made _ _ _, (H3.out.trans (hb.mono H3.out.size)).alloc (by have := hb.size; have := H3.out.size; omega) _⟩ ?_
      obtain ⟨g2, hg⟩ : ∃ g, w6.heap.size = g := ⟨_, rfl⟩
      have hgb2 : ¬ g2 = b := by have := Blk.size H1.out; have := hb.size; omega
      rw [hg]
      clear hg hb H1 H2 H3 y0 y1 y2 y3
      rintro w7 ⟨h1, h2, h4, h3⟩
      have H1 := Lib.hid h1
      have H2 := Lib.hid h2
      have H4 := Lib.hid h4
      have H3 := Lib.hid h3
      clear h1 h2 h4 h3
      go_wp2_with fail
      refine (bx_col b 1 ⟨ok, ot, oc, on⟩ r _ H1.out).mono ?_
      rintro e w8 ⟨hv, h1, kk⟩
      replace hv : e = .returned (.tuple #[.agg #[.int .u8 0, .int .u64 0, .int .i64 0, .int .i64 0, .int .i64 0], .bool false]) := hv
      subst hv
      replace h1 : BoxAt w8 b 1 ⟨ok, ot, oc, on⟩ r := h1
      have hbb := H3.out.trans (kk.below (B := w.heap.size) (fun j hj => by omega) H3.out.size)
      go_upto_region 12 with fail
      refine wp_worldx (fun wx => BoxAt wx b 1 ⟨ok, ot, oc, on⟩ r ∧ Blk wx g 46 #[.int .u8 ok, .int .i64 ot, .int .i64 oc, .int .i64 on] ∧ Blk wx g2 46 #[.int .u8 ok, .int .i64 ot, .int .i64 oc, .int .i64 on] ∧ Blk wx w8.heap.size 47 #[.int .u8 0, .int .u64 0, .int .i64 0, .int .i64 0, .int .i64 0] ∧ Below w.heap.size w wx) ⟨Blk.alloc_ h1 _, Blk.alloc_ (Blk.kept H2.out kk hgb) _, Blk.alloc_ (Blk.kept H4.out kk hgb2) _, Blk.made _ _ _, hbb.alloc hbb.size _⟩ ?_
      obtain ⟨g3, hg⟩ : ∃ g, w8.heap.size = g := ⟨_, rfl⟩
      have hgb3 : ¬ g3 = b := by have := Blk.size h1; omega
      rw [hg]
      clear hg kk hbb h1 H1 H3 H2 H4
      rintro w9 ⟨h1, h2, h4, h5, h3⟩
      have H1 := Lib.hid h1
      have H3 := Lib.hid h3
      have y0 : w9.cell? ⟨g, 0, none⟩ = some (.int .u8 ok) := h2.val (i := 0) rfl
      have y1 : w9.cell? ⟨g, 1, none⟩ = some (.int .i64 ot) := h2.val (i := 1) rfl
      have y2 : w9.cell? ⟨g, 2, none⟩ = some (.int .i64 oc) := h2.val (i := 2) rfl
      have y3 : w9.cell? ⟨g, 3, none⟩ = some (.int .i64 on) := h2.val (i := 3) rfl
      have x0 : w9.cell? ⟨g2, 0, none⟩ = some (.int .u8 ok) := h4.val (i := 0) rfl
      have x1 : w9.cell? ⟨g2, 1, none⟩ = some (.int .i64 ot) := h4.val (i := 1) rfl
      have x2 : w9.cell? ⟨g2, 2, none⟩ = some (.int .i64 oc) := h4.val (i := 2) rfl
      have x3 : w9.cell? ⟨g2, 3, none⟩ = some (.int .i64 on) := h4.val (i := 3) rfl
      have HRR : Hid (∀ wz, Below w.heap.size w wz → ∀ j, j < 5 → wz.cell? ⟨rb, ro + k * 5 + j, none⟩ = (reRow ⟨ra, rk, rt, rc, rs⟩)[j]?) := Lib.hid (fun wz hz j hj => (hz.cell (p := ⟨rb, ro + k * 5 + j, none⟩) hrb).trans (HRC.out j hj))
      clear h1 h2 h4 h5 h3 HRC
      have r0 : w9.cell? ⟨rb, ro + k * 5, none⟩ = some (.int .u8 ra) := HRR.out _ H3.out 0 (by omega)
      have r1 : w9.cell? ⟨rb, ro + k * 5 + 1, none⟩ = some (.int .u64 rk) := HRR.out _ H3.out 1 (by omega)
      have r2 : w9.cell? ⟨rb, ro + k * 5 + 2, none⟩ = some (.int .i64 rt) := HRR.out _ H3.out 2 (by omega)
      have r3 : w9.cell? ⟨rb, ro + k * 5 + 3, none⟩ = some (.int .i64 rc) := HRR.out _ H3.out 3 (by omega)
      have r4 : w9.cell? ⟨rb, ro + k * 5 + 4, none⟩ = some (.int .i64 rs) := HRR.out _ H3.out 4 (by omega)
      go_wp2_with fail
      refine (bx_fin b 1 ⟨ok, ot, oc, on⟩ r ⟨ra, rk, rt, rc, rs⟩ _ H1.out).mono ?_
      rintro e w10 ⟨hv, h1, kk⟩
      replace hv : e = .returned (.bool true) := hv
      subst hv
      replace h1 : BoxAt w10 b 2 ⟨ok, ot, oc, on⟩ ⟨ra, rk, rt, rc, rs⟩ := h1
      have hbb := H3.out.trans (kk.below (B := w.heap.size) (fun j hj => by omega) H3.out.size)
      clear kk H1 H3 r0 r1 r2 r3 r4 y0 y1 y2 y3 x0 x1 x2 x3
      have H1 := Lib.hid h1
      have H3 := Lib.hid hbb
      clear h1 hbb
      have r0 : w10.cell? ⟨rb, ro + k * 5, none⟩ = some (.int .u8 ra) := HRR.out _ H3.out 0 (by omega)
      have r1 : w10.cell? ⟨rb, ro + k * 5 + 1, none⟩ = some (.int .u64 rk) := HRR.out _ H3.out 1 (by omega)
      have r2 : w10.cell? ⟨rb, ro + k * 5 + 2, none⟩ = some (.int .i64 rt) := HRR.out _ H3.out 2 (by omega)
      have r3 : w10.cell? ⟨rb, ro + k * 5 + 3, none⟩ = some (.int .i64 rc) := HRR.out _ H3.out 3 (by omega)
      have r4 : w10.cell? ⟨rb, ro + k * 5 + 4, none⟩ = some (.int .i64 rs) := HRR.out _ H3.out 4 (by omega)
      go_wp2_with fail
      refine (bx_fin b 2 ⟨ok, ot, oc, on⟩ ⟨ra, rk, rt, rc, rs⟩ ⟨ra, rk, rt, rc, rs⟩ _ H1.out).mono ?_
      rintro e w11 ⟨hv, h1, kk⟩
      replace hv : e = .returned (.bool false) := hv
      subst hv
      replace h1 : BoxAt w11 b 2 ⟨ok, ot, oc, on⟩ ⟨ra, rk, rt, rc, rs⟩ := h1
      have hbb := H3.out.trans (kk.below (B := w.heap.size) (fun j hj => by omega) H3.out.size)
      clear kk H1 H3 r0 r1 r2 r3 r4
      have H1 := Lib.hid h1
      have H3 := Lib.hid hbb
      clear h1 hbb
      go_wp2_with fail
      refine (bx_col b 2 ⟨ok, ot, oc, on⟩ ⟨ra, rk, rt, rc, rs⟩ _ H1.out).mono ?_
      rintro e w12 ⟨hv, h1, kk⟩
      replace hv : e = .returned (.tuple #[.agg #[.int .u8 ra, .int .u64 rk, .int .i64 rt, .int .i64 rc, .int .i64 rs], .bool true]) := hv
      subst hv
      replace h1 : BoxAt w12 b 0 ⟨ok, ot, oc, on⟩ ⟨ra, rk, rt, rc, rs⟩ := h1
      have hbb := H3.out.trans (kk.below (B := w.heap.size) (fun j hj => by omega) H3.out.size)
      go_upto_region 15 with fail
      refine wp_worldx (fun wx => BoxAt wx b 0 ⟨ok, ot, oc, on⟩ ⟨ra, rk, rt, rc, rs⟩ ∧ Blk wx w12.heap.size 47 #[.int .u8 ra, .int .u64 rk, .int .i64 rt, .int .i64 rc, .int .i64 rs] ∧ Below w.heap.size w wx) ⟨Blk.alloc_ h1 _, Blk.made _ _ _, hbb.alloc hbb.size _⟩ ?_
      obtain ⟨g4, hg⟩ : ∃ g, w12.heap.size = g := ⟨_, rfl⟩
      have hgb4 : ¬ g4 = b := by have := Blk.size h1; omega
      rw [hg]
      clear hg kk hbb h1 H1 H3 
      rintro w13 ⟨h1, h5, h3⟩
      have H1 := Lib.hid h1
      have H5 := Lib.hid h5
      have H3 := Lib.hid h3
      clear h1 h5 h3
      go_wp2_with fail
      refine (bx_col b 0 ⟨ok, ot, oc, on⟩ ⟨ra, rk, rt, rc, rs⟩ _ H1.out).mono ?_
      rintro e w14 ⟨hv, h1, kk⟩
      replace hv : e = .returned (.tuple #[.agg #[.int .u8 0, .int .u64 0, .int .i64 0, .int .i64 0, .int .i64 0], .bool false]) := hv
      subst hv
      replace h1 : BoxAt w14 b 0 ⟨ok, ot, oc, on⟩ ⟨ra, rk, rt, rc, rs⟩ := h1
      have hbb := H3.out.trans (kk.below (B := w.heap.size) (fun j hj => by omega) H3.out.size)
      go_upto_region 16 with fail
      refine wp_worldx (fun wx => BoxAt wx b 0 ⟨ok, ot, oc, on⟩ ⟨ra, rk, rt, rc, rs⟩ ∧ Blk wx g4 47 #[.int .u8 ra, .int .u64 rk, .int .i64 rt, .int .i64 rc, .int .i64 rs] ∧ Blk wx w14.heap.size 47 #[.int .u8 0, .int .u64 0, .int .i64 0, .int .i64 0, .int .i64 0] ∧ Below w.heap.size w wx) ⟨Blk.alloc_ h1 _, Blk.alloc_ (Blk.kept H5.out kk hgb4) _, Blk.made _ _ _, hbb.alloc hbb.size _⟩ ?_
      obtain ⟨g5, hg⟩ : ∃ g, w14.heap.size = g := ⟨_, rfl⟩
      have hgb5 : ¬ g5 = b := by have := Blk.size h1; omega
      rw [hg]
      clear hg kk hbb h1 H1 H3 H5
      rintro w15 ⟨h1, h5, h6, h3⟩
      have H1 := Lib.hid h1
      have H3 := Lib.hid h3
      have y0 : w15.cell? ⟨g4, 0, none⟩ = some (.int .u8 ra) := h5.val (i := 0) rfl
      have y1 : w15.cell? ⟨g4, 1, none⟩ = some (.int .u64 rk) := h5.val (i := 1) rfl
      have y2 : w15.cell? ⟨g4, 2, none⟩ = some (.int .i64 rt) := h5.val (i := 2) rfl
      have y3 : w15.cell? ⟨g4, 3, none⟩ = some (.int .i64 rc) := h5.val (i := 3) rfl
      have y4 : w15.cell? ⟨g4, 4, none⟩ = some (.int .i64 rs) := h5.val (i := 4) rfl
      clear h1 h5 h6 h3
      have r0 : w15.cell? ⟨rb, ro + k * 5, none⟩ = some (.int .u8 ra) := HRR.out _ H3.out 0 (by omega)
      have r1 : w15.cell? ⟨rb, ro + k * 5 + 1, none⟩ = some (.int .u64 rk) := HRR.out _ H3.out 1 (by omega)
      have r2 : w15.cell? ⟨rb, ro + k * 5 + 2, none⟩ = some (.int .i64 rt) := HRR.out _ H3.out 2 (by omega)
      have r3 : w15.cell? ⟨rb, ro + k * 5 + 3, none⟩ = some (.int .i64 rc) := HRR.out _ H3.out 3 (by omega)
      have r4 : w15.cell? ⟨rb, ro + k * 5 + 4, none⟩ = some (.int .i64 rs) := HRR.out _ H3.out 4 (by omega)
      go_quiet (fail)
      go_wp2
      exact ⟨⟨k + 1, by omega, by simp, _, _, H1.out, ⟨H3.out.os, H3.out.tape, H3.out.output, H3.out.size, H3.out.block⟩⟩, by simp [intOf]; omega⟩
    · obtain rfl : k = len := by omega
      go_wp2_with fail
      refine (bx_state b 0 o r _ H1.out (by omega) (by omega)).mono ?_
      rintro e w4 ⟨rfl, rfl⟩
      go_wp2_with fail
      go_ret
      exact ⟨rfl, H3.out⟩
set_option maxRecDepth 100000 in
theorem lifted (os : Os) (started : os.Started) (H : Type) (enc : TypeId × Value → H) :
    ReturnsInHanded {} Try.checked os 5 .any (Rows.lockRoundsSpec.pre6 enc Try.prog Try.f5 Rows.lockRoundsRow.domain false) (Rows.lockRoundsSpec.post enc Try.prog Try.f5 false true false false) := by
  refine returnsInHanded_of_change (C := Try.checked) own started (by kernel_rfl) Try.func5
    (ChangeSpec.witness6 (enc := enc) (C := Try.checked) false ⟨#[], #[.slice none 0 0, .slice none 0 0], []⟩ 8 (by kernel_rfl) (by kernel_rfl) (by kernel_rfl) (by kernel_rfl)) ?_
  intro W base args ds gs before hval0 hW hcnd _
  have hval : ∀ (j : Nat) t v, Try.f5.params[j]? = some t → args[j]? = some v → Value.okWide Try.prog W .any base t v := hval0
  have hW' := hW
  obtain ⟨p, q, hA0, hV, rfl, hfz, hnd⟩ := hW
  have hA : DataW.TrodAll enc Try.prog W 0 (fun _ => true) true Try.f5.params.toList args.toList ds p := hA0
  rw [Try.params5] at hA hval
  obtain ⟨v0, vs0, d0, ds0, p0, q0, hargs, rfl, rfl, h0, r0⟩ := trodAll_cons hA
  obtain ⟨v1, vs1, d1, ds1, p1, q1, rfl, rfl, rfl, h1, r1⟩ := trodAll_cons r0
  obtain ⟨rfl, rfl, rfl⟩ := trodAll_nil r1
  obtain rfl : args = #[v0, v1] := by cases args; simp_all
  obtain ⟨rfl, rfl⟩ := trodVars_none hV
  obtain ⟨A0, len0, cap0, rfl⟩ := okWide_slice Try.underlying62 (hval 0 _ v0 rfl rfl)
  obtain ⟨fu0, g0⟩ := h0
  obtain ⟨s0, t0, Q0, u0, o0⟩ := open_ops g0
  obtain ⟨A1, len1, cap1, rfl⟩ := okWide_slice Try.underlying63 (hval 1 _ v1 rfl rfl)
  obtain ⟨fu1, g1⟩ := h1
  obtain ⟨s1, t1, Q1, u1, o1⟩ := open_res g1
  clear hA0 hval0
  refine (walk A0 len0 cap0 Q0 A1 len1 cap1 Q1 W s0 t0 u0 o0 s1 t1 u1 o1).mono fun e W' ⟨he, hg⟩ => ?_
  subst he
  exact ⟨_, rfl, post_of_law hW' rfl laidOut reads rfl Try.underlying4 rfl rfl rfl hg⟩
theorem over : Rows.lockRoundsRow.holds Try.pinned (OpenSpec.ofChange Rows.lockRoundsSpec) :=
  OpenClaim.holds_of_wide 5 Try.f5 rfl rfl rfl rfl rfl rfl rfl ⟨rfl, rfl, rfl, rfl, rfl⟩ rfl rfl rfl rfl rfl (by kernel_rfl) Try.func5 (by kernel_rfl)
    (of_decide_eq_true (by kernel_rfl)) (by unfold Func.isWrapper; first | (rw [if_pos (by decide +kernel)]; kernel_rfl) | (rw [if_neg (by decide +kernel)]; exact ⟨rfl, rfl⟩))
    (fun os started H enc _ => lifted os started H enc)
theorem proved : Rows.LockRoundsSaid := over
end Go.Proofs.Ytocgflhecnkcfaa.lockRounds
