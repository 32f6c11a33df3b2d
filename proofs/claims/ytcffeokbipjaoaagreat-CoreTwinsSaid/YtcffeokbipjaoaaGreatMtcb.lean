/- The walk of CoreTwins. -/
import Derived.Test.YtcffeokbipjaoaaGreatMtaf
import Derived.Test.YtcffeokbipjaoaaGreatMtam
import Derived.Test.YtcffeokbipjaoaaGreatMtba
import Derived.Test.YtcffeokbipjaoaaGreatMtbh
import Derived.Test.YtcffeokbipjaoaaGreatMtbz
import Derived.Test.YtcffeokbipjaoaaGreatMtca
import Derived.ChangeArms
import Derived.Test.YtcffeokbipjaoaaGreatRows
import Derived.WalkKit
import Derived.ProofKit
import Derived.OpenShut
import Derived.Deep.DeepCutAuto
import Derived.Deep.RegionHeld3
namespace Go.Proofs.YtcffeokbipjaoaaGreat.coreTwins
open Go.ChangeShapes Go.WideShapes Go.ChangeAt Go.RowKit
set_option linter.unusedVariables false
set_option linter.unusedSimpArgs false
set_option maxRecDepth 100000 in
set_option maxHeartbeats 16000000 in
theorem walk (ti ro ta iv hx lo dw ho sp kp ki kd lm sx th rg : Int) (A : Option Addr) (len cap : Nat) (Q : Nat → Ca) (A2 : Option Addr) (len2 cap2 : Nat) (K : Nat → Int) (w : World) (hlc : len ≤ cap) (hcm : cap ≤ maxLen) (hQ : SeqAt w w.heap.size A len 5 (fun i => caRow (Q i))) (hok : ∀ i, i < len → (Q i).ok) (hlc2 : len2 ≤ cap2) (hcm2 : cap2 ≤ maxLen) (hR : SeqAt w w.heap.size A2 len2 1 (fun i => [.int .u8 (K i)])) (hok2 : ∀ i, 0 ≤ K i ∧ K i ≤ 255) (ti0 : -9223372036854775808 ≤ ti) (ti1 : ti ≤ 9223372036854775807) (ro0 : -9223372036854775808 ≤ ro) (ro1 : ro ≤ 9223372036854775807) (ta0 : -9223372036854775808 ≤ ta) (ta1 : ta ≤ 9223372036854775807) (iv0 : -9223372036854775808 ≤ iv) (iv1 : iv ≤ 9223372036854775807) (hx0 : -9223372036854775808 ≤ hx) (hx1 : hx ≤ 9223372036854775807) (lo0 : -9223372036854775808 ≤ lo) (lo1 : lo ≤ 9223372036854775807) (dw0 : -9223372036854775808 ≤ dw) (dw1 : dw ≤ 9223372036854775807) (ho0 : -9223372036854775808 ≤ ho) (ho1 : ho ≤ 9223372036854775807) (sp0 : -9223372036854775808 ≤ sp) (sp1 : sp ≤ 9223372036854775807) (kp0 : -9223372036854775808 ≤ kp) (kp1 : kp ≤ 9223372036854775807) (ki0 : -9223372036854775808 ≤ ki) (ki1 : ki ≤ 9223372036854775807) (kd0 : -9223372036854775808 ≤ kd) (kd1 : kd ≤ 9223372036854775807) (lm0 : -9223372036854775808 ≤ lm) (lm1 : lm ≤ 9223372036854775807) (sx0 : -9223372036854775808 ≤ sx) (sx1 : sx ≤ 9223372036854775807) (th0 : -9223372036854775808 ≤ th) (th1 : th ≤ 9223372036854775807) (rg0 : -9223372036854775808 ≤ rg) (rg1 : rg ≤ 9223372036854775807) :
   Calls Tryz.prog 3 #[.agg #[.int .i64 ti, .int .i64 ro, .int .i64 ta, .int .i64 iv, .int .i64 hx, .int .i64 lo, .int .i64 dw, .int .i64 ho, .int .i64 sp, .int .i64 kp, .int .i64 ki, .int .i64 kd, .int .i64 lm, .int .i64 sx, .int .i64 th, .int .i64 rg], .slice A len cap, .slice A2 len2 cap2] w fun e w' => e = .returned (.bool true) ∧ Below w.heap.size w w' := by
 have hfit : (⟨ti, ro, ta, iv, hx, lo, dw, ho, sp, kp, ki, kd, lm, sx, th, rg⟩ : Cf).fits := by constructor <;> (unfold I64_; exact ⟨by assumption, by assumption⟩)
 unfold maxLen at hcm hcm2
 have HF := Lib.hid hfit
 have HQ := Lib.hid hQ
 have HOK := Lib.hid hok
 have HR := Lib.hid hR
 have HOK2 := Lib.hid hok2
 have HL1 := Lib.hid hlc
 have HL2 := Lib.hid hlc2
 have HM1 := Lib.hid hcm
 have HM2 := Lib.hid hcm2
 clear hfit hQ hok hR hok2 hlc hlc2 hcm hcm2 ti0 ti1 ro0 ro1 ta0 ta1 iv0 iv1 hx0 hx1 lo0 lo1 dw0 dw1 ho0 ho1 sp0 sp1 kp0 kp1 ki0 ki1 kd0 kd1 lm0 lm1 sx0 sx1 th0 th1 rg0 rg1
 go_enter Tryz.func3, Tryz.ntmps3
 go_upto_region 1 with fail
 refine wp_worldx (fun wx => Blk wx w.heap.size 24 (⟨ti, ro, ta, iv, hx, lo, dw, ho, sp, kp, ki, kd, lm, sx, th, rg⟩ : Cf).l.toArray ∧ Below w.heap.size w wx) ⟨Blk.made _ _ _, (Below.refl _ _).alloc (Nat.le_refl _) _⟩ ?_
 obtain ⟨g, hg⟩ : ∃ g, w.heap.size = g := ⟨_, rfl⟩
 rw [hg]
 rintro w0 ⟨h1, h3⟩
 have HA := Lib.hid h1
 have HC := Lib.hid (show Below w.heap.size w w0 from by rw [hg]; exact h3)
 clear h1 h3 hg
 go_wp2_with fail
 refine (awake16 _).mono ?_
 rintro e w1 ⟨rfl, hb⟩
 replace HA := Lib.hid (HA.out.below_ hb HA.out.size)
 replace HC := Lib.hid (HC.out.trans (hb.mono HC.out.size))
 clear hb
 have k0 : w1.cell? ⟨g, 0, none⟩ = some (.int .i64 ti) := HA.out.val (i := 0) rfl
 have k1 : w1.cell? ⟨g, 1, none⟩ = some (.int .i64 ro) := HA.out.val (i := 1) rfl
 have k2 : w1.cell? ⟨g, 2, none⟩ = some (.int .i64 ta) := HA.out.val (i := 2) rfl
 have k3 : w1.cell? ⟨g, 3, none⟩ = some (.int .i64 iv) := HA.out.val (i := 3) rfl
 have k4 : w1.cell? ⟨g, 4, none⟩ = some (.int .i64 hx) := HA.out.val (i := 4) rfl
 have k5 : w1.cell? ⟨g, 5, none⟩ = some (.int .i64 lo) := HA.out.val (i := 5) rfl
 have k6 : w1.cell? ⟨g, 6, none⟩ = some (.int .i64 dw) := HA.out.val (i := 6) rfl
 have k7 : w1.cell? ⟨g, 7, none⟩ = some (.int .i64 ho) := HA.out.val (i := 7) rfl
 have k8 : w1.cell? ⟨g, 8, none⟩ = some (.int .i64 sp) := HA.out.val (i := 8) rfl
 have k9 : w1.cell? ⟨g, 9, none⟩ = some (.int .i64 kp) := HA.out.val (i := 9) rfl
 have k10 : w1.cell? ⟨g, 10, none⟩ = some (.int .i64 ki) := HA.out.val (i := 10) rfl
 have k11 : w1.cell? ⟨g, 11, none⟩ = some (.int .i64 kd) := HA.out.val (i := 11) rfl
 have k12 : w1.cell? ⟨g, 12, none⟩ = some (.int .i64 lm) := HA.out.val (i := 12) rfl
 have k13 : w1.cell? ⟨g, 13, none⟩ = some (.int .i64 sx) := HA.out.val (i := 13) rfl
 have k14 : w1.cell? ⟨g, 14, none⟩ = some (.int .i64 th) := HA.out.val (i := 14) rfl
 have k15 : w1.cell? ⟨g, 15, none⟩ = some (.int .i64 rg) := HA.out.val (i := 15) rfl
 go_wp2_with fail
 refine (cnew_any ⟨ti, ro, ta, iv, hx, lo, dw, ho, sp, kp, ki, kd, lm, sx, th, rg⟩ w1 HF.out).mono ?_
 rintro e w2 ⟨P, rfl, hP, hb⟩
 replace HA := Lib.hid (HA.out.below_ hb HA.out.size)
 have HP := Lib.hid hP
 have HB2 := Lib.hid hb
 clear hb hP k0 k1 k2 k3 k4 k5 k6 k7 k8 k9 k10 k11 k12 k13 k14 k15
 have k0 : w2.cell? ⟨g, 0, none⟩ = some (.int .i64 ti) := HA.out.val (i := 0) rfl
 have k1 : w2.cell? ⟨g, 1, none⟩ = some (.int .i64 ro) := HA.out.val (i := 1) rfl
 have k2 : w2.cell? ⟨g, 2, none⟩ = some (.int .i64 ta) := HA.out.val (i := 2) rfl
 have k3 : w2.cell? ⟨g, 3, none⟩ = some (.int .i64 iv) := HA.out.val (i := 3) rfl
 have k4 : w2.cell? ⟨g, 4, none⟩ = some (.int .i64 hx) := HA.out.val (i := 4) rfl
 have k5 : w2.cell? ⟨g, 5, none⟩ = some (.int .i64 lo) := HA.out.val (i := 5) rfl
 have k6 : w2.cell? ⟨g, 6, none⟩ = some (.int .i64 dw) := HA.out.val (i := 6) rfl
 have k7 : w2.cell? ⟨g, 7, none⟩ = some (.int .i64 ho) := HA.out.val (i := 7) rfl
 have k8 : w2.cell? ⟨g, 8, none⟩ = some (.int .i64 sp) := HA.out.val (i := 8) rfl
 have k9 : w2.cell? ⟨g, 9, none⟩ = some (.int .i64 kp) := HA.out.val (i := 9) rfl
 have k10 : w2.cell? ⟨g, 10, none⟩ = some (.int .i64 ki) := HA.out.val (i := 10) rfl
 have k11 : w2.cell? ⟨g, 11, none⟩ = some (.int .i64 kd) := HA.out.val (i := 11) rfl
 have k12 : w2.cell? ⟨g, 12, none⟩ = some (.int .i64 lm) := HA.out.val (i := 12) rfl
 have k13 : w2.cell? ⟨g, 13, none⟩ = some (.int .i64 sx) := HA.out.val (i := 13) rfl
 have k14 : w2.cell? ⟨g, 14, none⟩ = some (.int .i64 th) := HA.out.val (i := 14) rfl
 have k15 : w2.cell? ⟨g, 15, none⟩ = some (.int .i64 rg) := HA.out.val (i := 15) rfl
 obtain ⟨ve, hve⟩ : ∃ z, validE ⟨ti, ro, ta, iv, hx, lo, dw, ho, sp, kp, ki, kd, lm, sx, th, rg⟩ = z := ⟨_, rfl⟩
 have HVE := Lib.hid hve
 rw [hve]
 clear hve
 go_wp2_with fail
 refine (cnew_any ⟨ti, ro, ta, iv, hx, lo, dw, ho, sp, kp, ki, kd, lm, sx, th, rg⟩ w2 HF.out).mono ?_
 rw [HVE.out]
 rintro e w3 ⟨P2, rfl, hP2, hb⟩
 have HB3 := Lib.hid hb
 clear hb k0 k1 k2 k3 k4 k5 k6 k7 k8 k9 k10 k11 k12 k13 k14 k15 HA
 have hP := HP.out
 rw [HVE.out] at hP
 clear HP
 rcases hP2 with ⟨rfl, rfl⟩ | ⟨rfl, pb, Ob, Nb, nb, rfl, hLb, hOb⟩
 · go_wp2_with fail
   go_ret
   exact ⟨rfl, HC.out.trans ((HB2.out.trans (HB3.out.mono HB2.out.size)).mono HC.out.size)⟩
 · rcases hP with ⟨rfl, h0⟩ | ⟨-, pa, Oa, Na, na, rfl, hLa, hOa⟩
   · exact absurd h0 (by decide)
   · have hcN := hLa.ok.hN.symm.trans hLb.ok.hN
     have hcn := hLa.ok.hn.symm.trans hLb.ok.hn
     obtain rfl : Nb = Na := by
       have : (Na : Int) = (Nb : Int) := hcN
       omega
     obtain rfl : nb = na := by
       have : (na : Int) = (nb : Int) := hcn
       omega
     obtain ⟨S0, hS0⟩ : ∃ S, newC ⟨ti, ro, ta, iv, hx, lo, dw, ho, sp, kp, ki, kd, lm, sx, th, rg⟩ Nb nb = S := ⟨_, rfl⟩
     rw [hS0] at hLa hLb
     have hclk : S0.clk = 0 := by rw [← hS0]; rfl
     have hK0 : S0.K = 0 := by rw [← hS0]; rfl
     have hT : Two w.heap.size w3 pa pb S0 S0 := ⟨⟨Oa, Ob, hLa.below HB3.out, hLb, fun k ha hb => by have := hLa.lt ha; have := hOb k hb; omega, fun k ha => by have := hOa k ha; have := HC.out.size; omega, fun k hb => by have := hOb k hb; have := HC.out.size; have := HB2.out.size; omega⟩⟩
     have HT := Lib.hid hT
     have HC3 := Lib.hid (HC.out.trans ((HB2.out.trans (HB3.out.mono HB2.out.size)).mono HC.out.size))
     have HCLK := Lib.hid hclk
     have HK0 := Lib.hid hK0
     clear hT hclk hK0 hS0 hLa hLb hOa hOb hcN hcn HC HB2 HB3 HF HVE
     go_wp2_with fail
     go_loopw [11, 38] (fun s11 s38 wr => ∃ (k : Nat) (S1 : Cor), k ≤ len ∧ k ≤ 80 ∧ s11 = .int .i64 S1.clk ∧ s38 = .int .i64 (k : Int) ∧ S1.K ≤ k ∧ Two w.heap.size wr pa pb S1 S1 ∧ Below w.heap.size w wr) (fun _ i _ => len - (intOf i).toNat)
     case atStart => exact ⟨0, S0, by omega, by omega, by rw [HCLK.out], rfl, by rw [HK0.out]; omega, HT.out, HC3.out⟩
     case round =>
       obtain ⟨k, S1, hk, hk80, rfl, rfl, hK1, hT, hB⟩ := hrel
       obtain ⟨nw, hnw⟩ : ∃ nw, S1.clk = nw := ⟨_, rfl⟩
       rw [hnw]
       have HNW := Lib.hid hnw
       clear hnw HT HC3 HCLK HK0
       have HT := Lib.hid hT
       have HB := Lib.hid hB
       clear hT hB
       by_cases hkl : k < len
       · obtain ⟨bq, off, eA, hbq, hcq⟩ := HQ.out (by omega)
         subst eA
         obtain ⟨⟨la, kd, bb, cc, dd⟩, hq⟩ : ∃ q, Q k = q := ⟨_, rfl⟩
         have hqo := HOK.out k hkl
         rw [hq] at hqo
         have hcell : ∀ j, j < 5 → wr.cell? ⟨bq, off + k * 5 + j, none⟩ = (caRow ⟨la, kd, bb, cc, dd⟩)[j]? := fun j hj => (HB.out.cell hbq).trans ((hcq k hkl j hj).trans (by show (caRow (Q k))[j]? = _; rw [hq]))
         have y0 : wr.cell? ⟨bq, off + k * 5, none⟩ = some (.int .i64 la) := hcell 0 (by omega)
         have y1 : wr.cell? ⟨bq, off + k * 5 + 1, none⟩ = some (.int .u8 kd) := hcell 1 (by omega)
         have y2 : wr.cell? ⟨bq, off + k * 5 + 2, none⟩ = some (.int .i64 bb) := hcell 2 (by omega)
         have y3 : wr.cell? ⟨bq, off + k * 5 + 3, none⟩ = some (.int .i64 cc) := hcell 3 (by omega)
         have y4 : wr.cell? ⟨bq, off + k * 5 + 4, none⟩ = some (.int .i64 dd) := hcell 4 (by omega)
         have j1 : (k : Int) < (len : Int) := by omega
         have j2 : (0 : Int) ≤ (k : Int) := by omega
         have HQO := Lib.hid hqo
         clear hcell hq hqo hcq hbq
         by_cases h80 : 80 ≤ k
         · have j3 : (80 : Int) ≤ (k : Int) := by omega
           have HT := Lib.hid (HT.out.below ((Below.refl wr.heap.size wr).alloc (Nat.le_refl _) (.cells #[.int .i64 la, .int .u8 kd, .int .i64 bb, .int .i64 cc, .int .i64 dd] 35)))
           have HB := Lib.hid (HB.out.trans (((Below.refl wr.heap.size wr).alloc (Nat.le_refl _) (.cells #[.int .i64 la, .int .u8 kd, .int .i64 bb, .int .i64 cc, .int .i64 dd] 35)).mono HB.out.size))
           go_wp2_with fail
           refine (HT.out.queue HB.out.size (by omega)).mono ?_
           rintro e u1 ⟨⟨A1, c1, rfl⟩, ht, hb⟩
           have HT1 := Lib.hid ht
           have HU1 := Lib.hid (HB.out.trans hb)
           clear ht hb
           go_wp2_with fail
           refine (HT1.out.swap.queue HU1.out.size (by omega)).mono ?_
           rintro e u2 ⟨⟨A3, c2, rfl⟩, ht, hb⟩
           have HT2 := Lib.hid ht.swap
           have HU2 := Lib.hid (HU1.out.trans hb)
           clear ht hb HT1 HU1
           obtain ⟨l1, g1, g2⟩ := HT2.out.log_
           obtain ⟨l2, g3, g4⟩ := HT2.out.swap.log_
           have G1 := Lib.hid g1
           have G2 := Lib.hid g2
           have G3 := Lib.hid g3
           have G4 := Lib.hid g4
           clear g1 g2 g3 g4
           go_wp2_with fail
           refine G1.out.mono ?_
           rintro e u3 ⟨rfl, rfl⟩
           go_wp2_with fail
           refine G2.out.mono ?_
           rintro e u3 ⟨rfl, rfl⟩
           go_wp2_with fail
           refine G3.out.mono ?_
           rintro e u3 ⟨rfl, rfl⟩
           go_wp2_with fail
           refine G4.out.mono ?_
           rintro e u3 ⟨rfl, rfl⟩
           go_wp2_with fail
           refine (HT2.out.pid_ HU2.out.size).mono ?_
           rintro e u4 ⟨rfl, ht, hb⟩
           have HT4 := Lib.hid ht
           have HU4 := Lib.hid (HU2.out.trans hb)
           clear ht hb
           go_wp2_with fail
           refine (HT4.out.swap.pid_ HU4.out.size).mono ?_
           rintro e u5 ⟨rfl, ht, hb⟩
           have HU5 := Lib.hid (HU4.out.trans hb)
           clear ht hb
           go_wp2
           go_ret
           exact ⟨rfl, HU5.out⟩
         · have j3 : ¬ (80 : Int) ≤ (k : Int) := by omega
           obtain ⟨mx, hmx⟩ : ∃ m, max la 0 = m := ⟨_, rfl⟩
           have hw8 := HT.out.clk64
           rw [HNW.out] at hw8
           have hm8 : I64_ mx := by have hh : -9223372036854775808 ≤ la ∧ la ≤ 9223372036854775807 := HQO.out.la; unfold I64_; omega
           obtain ⟨n2, hn8, hle, hn0, hadd⟩ := add_on nw mx hw8 hm8 (by omega)
           have hnz : la ≤ 0 → n2 = nw := fun h => hn0 (by omega)
           obtain ⟨S2, hS2⟩ : ∃ z, doS S1 n2 kd bb cc dd = z := ⟨_, rfl⟩
           obtain ⟨r0, r1, r2, r3, r4, hv⟩ := doV_resv S1 n2 kd bb cc dd
           have hc2 : S2.clk = n2 := by rw [← hS2, doS_now, HNW.out]; omega
           have hk2 : S2.K ≤ k + 1 := by have := doS_K S1 n2 kd bb cc dd; rw [hS2] at this; omega
           have hk8 : S1.K ≤ 800 := by omega
           have HADD := Lib.hid hadd
           have HS2 := Lib.hid hS2
           have HV := Lib.hid hv
           have HC2 := Lib.hid hc2
           have HK2 := Lib.hid hk2
           have HN8 := Lib.hid hn8
           have HLE := Lib.hid hle
           have HMX := Lib.hid hmx
           have HNZ := Lib.hid hnz
           have HK8 := Lib.hid hk8
           clear hw8 hle hn8 hm8 hn0 hnz hadd hS2 hv hc2 hk2 hk8
           go_wp2_with fail
           refine (HADD.out _).mono ?_
           rintro e w5 ⟨rfl, hb5⟩
           obtain ⟨gb, hgb⟩ : ∃ g, wr.heap.size = g := ⟨_, rfl⟩
           have hbx := (Blk.made wr 35 #[.int .i64 la, .int .u8 kd, .int .i64 bb, .int .i64 cc, .int .i64 dd]).below_ hb5 (Blk.made wr 35 #[.int .i64 la, .int .u8 kd, .int .i64 bb, .int .i64 cc, .int .i64 dd]).size
           have hbw : Below wr.heap.size wr w5 := ((Below.refl _ _).alloc (Nat.le_refl _) _).trans (hb5.mono (by simp))
           have HT5 := Lib.hid (HT.out.below hbw)
           have HB5 := Lib.hid (HB.out.trans (hbw.mono HB.out.size))
           rw [hgb] at hbx ⊢
           have HBX := Lib.hid hbx
           have x0 : w5.cell? ⟨gb, 0, none⟩ = some (.int .i64 la) := hbx.val (i := 0) rfl
           clear hbx hbw hb5 hgb y0 y1 y2 y3 y4 HT HB HADD
           by_cases hg : k < len2 ∧ la ≤ 0
           · obtain ⟨hg1, hg2⟩ := hg
             obtain ⟨b2, of2, eA, hb2, hc2q⟩ := HR.out (by omega)
             subst eA
             obtain ⟨kb, hkb⟩ : ∃ z, K k = z := ⟨_, rfl⟩
             have kb8 := HOK2.out k
             rw [hkb] at kb8
             have v0 : w5.cell? ⟨b2, of2 + k, none⟩ = some (.int .u8 kb) := (HB5.out.cell hb2).trans (by have := hc2q k hg1 0 (by omega); rw [Nat.mul_one] at this; exact this.trans (by show some (Value.int .u8 (K k)) = _; rw [hkb]))
             obtain ⟨kb0, kb1⟩ := kb8
             obtain ⟨th, ht8, hle2, hsub⟩ := sub_back n2 kb HN8.out ⟨by omega, by omega⟩ kb0
             have hce : clkS S1 th = clkS S1 n2 := clkS_back (by rw [HNW.out]; exact HLE.out) hle2 (by right; rw [HNW.out]; exact (HNZ.out hg2).symm)
             have HSUB := Lib.hid hsub
             have HT8 := Lib.hid ht8
             have HCE := Lib.hid hce
             clear hsub ht8 hce hle2 hc2q hb2 hkb
             have j4 : (k : Int) < (len2 : Int) := by omega
             go_wp2_with fail
             refine (HSUB.out _).mono ?_
             rintro e w6 ⟨rfl, hb6⟩
             have HT6 := Lib.hid (HT5.out.below hb6)
             have HB6 := Lib.hid (HB5.out.trans (hb6.mono HB5.out.size))
             have HBX6 := Lib.hid (HBX.out.below_ hb6 HBX.out.size)
             clear hb6 HT5 HB5 HBX x0 v0
             go_upto_region 16 with fail
             obtain ⟨wq, hwq⟩ : ∃ W, w6 = W := ⟨_, rfl⟩
             have hDq : DD w.heap.size wq pa pb S1 S1 wq := by rw [← hwq]; exact ⟨HT6.out, Below.refl _ _, HB6.out.size⟩
             have hSq : Blk wq gb 35 #[.int .i64 la, .int .u8 kd, .int .i64 bb, .int .i64 cc, .int .i64 dd] := by rw [← hwq]; exact HBX6.out
             have HBQ := Lib.hid (show Below w.heap.size w wq by rw [← hwq]; exact HB6.out)
             rw [hwq]
             have HDQ := Lib.hid hDq
             have HSQ := Lib.hid hSq
             clear hDq hSq hwq HT6 HB6 HBX6
             refine wp_region_noPanic ?_
             refine wp_region_UD (fun w' => Blk w' gb 35 #[.int .i64 la, .int .u8 kd, .int .i64 bb, .int .i64 cc, .int .i64 dd]) (DD w.heap.size wq pa pb S1 S1) [4, 9, 13, 15, 20] [] (by kernel_rfl) (HSQ.out.drew_) (HDQ.out.drew_) DD.still ?_
             intro hsh0
             refine anyU_tk 60 (i := 0) (v := ?_) rfl (fun _ _ _ h => h) (YieldsS.of_if (Or.inl ⟨by rfl, ?_⟩)) ?_
             rotate_left
             · (intro wS hSw; (try dsimp only at hSw); (first | (go_simp; done) | (go_simp; with_reducible rfl)))
             intro hsh1
             clear hsh0
             try simp only [Act.put, List.getElem_toArray, List.getElem_cons_zero, List.getElem_cons_succ, List.setIfInBounds_toArray, List.set_cons_zero, List.set_cons_succ]
             refine anyU_tk 60 (i := 1) (v := ?_) rfl (fun _ _ _ h => h) (YieldsS.of_if (Or.inl ⟨by rfl, ?_⟩)) ?_
             rotate_left
             · (intro wS hSw; (try dsimp only at hSw); (first | (go_simp; done) | (go_simp; with_reducible rfl)))
             intro hsh2
             clear hsh1
             try simp only [Act.put, List.getElem_toArray, List.getElem_cons_zero, List.getElem_cons_succ, List.setIfInBounds_toArray, List.set_cons_zero, List.set_cons_succ]
             refine anyU_tk 60 (i := 2) (v := ?_) rfl (fun _ _ _ h => h) (YieldsS.of_if (Or.inl ⟨by rfl, ?_⟩)) ?_
             rotate_left
             · (intro wS hSw; (try dsimp only at hSw); (first | (go_simp; done) | (go_simp; with_reducible rfl)))
             intro hsh3
             clear hsh2
             try simp only [Act.put, List.getElem_toArray, List.getElem_cons_zero, List.getElem_cons_succ, List.setIfInBounds_toArray, List.set_cons_zero, List.set_cons_succ]
             refine anyU_tk 60 (i := 3) (v := ?_) rfl (fun _ _ _ h => h) (YieldsS.of_if (Or.inl ⟨by rfl, ?_⟩)) ?_
             rotate_left
             · (intro wS hSw; (try dsimp only at hSw); have z1 : wS.cell? ⟨gb, 1, none⟩ = some (.int .u8 kd) := hSw.val (i := 1) rfl; have z2 : wS.cell? ⟨gb, 2, none⟩ = some (.int .i64 bb) := hSw.val (i := 2) rfl; have z3 : wS.cell? ⟨gb, 3, none⟩ = some (.int .i64 cc) := hSw.val (i := 3) rfl; have z4 : wS.cell? ⟨gb, 4, none⟩ = some (.int .i64 dd) := hSw.val (i := 4) rfl; (first | (go_simp; done) | (go_simp; with_reducible rfl)))
             intro hsh4
             clear hsh3
             try simp only [Act.put, List.getElem_toArray, List.getElem_cons_zero, List.getElem_cons_succ, List.setIfInBounds_toArray, List.set_cons_zero, List.set_cons_succ]
             refine anyU_tk 60 (i := 5) (v := ?_) rfl (fun _ _ _ h => h) (YieldsS.of_if (Or.inl ⟨by rfl, ?_⟩)) ?_
             rotate_left
             · (intro wS hSw; (try dsimp only at hSw); (first | (go_simp; done) | (go_simp; with_reducible rfl)))
             intro hsh5
             clear hsh4
             try simp only [Act.put, List.getElem_toArray, List.getElem_cons_zero, List.getElem_cons_succ, List.setIfInBounds_toArray, List.set_cons_zero, List.set_cons_succ]
             refine anyU_tk 60 (i := 6) (v := ?_) rfl (fun _ _ _ h => h) (YieldsS.of_if (Or.inl ⟨by rfl, ?_⟩)) ?_
             rotate_left
             · (intro wS hSw; (try dsimp only at hSw); (first | (go_simp; done) | (go_simp; with_reducible rfl)))
             intro hsh6
             clear hsh5
             try simp only [Act.put, List.getElem_toArray, List.getElem_cons_zero, List.getElem_cons_succ, List.setIfInBounds_toArray, List.set_cons_zero, List.set_cons_succ]
             refine anyU_tk 60 (i := 7) (v := ?_) rfl (fun _ _ _ h => h) (YieldsS.of_if (Or.inl ⟨by rfl, ?_⟩)) ?_
             rotate_left
             · (intro wS hSw; (try dsimp only at hSw); (first | (go_simp; done) | (go_simp; with_reducible rfl)))
             intro hsh7
             clear hsh6
             try simp only [Act.put, List.getElem_toArray, List.getElem_cons_zero, List.getElem_cons_succ, List.setIfInBounds_toArray, List.set_cons_zero, List.set_cons_succ]
             refine anyU_tk 60 (i := 8) (v := ?_) rfl (fun _ _ _ h => h) (YieldsS.of_if (Or.inl ⟨by rfl, ?_⟩)) ?_
             rotate_left
             · (intro wS hSw; (try dsimp only at hSw); have z1 : wS.cell? ⟨gb, 1, none⟩ = some (.int .u8 kd) := hSw.val (i := 1) rfl; have z2 : wS.cell? ⟨gb, 2, none⟩ = some (.int .i64 bb) := hSw.val (i := 2) rfl; have z3 : wS.cell? ⟨gb, 3, none⟩ = some (.int .i64 cc) := hSw.val (i := 3) rfl; have z4 : wS.cell? ⟨gb, 4, none⟩ = some (.int .i64 dd) := hSw.val (i := 4) rfl; (first | (go_simp; done) | (go_simp; with_reducible rfl)))
             intro hsh8
             clear hsh7
             try simp only [Act.put, List.getElem_toArray, List.getElem_cons_zero, List.getElem_cons_succ, List.setIfInBounds_toArray, List.set_cons_zero, List.set_cons_succ]
             refine anyU_call (i := 4) 15 #[.pointer (some ⟨pa, 0, none⟩), .int .i64 n2, .agg #[.int .u8 kd, .int .i64 bb, .int .i64 cc, .int .i64 dd]] (.agg #[.int .u8 r0, .int .u64 r1, .int .i64 r2, .int .i64 r3, .int .i64 r4]) (DD w.heap.size wq pa pb S2 S1) (by kernel_rfl) (by kernel_rfl) rfl (by rfl) (fun wS _ _ => by first | rfl | (go_simp; done)) (fun wS hSw hDw => ?_) DD.still (by assumption) ?_
             · (refine (hDw.1.do_ hDw.size HN8.out HK8.out HQO.out.k.1 HQO.out.b HQO.out.c HQO.out.d).mono ?_; rw [HV.out, HS2.out]; rintro e wn ⟨he, ht, hb, hx⟩; exact ⟨he, hx gb _ _ (by decide) hSw, hDw.next ht hb⟩)
             intro hsh9
             clear hsh8
             try simp only [Act.put, List.getElem_toArray, List.getElem_cons_zero, List.getElem_cons_succ, List.setIfInBounds_toArray, List.set_cons_zero, List.set_cons_succ]
             refine anyU_call (i := 9) 15 #[.pointer (some ⟨pb, 0, none⟩), .int .i64 th, .agg #[.int .u8 kd, .int .i64 bb, .int .i64 cc, .int .i64 dd]] (.agg #[.int .u8 r0, .int .u64 r1, .int .i64 r2, .int .i64 r3, .int .i64 r4]) (DD w.heap.size wq pa pb S2 S2) (by kernel_rfl) (by kernel_rfl) rfl (by rfl) (fun wS _ _ => by first | rfl | (go_simp; done)) (fun wS hSw hDw => ?_) DD.still (by assumption) ?_
             · (refine (hDw.1.swap.do_ hDw.size HT8.out HK8.out HQO.out.k.1 HQO.out.b HQO.out.c HQO.out.d).mono ?_; rw [(doS_clk HCE.out).1, (doS_clk HCE.out).2]; rw [HV.out, HS2.out]; rintro e wn ⟨he, ht, hb, hx⟩; exact ⟨he, hx gb _ _ (by decide) hSw, hDw.next ht.swap hb⟩)
             intro hsh10
             clear hsh9
             try simp only [Act.put, List.getElem_toArray, List.getElem_cons_zero, List.getElem_cons_succ, List.setIfInBounds_toArray, List.set_cons_zero, List.set_cons_succ]
             refine anyU_oneS (i := 10) (v := ?_) (by kernel_rfl) rfl (YieldsS.of_if (Or.inl ⟨by rfl, ?_⟩)) (by assumption) ?_
             rotate_left
             · (intro wS hSw; (try dsimp only at hSw); (first | (go_simp; done) | (go_simp; with_reducible rfl)))
             intro hsh11
             clear hsh10
             try simp only [Act.put, List.getElem_toArray, List.getElem_cons_zero, List.getElem_cons_succ, List.setIfInBounds_toArray, List.set_cons_zero, List.set_cons_succ]
             refine anyU_oneS (i := 11) (v := ?_) (by kernel_rfl) rfl (YieldsS.of_if (Or.inl ⟨by rfl, ?_⟩)) (by assumption) ?_
             rotate_left
             · (intro wS hSw; (try dsimp only at hSw); (first | (go_simp; done) | (go_simp; with_reducible rfl)))
             intro hsh12
             clear hsh11
             try simp only [Act.put, List.getElem_toArray, List.getElem_cons_zero, List.getElem_cons_succ, List.setIfInBounds_toArray, List.set_cons_zero, List.set_cons_succ]
             refine anyU_tk 60 (i := 12) (v := ?_) rfl (fun _ _ _ h => h) (YieldsS.of_if (Or.inl ⟨by rfl, ?_⟩)) ?_
             rotate_left
             · (intro wS hSw; (try dsimp only at hSw); (first | (go_simp; done) | (go_simp; with_reducible rfl)))
             intro hsh13
             clear hsh12
             try simp only [Act.put, List.getElem_toArray, List.getElem_cons_zero, List.getElem_cons_succ, List.setIfInBounds_toArray, List.set_cons_zero, List.set_cons_succ]
             refine anyU_tk 60 (i := 14) (v := ?_) rfl (fun _ _ _ h => h) (YieldsS.of_if (Or.inl ⟨by rfl, ?_⟩)) ?_
             rotate_left
             · (intro wS hSw; (try dsimp only at hSw); (first | (go_simp; done) | (go_simp; with_reducible rfl)))
             intro hsh14
             clear hsh13
             try simp only [Act.put, List.getElem_toArray, List.getElem_cons_zero, List.getElem_cons_succ, List.setIfInBounds_toArray, List.set_cons_zero, List.set_cons_succ]
             refine anyU_call (i := 13) 16 #[.pointer (some ⟨pa, 0, none⟩)] (.int .i64 n2) (DD w.heap.size wq pa pb S2 S2) (by kernel_rfl) (by kernel_rfl) rfl (by rfl) (fun wS _ _ => by first | rfl | (go_simp; done)) (fun wS hSw hDw => ?_) DD.still (by assumption) ?_
             · (refine (hDw.1.clock).mono ?_; rw [HC2.out]; rintro e wn ⟨rfl, rfl⟩; exact ⟨rfl, hSw, hDw⟩)
             intro hsh15
             clear hsh14
             try simp only [Act.put, List.getElem_toArray, List.getElem_cons_zero, List.getElem_cons_succ, List.setIfInBounds_toArray, List.set_cons_zero, List.set_cons_succ]
             refine anyU_call (i := 15) 16 #[.pointer (some ⟨pb, 0, none⟩)] (.int .i64 n2) (DD w.heap.size wq pa pb S2 S2) (by kernel_rfl) (by kernel_rfl) rfl (by rfl) (fun wS _ _ => by first | rfl | (go_simp; done)) (fun wS hSw hDw => ?_) DD.still (by assumption) ?_
             · (refine (hDw.1.swap.clock).mono ?_; rw [HC2.out]; rintro e wn ⟨rfl, rfl⟩; exact ⟨rfl, hSw, hDw⟩)
             intro hsh16
             clear hsh15
             try simp only [Act.put, List.getElem_toArray, List.getElem_cons_zero, List.getElem_cons_succ, List.setIfInBounds_toArray, List.set_cons_zero, List.set_cons_succ]
             refine anyU_oneS (i := 16) (v := ?_) (by kernel_rfl) rfl (YieldsS.of_if (Or.inl ⟨by rfl, ?_⟩)) (by assumption) ?_
             rotate_left
             · (intro wS hSw; (try dsimp only at hSw); (first | (go_simp; done) | (go_simp; with_reducible rfl)))
             intro hsh17
             clear hsh16
             try simp only [Act.put, List.getElem_toArray, List.getElem_cons_zero, List.getElem_cons_succ, List.setIfInBounds_toArray, List.set_cons_zero, List.set_cons_succ]
             refine anyU_oneS (i := 17) (v := ?_) (by kernel_rfl) rfl (YieldsS.of_if (Or.inl ⟨by rfl, ?_⟩)) (by assumption) ?_
             rotate_left
             · (intro wS hSw; (try dsimp only at hSw); (first | (go_simp; done) | (go_simp; with_reducible rfl)))
             intro hsh18
             clear hsh17
             try simp only [Act.put, List.getElem_toArray, List.getElem_cons_zero, List.getElem_cons_succ, List.setIfInBounds_toArray, List.set_cons_zero, List.set_cons_succ]
             refine anyU_oneS (i := 18) (v := ?_) (by kernel_rfl) rfl (YieldsS.of_if (Or.inl ⟨by rfl, ?_⟩)) (by assumption) ?_
             rotate_left
             · (intro wS hSw; (try dsimp only at hSw); (first | (go_simp; done) | (go_simp; with_reducible rfl)))
             intro hsh19
             clear hsh18
             try simp only [Act.put, List.getElem_toArray, List.getElem_cons_zero, List.getElem_cons_succ, List.setIfInBounds_toArray, List.set_cons_zero, List.set_cons_succ]
             refine anyU_tk 60 (i := 19) (v := ?_) rfl (fun _ _ _ h => h) (YieldsS.of_if (Or.inl ⟨by rfl, ?_⟩)) ?_
             rotate_left
             · (intro wS hSw; (try dsimp only at hSw); (first | (go_simp; done) | (go_simp; with_reducible rfl)))
             intro hsh20
             clear hsh19
             try simp only [Act.put, List.getElem_toArray, List.getElem_cons_zero, List.getElem_cons_succ, List.setIfInBounds_toArray, List.set_cons_zero, List.set_cons_succ]
             refine anyU_tk 60 (i := 21) (v := ?_) rfl (fun _ _ _ h => h) (YieldsS.of_if (Or.inl ⟨by rfl, ?_⟩)) ?_
             rotate_left
             · (intro wS hSw; (try dsimp only at hSw); (first | (go_simp; done) | (go_simp; with_reducible rfl)))
             intro hsh21
             clear hsh20
             try simp only [Act.put, List.getElem_toArray, List.getElem_cons_zero, List.getElem_cons_succ, List.setIfInBounds_toArray, List.set_cons_zero, List.set_cons_succ]
             refine anyU_call (i := 20) 16 #[.pointer (some ⟨pa, 0, none⟩)] (.int .i64 n2) (DD w.heap.size wq pa pb S2 S2) (by kernel_rfl) (by kernel_rfl) rfl (by rfl) (fun wS _ _ => by first | rfl | (go_simp; done)) (fun wS hSw hDw => ?_) DD.still (by assumption) ?_
             · (refine (hDw.1.clock).mono ?_; rw [HC2.out]; rintro e wn ⟨rfl, rfl⟩; exact ⟨rfl, hSw, hDw⟩)
             intro hsh22
             clear hsh21
             try simp only [Act.put, List.getElem_toArray, List.getElem_cons_zero, List.getElem_cons_succ, List.setIfInBounds_toArray, List.set_cons_zero, List.set_cons_succ]
             refine anyU_one (i := 22) (v := ?_) (by kernel_rfl) rfl (YieldsS.of_if (Or.inl ⟨by rfl, ?_⟩)) ?_
             rotate_left
             · (intro wS hSw; (try dsimp only at hSw); (first | (go_simp; done) | (go_simp; with_reducible rfl)))
             try simp only [Act.put, List.getElem_toArray, List.getElem_cons_zero, List.getElem_cons_succ, List.setIfInBounds_toArray, List.set_cons_zero, List.set_cons_succ]
             refine anyU_one (i := 23) (v := ?_) (by kernel_rfl) rfl (YieldsS.of_if (Or.inl ⟨by rfl, ?_⟩)) ?_
             rotate_left
             · (intro wS hSw; (try dsimp only at hSw); (first | (go_simp; done) | (go_simp; with_reducible rfl)))
             try simp only [Act.put, List.getElem_toArray, List.getElem_cons_zero, List.getElem_cons_succ, List.setIfInBounds_toArray, List.set_cons_zero, List.set_cons_succ]
             refine anyU_done (by kernel_rfl) (fun w7 hS7 hD7 => ?_) _
             have HT7 := Lib.hid hD7.1
             have HB7 := Lib.hid (HBQ.out.trans hD7.2.1)
             clear hS7 hD7
             refine NoPanic.normal ?_
             go_wp2_with fail
             go_roundw
             case rel => exact ⟨k + 1, S2, by omega, by omega, by rw [HC2.out], by go_num, HK2.out, HT7.out, HB7.out⟩
             case measure => simp [intOf]; omega
           · have j4 : ¬ ((k : Int) < (len2 : Int) ∧ la ≤ 0) := by omega
             by_cases hg1 : k < len2
             · have j5 : (k : Int) < (len2 : Int) := by omega
               have j6 : ¬ la ≤ 0 := fun h => hg ⟨hg1, h⟩
               clear hg j4
               go_upto_region 16 with fail
               obtain ⟨wq, hwq⟩ : ∃ W, w5 = W := ⟨_, rfl⟩
               have hDq : DD w.heap.size wq pa pb S1 S1 wq := by rw [← hwq]; exact ⟨HT5.out, Below.refl _ _, HB5.out.size⟩
               have hSq : Blk wq gb 35 #[.int .i64 la, .int .u8 kd, .int .i64 bb, .int .i64 cc, .int .i64 dd] := by rw [← hwq]; exact HBX.out
               have HBQ := Lib.hid (show Below w.heap.size w wq by rw [← hwq]; exact HB5.out)
               rw [hwq]
               have HDQ := Lib.hid hDq
               have HSQ := Lib.hid hSq
               clear hDq hSq hwq HT5 HB5 HBX
               refine wp_region_noPanic ?_
               refine wp_region_UD (fun w' => Blk w' gb 35 #[.int .i64 la, .int .u8 kd, .int .i64 bb, .int .i64 cc, .int .i64 dd]) (DD w.heap.size wq pa pb S1 S1) [4, 9, 13, 15, 20] [] (by kernel_rfl) (HSQ.out.drew_) (HDQ.out.drew_) DD.still ?_
               intro hsh0
               refine anyU_tk 60 (i := 0) (v := ?_) rfl (fun _ _ _ h => h) (YieldsS.of_if (Or.inl ⟨by rfl, ?_⟩)) ?_
               rotate_left
               · (intro wS hSw; (try dsimp only at hSw); (first | (go_simp; done) | (go_simp; with_reducible rfl)))
               intro hsh1
               clear hsh0
               try simp only [Act.put, List.getElem_toArray, List.getElem_cons_zero, List.getElem_cons_succ, List.setIfInBounds_toArray, List.set_cons_zero, List.set_cons_succ]
               refine anyU_tk 60 (i := 1) (v := ?_) rfl (fun _ _ _ h => h) (YieldsS.of_if (Or.inl ⟨by rfl, ?_⟩)) ?_
               rotate_left
               · (intro wS hSw; (try dsimp only at hSw); (first | (go_simp; done) | (go_simp; with_reducible rfl)))
               intro hsh2
               clear hsh1
               try simp only [Act.put, List.getElem_toArray, List.getElem_cons_zero, List.getElem_cons_succ, List.setIfInBounds_toArray, List.set_cons_zero, List.set_cons_succ]
               refine anyU_tk 60 (i := 2) (v := ?_) rfl (fun _ _ _ h => h) (YieldsS.of_if (Or.inl ⟨by rfl, ?_⟩)) ?_
               rotate_left
               · (intro wS hSw; (try dsimp only at hSw); (first | (go_simp; done) | (go_simp; with_reducible rfl)))
               intro hsh3
               clear hsh2
               try simp only [Act.put, List.getElem_toArray, List.getElem_cons_zero, List.getElem_cons_succ, List.setIfInBounds_toArray, List.set_cons_zero, List.set_cons_succ]
               refine anyU_tk 60 (i := 3) (v := ?_) rfl (fun _ _ _ h => h) (YieldsS.of_if (Or.inl ⟨by rfl, ?_⟩)) ?_
               rotate_left
               · (intro wS hSw; (try dsimp only at hSw); have z1 : wS.cell? ⟨gb, 1, none⟩ = some (.int .u8 kd) := hSw.val (i := 1) rfl; have z2 : wS.cell? ⟨gb, 2, none⟩ = some (.int .i64 bb) := hSw.val (i := 2) rfl; have z3 : wS.cell? ⟨gb, 3, none⟩ = some (.int .i64 cc) := hSw.val (i := 3) rfl; have z4 : wS.cell? ⟨gb, 4, none⟩ = some (.int .i64 dd) := hSw.val (i := 4) rfl; (first | (go_simp; done) | (go_simp; with_reducible rfl)))
               intro hsh4
               clear hsh3
               try simp only [Act.put, List.getElem_toArray, List.getElem_cons_zero, List.getElem_cons_succ, List.setIfInBounds_toArray, List.set_cons_zero, List.set_cons_succ]
               refine anyU_tk 60 (i := 5) (v := ?_) rfl (fun _ _ _ h => h) (YieldsS.of_if (Or.inl ⟨by rfl, ?_⟩)) ?_
               rotate_left
               · (intro wS hSw; (try dsimp only at hSw); (first | (go_simp; done) | (go_simp; with_reducible rfl)))
               intro hsh5
               clear hsh4
               try simp only [Act.put, List.getElem_toArray, List.getElem_cons_zero, List.getElem_cons_succ, List.setIfInBounds_toArray, List.set_cons_zero, List.set_cons_succ]
               refine anyU_tk 60 (i := 6) (v := ?_) rfl (fun _ _ _ h => h) (YieldsS.of_if (Or.inl ⟨by rfl, ?_⟩)) ?_
               rotate_left
               · (intro wS hSw; (try dsimp only at hSw); (first | (go_simp; done) | (go_simp; with_reducible rfl)))
               intro hsh6
               clear hsh5
               try simp only [Act.put, List.getElem_toArray, List.getElem_cons_zero, List.getElem_cons_succ, List.setIfInBounds_toArray, List.set_cons_zero, List.set_cons_succ]
               refine anyU_tk 60 (i := 7) (v := ?_) rfl (fun _ _ _ h => h) (YieldsS.of_if (Or.inl ⟨by rfl, ?_⟩)) ?_
               rotate_left
               · (intro wS hSw; (try dsimp only at hSw); (first | (go_simp; done) | (go_simp; with_reducible rfl)))
               intro hsh7
               clear hsh6
               try simp only [Act.put, List.getElem_toArray, List.getElem_cons_zero, List.getElem_cons_succ, List.setIfInBounds_toArray, List.set_cons_zero, List.set_cons_succ]
               refine anyU_tk 60 (i := 8) (v := ?_) rfl (fun _ _ _ h => h) (YieldsS.of_if (Or.inl ⟨by rfl, ?_⟩)) ?_
               rotate_left
               · (intro wS hSw; (try dsimp only at hSw); have z1 : wS.cell? ⟨gb, 1, none⟩ = some (.int .u8 kd) := hSw.val (i := 1) rfl; have z2 : wS.cell? ⟨gb, 2, none⟩ = some (.int .i64 bb) := hSw.val (i := 2) rfl; have z3 : wS.cell? ⟨gb, 3, none⟩ = some (.int .i64 cc) := hSw.val (i := 3) rfl; have z4 : wS.cell? ⟨gb, 4, none⟩ = some (.int .i64 dd) := hSw.val (i := 4) rfl; (first | (go_simp; done) | (go_simp; with_reducible rfl)))
               intro hsh8
               clear hsh7
               try simp only [Act.put, List.getElem_toArray, List.getElem_cons_zero, List.getElem_cons_succ, List.setIfInBounds_toArray, List.set_cons_zero, List.set_cons_succ]
               refine anyU_call (i := 4) 15 #[.pointer (some ⟨pa, 0, none⟩), .int .i64 n2, .agg #[.int .u8 kd, .int .i64 bb, .int .i64 cc, .int .i64 dd]] (.agg #[.int .u8 r0, .int .u64 r1, .int .i64 r2, .int .i64 r3, .int .i64 r4]) (DD w.heap.size wq pa pb S2 S1) (by kernel_rfl) (by kernel_rfl) rfl (by rfl) (fun wS _ _ => by first | rfl | (go_simp; done)) (fun wS hSw hDw => ?_) DD.still (by assumption) ?_
               · (refine (hDw.1.do_ hDw.size HN8.out HK8.out HQO.out.k.1 HQO.out.b HQO.out.c HQO.out.d).mono ?_; rw [HV.out, HS2.out]; rintro e wn ⟨he, ht, hb, hx⟩; exact ⟨he, hx gb _ _ (by decide) hSw, hDw.next ht hb⟩)
               intro hsh9
               clear hsh8
               try simp only [Act.put, List.getElem_toArray, List.getElem_cons_zero, List.getElem_cons_succ, List.setIfInBounds_toArray, List.set_cons_zero, List.set_cons_succ]
               refine anyU_call (i := 9) 15 #[.pointer (some ⟨pb, 0, none⟩), .int .i64 n2, .agg #[.int .u8 kd, .int .i64 bb, .int .i64 cc, .int .i64 dd]] (.agg #[.int .u8 r0, .int .u64 r1, .int .i64 r2, .int .i64 r3, .int .i64 r4]) (DD w.heap.size wq pa pb S2 S2) (by kernel_rfl) (by kernel_rfl) rfl (by rfl) (fun wS _ _ => by first | rfl | (go_simp; done)) (fun wS hSw hDw => ?_) DD.still (by assumption) ?_
               · (refine (hDw.1.swap.do_ hDw.size HN8.out HK8.out HQO.out.k.1 HQO.out.b HQO.out.c HQO.out.d).mono ?_; rw [HV.out, HS2.out]; rintro e wn ⟨he, ht, hb, hx⟩; exact ⟨he, hx gb _ _ (by decide) hSw, hDw.next ht.swap hb⟩)
               intro hsh10
               clear hsh9
               try simp only [Act.put, List.getElem_toArray, List.getElem_cons_zero, List.getElem_cons_succ, List.setIfInBounds_toArray, List.set_cons_zero, List.set_cons_succ]
               refine anyU_oneS (i := 10) (v := ?_) (by kernel_rfl) rfl (YieldsS.of_if (Or.inl ⟨by rfl, ?_⟩)) (by assumption) ?_
               rotate_left
               · (intro wS hSw; (try dsimp only at hSw); (first | (go_simp; done) | (go_simp; with_reducible rfl)))
               intro hsh11
               clear hsh10
               try simp only [Act.put, List.getElem_toArray, List.getElem_cons_zero, List.getElem_cons_succ, List.setIfInBounds_toArray, List.set_cons_zero, List.set_cons_succ]
               refine anyU_oneS (i := 11) (v := ?_) (by kernel_rfl) rfl (YieldsS.of_if (Or.inl ⟨by rfl, ?_⟩)) (by assumption) ?_
               rotate_left
               · (intro wS hSw; (try dsimp only at hSw); (first | (go_simp; done) | (go_simp; with_reducible rfl)))
               intro hsh12
               clear hsh11
               try simp only [Act.put, List.getElem_toArray, List.getElem_cons_zero, List.getElem_cons_succ, List.setIfInBounds_toArray, List.set_cons_zero, List.set_cons_succ]
               refine anyU_tk 60 (i := 12) (v := ?_) rfl (fun _ _ _ h => h) (YieldsS.of_if (Or.inl ⟨by rfl, ?_⟩)) ?_
               rotate_left
               · (intro wS hSw; (try dsimp only at hSw); (first | (go_simp; done) | (go_simp; with_reducible rfl)))
               intro hsh13
               clear hsh12
               try simp only [Act.put, List.getElem_toArray, List.getElem_cons_zero, List.getElem_cons_succ, List.setIfInBounds_toArray, List.set_cons_zero, List.set_cons_succ]
               refine anyU_tk 60 (i := 14) (v := ?_) rfl (fun _ _ _ h => h) (YieldsS.of_if (Or.inl ⟨by rfl, ?_⟩)) ?_
               rotate_left
               · (intro wS hSw; (try dsimp only at hSw); (first | (go_simp; done) | (go_simp; with_reducible rfl)))
               intro hsh14
               clear hsh13
               try simp only [Act.put, List.getElem_toArray, List.getElem_cons_zero, List.getElem_cons_succ, List.setIfInBounds_toArray, List.set_cons_zero, List.set_cons_succ]
               refine anyU_call (i := 13) 16 #[.pointer (some ⟨pa, 0, none⟩)] (.int .i64 n2) (DD w.heap.size wq pa pb S2 S2) (by kernel_rfl) (by kernel_rfl) rfl (by rfl) (fun wS _ _ => by first | rfl | (go_simp; done)) (fun wS hSw hDw => ?_) DD.still (by assumption) ?_
               · (refine (hDw.1.clock).mono ?_; rw [HC2.out]; rintro e wn ⟨rfl, rfl⟩; exact ⟨rfl, hSw, hDw⟩)
               intro hsh15
               clear hsh14
               try simp only [Act.put, List.getElem_toArray, List.getElem_cons_zero, List.getElem_cons_succ, List.setIfInBounds_toArray, List.set_cons_zero, List.set_cons_succ]
               refine anyU_call (i := 15) 16 #[.pointer (some ⟨pb, 0, none⟩)] (.int .i64 n2) (DD w.heap.size wq pa pb S2 S2) (by kernel_rfl) (by kernel_rfl) rfl (by rfl) (fun wS _ _ => by first | rfl | (go_simp; done)) (fun wS hSw hDw => ?_) DD.still (by assumption) ?_
               · (refine (hDw.1.swap.clock).mono ?_; rw [HC2.out]; rintro e wn ⟨rfl, rfl⟩; exact ⟨rfl, hSw, hDw⟩)
               intro hsh16
               clear hsh15
               try simp only [Act.put, List.getElem_toArray, List.getElem_cons_zero, List.getElem_cons_succ, List.setIfInBounds_toArray, List.set_cons_zero, List.set_cons_succ]
               refine anyU_oneS (i := 16) (v := ?_) (by kernel_rfl) rfl (YieldsS.of_if (Or.inl ⟨by rfl, ?_⟩)) (by assumption) ?_
               rotate_left
               · (intro wS hSw; (try dsimp only at hSw); (first | (go_simp; done) | (go_simp; with_reducible rfl)))
               intro hsh17
               clear hsh16
               try simp only [Act.put, List.getElem_toArray, List.getElem_cons_zero, List.getElem_cons_succ, List.setIfInBounds_toArray, List.set_cons_zero, List.set_cons_succ]
               refine anyU_oneS (i := 17) (v := ?_) (by kernel_rfl) rfl (YieldsS.of_if (Or.inl ⟨by rfl, ?_⟩)) (by assumption) ?_
               rotate_left
               · (intro wS hSw; (try dsimp only at hSw); (first | (go_simp; done) | (go_simp; with_reducible rfl)))
               intro hsh18
               clear hsh17
               try simp only [Act.put, List.getElem_toArray, List.getElem_cons_zero, List.getElem_cons_succ, List.setIfInBounds_toArray, List.set_cons_zero, List.set_cons_succ]
               refine anyU_oneS (i := 18) (v := ?_) (by kernel_rfl) rfl (YieldsS.of_if (Or.inl ⟨by rfl, ?_⟩)) (by assumption) ?_
               rotate_left
               · (intro wS hSw; (try dsimp only at hSw); (first | (go_simp; done) | (go_simp; with_reducible rfl)))
               intro hsh19
               clear hsh18
               try simp only [Act.put, List.getElem_toArray, List.getElem_cons_zero, List.getElem_cons_succ, List.setIfInBounds_toArray, List.set_cons_zero, List.set_cons_succ]
               refine anyU_tk 60 (i := 19) (v := ?_) rfl (fun _ _ _ h => h) (YieldsS.of_if (Or.inl ⟨by rfl, ?_⟩)) ?_
               rotate_left
               · (intro wS hSw; (try dsimp only at hSw); (first | (go_simp; done) | (go_simp; with_reducible rfl)))
               intro hsh20
               clear hsh19
               try simp only [Act.put, List.getElem_toArray, List.getElem_cons_zero, List.getElem_cons_succ, List.setIfInBounds_toArray, List.set_cons_zero, List.set_cons_succ]
               refine anyU_tk 60 (i := 21) (v := ?_) rfl (fun _ _ _ h => h) (YieldsS.of_if (Or.inl ⟨by rfl, ?_⟩)) ?_
               rotate_left
               · (intro wS hSw; (try dsimp only at hSw); (first | (go_simp; done) | (go_simp; with_reducible rfl)))
               intro hsh21
               clear hsh20
               try simp only [Act.put, List.getElem_toArray, List.getElem_cons_zero, List.getElem_cons_succ, List.setIfInBounds_toArray, List.set_cons_zero, List.set_cons_succ]
               refine anyU_call (i := 20) 16 #[.pointer (some ⟨pa, 0, none⟩)] (.int .i64 n2) (DD w.heap.size wq pa pb S2 S2) (by kernel_rfl) (by kernel_rfl) rfl (by rfl) (fun wS _ _ => by first | rfl | (go_simp; done)) (fun wS hSw hDw => ?_) DD.still (by assumption) ?_
               · (refine (hDw.1.clock).mono ?_; rw [HC2.out]; rintro e wn ⟨rfl, rfl⟩; exact ⟨rfl, hSw, hDw⟩)
               intro hsh22
               clear hsh21
               try simp only [Act.put, List.getElem_toArray, List.getElem_cons_zero, List.getElem_cons_succ, List.setIfInBounds_toArray, List.set_cons_zero, List.set_cons_succ]
               refine anyU_one (i := 22) (v := ?_) (by kernel_rfl) rfl (YieldsS.of_if (Or.inl ⟨by rfl, ?_⟩)) ?_
               rotate_left
               · (intro wS hSw; (try dsimp only at hSw); (first | (go_simp; done) | (go_simp; with_reducible rfl)))
               try simp only [Act.put, List.getElem_toArray, List.getElem_cons_zero, List.getElem_cons_succ, List.setIfInBounds_toArray, List.set_cons_zero, List.set_cons_succ]
               refine anyU_one (i := 23) (v := ?_) (by kernel_rfl) rfl (YieldsS.of_if (Or.inl ⟨by rfl, ?_⟩)) ?_
               rotate_left
               · (intro wS hSw; (try dsimp only at hSw); (first | (go_simp; done) | (go_simp; with_reducible rfl)))
               try simp only [Act.put, List.getElem_toArray, List.getElem_cons_zero, List.getElem_cons_succ, List.setIfInBounds_toArray, List.set_cons_zero, List.set_cons_succ]
               refine anyU_done (by kernel_rfl) (fun w7 hS7 hD7 => ?_) _
               have HT7 := Lib.hid hD7.1
               have HB7 := Lib.hid (HBQ.out.trans hD7.2.1)
               clear hS7 hD7
               refine NoPanic.normal ?_
               go_wp2_with fail
               go_roundw
               case rel => exact ⟨k + 1, S2, by omega, by omega, by rw [HC2.out], by go_num, HK2.out, HT7.out, HB7.out⟩
               case measure => simp [intOf]; omega
             · have j5 : ¬ (k : Int) < (len2 : Int) := by omega
               clear hg j4
               go_upto_region 16 with fail
               obtain ⟨wq, hwq⟩ : ∃ W, w5 = W := ⟨_, rfl⟩
               have hDq : DD w.heap.size wq pa pb S1 S1 wq := by rw [← hwq]; exact ⟨HT5.out, Below.refl _ _, HB5.out.size⟩
               have hSq : Blk wq gb 35 #[.int .i64 la, .int .u8 kd, .int .i64 bb, .int .i64 cc, .int .i64 dd] := by rw [← hwq]; exact HBX.out
               have HBQ := Lib.hid (show Below w.heap.size w wq by rw [← hwq]; exact HB5.out)
               rw [hwq]
               have HDQ := Lib.hid hDq
               have HSQ := Lib.hid hSq
               clear hDq hSq hwq HT5 HB5 HBX
               refine wp_region_noPanic ?_
               refine wp_region_UD (fun w' => Blk w' gb 35 #[.int .i64 la, .int .u8 kd, .int .i64 bb, .int .i64 cc, .int .i64 dd]) (DD w.heap.size wq pa pb S1 S1) [4, 9, 13, 15, 20] [] (by kernel_rfl) (HSQ.out.drew_) (HDQ.out.drew_) DD.still ?_
               intro hsh0
               refine anyU_tk 60 (i := 0) (v := ?_) rfl (fun _ _ _ h => h) (YieldsS.of_if (Or.inl ⟨by rfl, ?_⟩)) ?_
               rotate_left
               · (intro wS hSw; (try dsimp only at hSw); (first | (go_simp; done) | (go_simp; with_reducible rfl)))
               intro hsh1
               clear hsh0
               try simp only [Act.put, List.getElem_toArray, List.getElem_cons_zero, List.getElem_cons_succ, List.setIfInBounds_toArray, List.set_cons_zero, List.set_cons_succ]
               refine anyU_tk 60 (i := 1) (v := ?_) rfl (fun _ _ _ h => h) (YieldsS.of_if (Or.inl ⟨by rfl, ?_⟩)) ?_
               rotate_left
               · (intro wS hSw; (try dsimp only at hSw); (first | (go_simp; done) | (go_simp; with_reducible rfl)))
               intro hsh2
               clear hsh1
               try simp only [Act.put, List.getElem_toArray, List.getElem_cons_zero, List.getElem_cons_succ, List.setIfInBounds_toArray, List.set_cons_zero, List.set_cons_succ]
               refine anyU_tk 60 (i := 2) (v := ?_) rfl (fun _ _ _ h => h) (YieldsS.of_if (Or.inl ⟨by rfl, ?_⟩)) ?_
               rotate_left
               · (intro wS hSw; (try dsimp only at hSw); (first | (go_simp; done) | (go_simp; with_reducible rfl)))
               intro hsh3
               clear hsh2
               try simp only [Act.put, List.getElem_toArray, List.getElem_cons_zero, List.getElem_cons_succ, List.setIfInBounds_toArray, List.set_cons_zero, List.set_cons_succ]
               refine anyU_tk 60 (i := 3) (v := ?_) rfl (fun _ _ _ h => h) (YieldsS.of_if (Or.inl ⟨by rfl, ?_⟩)) ?_
               rotate_left
               · (intro wS hSw; (try dsimp only at hSw); have z1 : wS.cell? ⟨gb, 1, none⟩ = some (.int .u8 kd) := hSw.val (i := 1) rfl; have z2 : wS.cell? ⟨gb, 2, none⟩ = some (.int .i64 bb) := hSw.val (i := 2) rfl; have z3 : wS.cell? ⟨gb, 3, none⟩ = some (.int .i64 cc) := hSw.val (i := 3) rfl; have z4 : wS.cell? ⟨gb, 4, none⟩ = some (.int .i64 dd) := hSw.val (i := 4) rfl; (first | (go_simp; done) | (go_simp; with_reducible rfl)))
               intro hsh4
               clear hsh3
               try simp only [Act.put, List.getElem_toArray, List.getElem_cons_zero, List.getElem_cons_succ, List.setIfInBounds_toArray, List.set_cons_zero, List.set_cons_succ]
               refine anyU_tk 60 (i := 5) (v := ?_) rfl (fun _ _ _ h => h) (YieldsS.of_if (Or.inl ⟨by rfl, ?_⟩)) ?_
               rotate_left
               · (intro wS hSw; (try dsimp only at hSw); (first | (go_simp; done) | (go_simp; with_reducible rfl)))
               intro hsh5
               clear hsh4
               try simp only [Act.put, List.getElem_toArray, List.getElem_cons_zero, List.getElem_cons_succ, List.setIfInBounds_toArray, List.set_cons_zero, List.set_cons_succ]
               refine anyU_tk 60 (i := 6) (v := ?_) rfl (fun _ _ _ h => h) (YieldsS.of_if (Or.inl ⟨by rfl, ?_⟩)) ?_
               rotate_left
               · (intro wS hSw; (try dsimp only at hSw); (first | (go_simp; done) | (go_simp; with_reducible rfl)))
               intro hsh6
               clear hsh5
               try simp only [Act.put, List.getElem_toArray, List.getElem_cons_zero, List.getElem_cons_succ, List.setIfInBounds_toArray, List.set_cons_zero, List.set_cons_succ]
               refine anyU_tk 60 (i := 7) (v := ?_) rfl (fun _ _ _ h => h) (YieldsS.of_if (Or.inl ⟨by rfl, ?_⟩)) ?_
               rotate_left
               · (intro wS hSw; (try dsimp only at hSw); (first | (go_simp; done) | (go_simp; with_reducible rfl)))
               intro hsh7
               clear hsh6
               try simp only [Act.put, List.getElem_toArray, List.getElem_cons_zero, List.getElem_cons_succ, List.setIfInBounds_toArray, List.set_cons_zero, List.set_cons_succ]
               refine anyU_tk 60 (i := 8) (v := ?_) rfl (fun _ _ _ h => h) (YieldsS.of_if (Or.inl ⟨by rfl, ?_⟩)) ?_
               rotate_left
               · (intro wS hSw; (try dsimp only at hSw); have z1 : wS.cell? ⟨gb, 1, none⟩ = some (.int .u8 kd) := hSw.val (i := 1) rfl; have z2 : wS.cell? ⟨gb, 2, none⟩ = some (.int .i64 bb) := hSw.val (i := 2) rfl; have z3 : wS.cell? ⟨gb, 3, none⟩ = some (.int .i64 cc) := hSw.val (i := 3) rfl; have z4 : wS.cell? ⟨gb, 4, none⟩ = some (.int .i64 dd) := hSw.val (i := 4) rfl; (first | (go_simp; done) | (go_simp; with_reducible rfl)))
               intro hsh8
               clear hsh7
               try simp only [Act.put, List.getElem_toArray, List.getElem_cons_zero, List.getElem_cons_succ, List.setIfInBounds_toArray, List.set_cons_zero, List.set_cons_succ]
               refine anyU_call (i := 4) 15 #[.pointer (some ⟨pa, 0, none⟩), .int .i64 n2, .agg #[.int .u8 kd, .int .i64 bb, .int .i64 cc, .int .i64 dd]] (.agg #[.int .u8 r0, .int .u64 r1, .int .i64 r2, .int .i64 r3, .int .i64 r4]) (DD w.heap.size wq pa pb S2 S1) (by kernel_rfl) (by kernel_rfl) rfl (by rfl) (fun wS _ _ => by first | rfl | (go_simp; done)) (fun wS hSw hDw => ?_) DD.still (by assumption) ?_
               · (refine (hDw.1.do_ hDw.size HN8.out HK8.out HQO.out.k.1 HQO.out.b HQO.out.c HQO.out.d).mono ?_; rw [HV.out, HS2.out]; rintro e wn ⟨he, ht, hb, hx⟩; exact ⟨he, hx gb _ _ (by decide) hSw, hDw.next ht hb⟩)
               intro hsh9
               clear hsh8
               try simp only [Act.put, List.getElem_toArray, List.getElem_cons_zero, List.getElem_cons_succ, List.setIfInBounds_toArray, List.set_cons_zero, List.set_cons_succ]
               refine anyU_call (i := 9) 15 #[.pointer (some ⟨pb, 0, none⟩), .int .i64 n2, .agg #[.int .u8 kd, .int .i64 bb, .int .i64 cc, .int .i64 dd]] (.agg #[.int .u8 r0, .int .u64 r1, .int .i64 r2, .int .i64 r3, .int .i64 r4]) (DD w.heap.size wq pa pb S2 S2) (by kernel_rfl) (by kernel_rfl) rfl (by rfl) (fun wS _ _ => by first | rfl | (go_simp; done)) (fun wS hSw hDw => ?_) DD.still (by assumption) ?_
               · (refine (hDw.1.swap.do_ hDw.size HN8.out HK8.out HQO.out.k.1 HQO.out.b HQO.out.c HQO.out.d).mono ?_; rw [HV.out, HS2.out]; rintro e wn ⟨he, ht, hb, hx⟩; exact ⟨he, hx gb _ _ (by decide) hSw, hDw.next ht.swap hb⟩)
               intro hsh10
               clear hsh9
               try simp only [Act.put, List.getElem_toArray, List.getElem_cons_zero, List.getElem_cons_succ, List.setIfInBounds_toArray, List.set_cons_zero, List.set_cons_succ]
               refine anyU_oneS (i := 10) (v := ?_) (by kernel_rfl) rfl (YieldsS.of_if (Or.inl ⟨by rfl, ?_⟩)) (by assumption) ?_
               rotate_left
               · (intro wS hSw; (try dsimp only at hSw); (first | (go_simp; done) | (go_simp; with_reducible rfl)))
               intro hsh11
               clear hsh10
               try simp only [Act.put, List.getElem_toArray, List.getElem_cons_zero, List.getElem_cons_succ, List.setIfInBounds_toArray, List.set_cons_zero, List.set_cons_succ]
               refine anyU_oneS (i := 11) (v := ?_) (by kernel_rfl) rfl (YieldsS.of_if (Or.inl ⟨by rfl, ?_⟩)) (by assumption) ?_
               rotate_left
               · (intro wS hSw; (try dsimp only at hSw); (first | (go_simp; done) | (go_simp; with_reducible rfl)))
               intro hsh12
               clear hsh11
               try simp only [Act.put, List.getElem_toArray, List.getElem_cons_zero, List.getElem_cons_succ, List.setIfInBounds_toArray, List.set_cons_zero, List.set_cons_succ]
               refine anyU_tk 60 (i := 12) (v := ?_) rfl (fun _ _ _ h => h) (YieldsS.of_if (Or.inl ⟨by rfl, ?_⟩)) ?_
               rotate_left
               · (intro wS hSw; (try dsimp only at hSw); (first | (go_simp; done) | (go_simp; with_reducible rfl)))
               intro hsh13
               clear hsh12
               try simp only [Act.put, List.getElem_toArray, List.getElem_cons_zero, List.getElem_cons_succ, List.setIfInBounds_toArray, List.set_cons_zero, List.set_cons_succ]
               refine anyU_tk 60 (i := 14) (v := ?_) rfl (fun _ _ _ h => h) (YieldsS.of_if (Or.inl ⟨by rfl, ?_⟩)) ?_
               rotate_left
               · (intro wS hSw; (try dsimp only at hSw); (first | (go_simp; done) | (go_simp; with_reducible rfl)))
               intro hsh14
               clear hsh13
               try simp only [Act.put, List.getElem_toArray, List.getElem_cons_zero, List.getElem_cons_succ, List.setIfInBounds_toArray, List.set_cons_zero, List.set_cons_succ]
               refine anyU_call (i := 13) 16 #[.pointer (some ⟨pa, 0, none⟩)] (.int .i64 n2) (DD w.heap.size wq pa pb S2 S2) (by kernel_rfl) (by kernel_rfl) rfl (by rfl) (fun wS _ _ => by first | rfl | (go_simp; done)) (fun wS hSw hDw => ?_) DD.still (by assumption) ?_
               · (refine (hDw.1.clock).mono ?_; rw [HC2.out]; rintro e wn ⟨rfl, rfl⟩; exact ⟨rfl, hSw, hDw⟩)
               intro hsh15
               clear hsh14
               try simp only [Act.put, List.getElem_toArray, List.getElem_cons_zero, List.getElem_cons_succ, List.setIfInBounds_toArray, List.set_cons_zero, List.set_cons_succ]
               refine anyU_call (i := 15) 16 #[.pointer (some ⟨pb, 0, none⟩)] (.int .i64 n2) (DD w.heap.size wq pa pb S2 S2) (by kernel_rfl) (by kernel_rfl) rfl (by rfl) (fun wS _ _ => by first | rfl | (go_simp; done)) (fun wS hSw hDw => ?_) DD.still (by assumption) ?_
               · (refine (hDw.1.swap.clock).mono ?_; rw [HC2.out]; rintro e wn ⟨rfl, rfl⟩; exact ⟨rfl, hSw, hDw⟩)
               intro hsh16
               clear hsh15
               try simp only [Act.put, List.getElem_toArray, List.getElem_cons_zero, List.getElem_cons_succ, List.setIfInBounds_toArray, List.set_cons_zero, List.set_cons_succ]
               refine anyU_oneS (i := 16) (v := ?_) (by kernel_rfl) rfl (YieldsS.of_if (Or.inl ⟨by rfl, ?_⟩)) (by assumption) ?_
               rotate_left
               · (intro wS hSw; (try dsimp only at hSw); (first | (go_simp; done) | (go_simp; with_reducible rfl)))
               intro hsh17
               clear hsh16
               try simp only [Act.put, List.getElem_toArray, List.getElem_cons_zero, List.getElem_cons_succ, List.setIfInBounds_toArray, List.set_cons_zero, List.set_cons_succ]
               refine anyU_oneS (i := 17) (v := ?_) (by kernel_rfl) rfl (YieldsS.of_if (Or.inl ⟨by rfl, ?_⟩)) (by assumption) ?_
               rotate_left
               · (intro wS hSw; (try dsimp only at hSw); (first | (go_simp; done) | (go_simp; with_reducible rfl)))
               intro hsh18
               clear hsh17
               try simp only [Act.put, List.getElem_toArray, List.getElem_cons_zero, List.getElem_cons_succ, List.setIfInBounds_toArray, List.set_cons_zero, List.set_cons_succ]
               refine anyU_oneS (i := 18) (v := ?_) (by kernel_rfl) rfl (YieldsS.of_if (Or.inl ⟨by rfl, ?_⟩)) (by assumption) ?_
               rotate_left
               · (intro wS hSw; (try dsimp only at hSw); (first | (go_simp; done) | (go_simp; with_reducible rfl)))
               intro hsh19
               clear hsh18
               try simp only [Act.put, List.getElem_toArray, List.getElem_cons_zero, List.getElem_cons_succ, List.setIfInBounds_toArray, List.set_cons_zero, List.set_cons_succ]
               refine anyU_tk 60 (i := 19) (v := ?_) rfl (fun _ _ _ h => h) (YieldsS.of_if (Or.inl ⟨by rfl, ?_⟩)) ?_
               rotate_left
               · (intro wS hSw; (try dsimp only at hSw); (first | (go_simp; done) | (go_simp; with_reducible rfl)))
               intro hsh20
               clear hsh19
               try simp only [Act.put, List.getElem_toArray, List.getElem_cons_zero, List.getElem_cons_succ, List.setIfInBounds_toArray, List.set_cons_zero, List.set_cons_succ]
               refine anyU_tk 60 (i := 21) (v := ?_) rfl (fun _ _ _ h => h) (YieldsS.of_if (Or.inl ⟨by rfl, ?_⟩)) ?_
               rotate_left
               · (intro wS hSw; (try dsimp only at hSw); (first | (go_simp; done) | (go_simp; with_reducible rfl)))
               intro hsh21
               clear hsh20
               try simp only [Act.put, List.getElem_toArray, List.getElem_cons_zero, List.getElem_cons_succ, List.setIfInBounds_toArray, List.set_cons_zero, List.set_cons_succ]
               refine anyU_call (i := 20) 16 #[.pointer (some ⟨pa, 0, none⟩)] (.int .i64 n2) (DD w.heap.size wq pa pb S2 S2) (by kernel_rfl) (by kernel_rfl) rfl (by rfl) (fun wS _ _ => by first | rfl | (go_simp; done)) (fun wS hSw hDw => ?_) DD.still (by assumption) ?_
               · (refine (hDw.1.clock).mono ?_; rw [HC2.out]; rintro e wn ⟨rfl, rfl⟩; exact ⟨rfl, hSw, hDw⟩)
               intro hsh22
               clear hsh21
               try simp only [Act.put, List.getElem_toArray, List.getElem_cons_zero, List.getElem_cons_succ, List.setIfInBounds_toArray, List.set_cons_zero, List.set_cons_succ]
               refine anyU_one (i := 22) (v := ?_) (by kernel_rfl) rfl (YieldsS.of_if (Or.inl ⟨by rfl, ?_⟩)) ?_
               rotate_left
               · (intro wS hSw; (try dsimp only at hSw); (first | (go_simp; done) | (go_simp; with_reducible rfl)))
               try simp only [Act.put, List.getElem_toArray, List.getElem_cons_zero, List.getElem_cons_succ, List.setIfInBounds_toArray, List.set_cons_zero, List.set_cons_succ]
               refine anyU_one (i := 23) (v := ?_) (by kernel_rfl) rfl (YieldsS.of_if (Or.inl ⟨by rfl, ?_⟩)) ?_
               rotate_left
               · (intro wS hSw; (try dsimp only at hSw); (first | (go_simp; done) | (go_simp; with_reducible rfl)))
               try simp only [Act.put, List.getElem_toArray, List.getElem_cons_zero, List.getElem_cons_succ, List.setIfInBounds_toArray, List.set_cons_zero, List.set_cons_succ]
               refine anyU_done (by kernel_rfl) (fun w7 hS7 hD7 => ?_) _
               have HT7 := Lib.hid hD7.1
               have HB7 := Lib.hid (HBQ.out.trans hD7.2.1)
               clear hS7 hD7
               refine NoPanic.normal ?_
               go_wp2_with fail
               go_roundw
               case rel => exact ⟨k + 1, S2, by omega, by omega, by rw [HC2.out], by go_num, HK2.out, HT7.out, HB7.out⟩
               case measure => simp [intOf]; omega
       · have j1 : ¬ (k : Int) < (len : Int) := by omega
         go_wp2_with fail
         refine (HT.out.queue HB.out.size (by omega)).mono ?_
         rintro e u1 ⟨⟨A1, c1, rfl⟩, ht, hb⟩
         have HT1 := Lib.hid ht
         have HU1 := Lib.hid (HB.out.trans hb)
         clear ht hb
         go_wp2_with fail
         refine (HT1.out.swap.queue HU1.out.size (by omega)).mono ?_
         rintro e u2 ⟨⟨A3, c2, rfl⟩, ht, hb⟩
         have HT2 := Lib.hid ht.swap
         have HU2 := Lib.hid (HU1.out.trans hb)
         clear ht hb HT1 HU1
         obtain ⟨l1, g1, g2⟩ := HT2.out.log_
         obtain ⟨l2, g3, g4⟩ := HT2.out.swap.log_
         have G1 := Lib.hid g1
         have G2 := Lib.hid g2
         have G3 := Lib.hid g3
         have G4 := Lib.hid g4
         clear g1 g2 g3 g4
         go_wp2_with fail
         refine G1.out.mono ?_
         rintro e u3 ⟨rfl, rfl⟩
         go_wp2_with fail
         refine G2.out.mono ?_
         rintro e u3 ⟨rfl, rfl⟩
         go_wp2_with fail
         refine G3.out.mono ?_
         rintro e u3 ⟨rfl, rfl⟩
         go_wp2_with fail
         refine G4.out.mono ?_
         rintro e u3 ⟨rfl, rfl⟩
         go_wp2_with fail
         refine (HT2.out.pid_ HU2.out.size).mono ?_
         rintro e u4 ⟨rfl, ht, hb⟩
         have HT4 := Lib.hid ht
         have HU4 := Lib.hid (HU2.out.trans hb)
         clear ht hb
         go_wp2_with fail
         refine (HT4.out.swap.pid_ HU4.out.size).mono ?_
         rintro e u5 ⟨rfl, ht, hb⟩
         have HU5 := Lib.hid (HU4.out.trans hb)
         clear ht hb
         go_wp2
         go_ret
         exact ⟨rfl, HU5.out⟩
end Go.Proofs.YtcffeokbipjaoaaGreat.coreTwins
