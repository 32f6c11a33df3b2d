/- The walk of FrontNil. -/
import Derived.Test.YtcffeokbipjaoaaGreatMual
import Derived.Test.YtcffeokbipjaoaaGreatMuau
import Derived.Test.YtcffeokbipjaoaaGreatMubp
import Derived.Test.YtcffeokbipjaoaaGreatRows
import Derived.WalkKit
import Derived.ProofKit
import Derived.OpenShut
import Derived.Deep.DeepCutAuto
namespace Go.Proofs.YtcffeokbipjaoaaGreat.frontNil
open Go.ChangeShapes Go.WideShapes Go.ChangeAt Go.RowKit
set_option linter.unusedVariables false
set_option linter.unusedSimpArgs false
set_option maxRecDepth 100000 in
set_option maxHeartbeats 16000000 in
theorem walk (ti ro ta iv hx lo dw ho sp kp ki kd lm sx th rg ix ok ot oc on dd : Int) (w : World) (ti0 : -9223372036854775808 ≤ ti) (ti1 : ti ≤ 9223372036854775807) (ro0 : -9223372036854775808 ≤ ro) (ro1 : ro ≤ 9223372036854775807) (ta0 : -9223372036854775808 ≤ ta) (ta1 : ta ≤ 9223372036854775807) (iv0 : -9223372036854775808 ≤ iv) (iv1 : iv ≤ 9223372036854775807) (hx0 : -9223372036854775808 ≤ hx) (hx1 : hx ≤ 9223372036854775807) (lo0 : -9223372036854775808 ≤ lo) (lo1 : lo ≤ 9223372036854775807) (dw0 : -9223372036854775808 ≤ dw) (dw1 : dw ≤ 9223372036854775807) (ho0 : -9223372036854775808 ≤ ho) (ho1 : ho ≤ 9223372036854775807) (sp0 : -9223372036854775808 ≤ sp) (sp1 : sp ≤ 9223372036854775807) (kp0 : -9223372036854775808 ≤ kp) (kp1 : kp ≤ 9223372036854775807) (ki0 : -9223372036854775808 ≤ ki) (ki1 : ki ≤ 9223372036854775807) (kd0 : -9223372036854775808 ≤ kd) (kd1 : kd ≤ 9223372036854775807) (lm0 : -9223372036854775808 ≤ lm) (lm1 : lm ≤ 9223372036854775807) (sx0 : -9223372036854775808 ≤ sx) (sx1 : sx ≤ 9223372036854775807) (th0 : -9223372036854775808 ≤ th) (th1 : th ≤ 9223372036854775807) (rg0 : -9223372036854775808 ≤ rg) (rg1 : rg ≤ 9223372036854775807) (ix0 : -9223372036854775808 ≤ ix) (ix1 : ix ≤ 9223372036854775807) (ok0 : 0 ≤ ok) (ok1 : ok ≤ 255) (ot0 : -9223372036854775808 ≤ ot) (ot1 : ot ≤ 9223372036854775807) (oc0 : -9223372036854775808 ≤ oc) (oc1 : oc ≤ 9223372036854775807) (on0 : -9223372036854775808 ≤ on) (on1 : on ≤ 9223372036854775807) (dd0 : -9223372036854775808 ≤ dd) (dd1 : dd ≤ 9223372036854775807) :
   Calls Tryz.prog 4 #[.agg #[.int .i64 ti, .int .i64 ro, .int .i64 ta, .int .i64 iv, .int .i64 hx, .int .i64 lo, .int .i64 dw, .int .i64 ho, .int .i64 sp, .int .i64 kp, .int .i64 ki, .int .i64 kd, .int .i64 lm, .int .i64 sx, .int .i64 th, .int .i64 rg], .int .i64 ix, .agg #[.int .u8 ok, .int .i64 ot, .int .i64 oc, .int .i64 on], .int .i64 dd] w fun e w' => e = .returned (.bool true) ∧ Below w.heap.size w w' := by
 have hfit : (⟨ti, ro, ta, iv, hx, lo, dw, ho, sp, kp, ki, kd, lm, sx, th, rg⟩ : Cf).fits := by constructor <;> (unfold I64_; exact ⟨by assumption, by assumption⟩)
 have hd64 : I64_ dd := ⟨dd0, dd1⟩
 obtain ⟨x, hxv⟩ : ∃ x, tickE 0 dd = x := ⟨_, rfl⟩
 have hmx : max dd 0 = x := by
   rw [← hxv]
   unfold tickE
   split
   · omega
   · rw [sat_is _ (by omega) (by omega)]; omega
 have hxr : 0 ≤ x ∧ x ≤ 9223372036854775807 := by omega
 have ht2 : tickE x 9223372036854775807 = 9223372036854775807 := by
   unfold tickE Kn.sat
   rw [if_neg (by omega)]
   split <;> omega
 have HF := Lib.hid hfit
 have HD := Lib.hid hd64
 have HXV := Lib.hid hxv
 have HX0 := Lib.hid hxr
 have HT2 := Lib.hid ht2
 clear hfit hd64 hxv hxr ht2 ti0 ti1 ro0 ro1 ta0 ta1 iv0 iv1 hx0 hx1 lo0 lo1 dw0 dw1 ho0 ho1 sp0 sp1 kp0 kp1 ki0 ki1 kd0 kd1 lm0 lm1 sx0 sx1 th0 th1 rg0 rg1 ix0 ix1 ok0 ok1 ot0 ot1 oc0 oc1 on0 on1 dd0 dd1
 go_enter Tryz.func4, Tryz.ntmps4
 go_upto_region 1 with fail
 refine wp_worldx (fun wx => Blk wx w.heap.size cfT #[.int .i64 ti, .int .i64 ro, .int .i64 ta, .int .i64 iv, .int .i64 hx, .int .i64 lo, .int .i64 dw, .int .i64 ho, .int .i64 sp, .int .i64 kp, .int .i64 ki, .int .i64 kd, .int .i64 lm, .int .i64 sx, .int .i64 th, .int .i64 rg] ∧ Blk wx (w.heap.size + 1) opfT #[.int .u8 ok, .int .i64 ot, .int .i64 oc, .int .i64 on] ∧ Below w.heap.size w wx) ⟨(Blk.made _ _ _).alloc_ _, Blk.new_ (by simp), ((Below.refl _ _).alloc (Nat.le_refl _) _).alloc (by simp) _⟩ ?_
 obtain ⟨g, hg⟩ : ∃ g, w.heap.size = g := ⟨_, rfl⟩
 rw [hg]
 rintro w0 ⟨h1, h2, h3⟩
 have HA := Lib.hid h1
 have HP := Lib.hid h2
 have HC := Lib.hid (show Below w.heap.size w w0 from by rw [hg]; exact h3)
 clear h1 h2 h3 hg
 go_wp2_with fail
 refine (awake20 _).mono ?_
 rintro e w1 ⟨rfl, hb⟩
 replace HA := Lib.hid (HA.out.below_ hb HA.out.size)
 replace HP := Lib.hid (HP.out.below_ hb HP.out.size)
 replace HC := Lib.hid (HC.out.trans (hb.mono HC.out.size))
 clear hb
 have k0 : w1.cell? ⟨g, 0, none⟩ = some (.int .i64 ti) := HA.out.val (i := 0) rfl
 have k1 : w1.cell? ⟨g, 1, none⟩ = some (.int .i64 ro) := HA.out.val (i := 1) rfl
 have k2 : w1.cell? ⟨g, 2, none⟩ = some (.int .i64 ta) := HA.out.val (i := 2) rfl
 have k3 : w1.cell? ⟨g, 3, none⟩ = some (.int .i64 iv) := HA.out.val (i := 3) rfl
 have k4 : w1.cell? ⟨g, 4, none⟩ = some (.int .i64 hx) := HA.out.val (i := 4) rfl
 have k5 : w1.cell? ⟨g, 5, none⟩ = some (.int .i64 lo) := HA.out.val (i := 5) rfl
 have k6 : w1.cell? ⟨g, 6, none⟩ = some (.int .i64 dw) := HA.out.val (i := 6) rfl
 have k7 : w1.cell? ⟨g, 7, none⟩ = some (.int .i64 ho) := HA.out.val (i := 7) rfl
 have k8 : w1.cell? ⟨g, 8, none⟩ = some (.int .i64 sp) := HA.out.val (i := 8) rfl
 have k9 : w1.cell? ⟨g, 9, none⟩ = some (.int .i64 kp) := HA.out.val (i := 9) rfl
 have k10 : w1.cell? ⟨g, 10, none⟩ = some (.int .i64 ki) := HA.out.val (i := 10) rfl
 have k11 : w1.cell? ⟨g, 11, none⟩ = some (.int .i64 kd) := HA.out.val (i := 11) rfl
 have k12 : w1.cell? ⟨g, 12, none⟩ = some (.int .i64 lm) := HA.out.val (i := 12) rfl
 have k13 : w1.cell? ⟨g, 13, none⟩ = some (.int .i64 sx) := HA.out.val (i := 13) rfl
 have k14 : w1.cell? ⟨g, 14, none⟩ = some (.int .i64 th) := HA.out.val (i := 14) rfl
 have k15 : w1.cell? ⟨g, 15, none⟩ = some (.int .i64 rg) := HA.out.val (i := 15) rfl
 go_wp2_with fail
 refine (fr_new (⟨ti, ro, ta, iv, hx, lo, dw, ho, sp, kp, ki, kd, lm, sx, th, rg⟩ : Cf) w1 HF.out).mono ?_
 rintro e w2 ⟨hc, hb⟩
 replace HA := Lib.hid (HA.out.below_ hb HA.out.size)
 replace HP := Lib.hid (HP.out.below_ hb HP.out.size)
 replace HC := Lib.hid (HC.out.trans (hb.mono HC.out.size))
 obtain ⟨P, ev, hP, he, hev⟩ : ∃ (P : Option Addr) (ev : Int), ((P = none ∧ ev = 1) ∨ (ev = 0 ∧ ∃ f : Nat, P = some ⟨f, 0, none⟩)) ∧ e = .returned (.tuple #[.pointer P, .int .i64 ev]) ∧ validE (⟨ti, ro, ta, iv, hx, lo, dw, ho, sp, kp, ki, kd, lm, sx, th, rg⟩ : Cf) = ev := by
   rcases hc with ⟨hv, he⟩ | ⟨hv, f, O, N, n, Nc, nc, he, -⟩
   · exact ⟨none, 1, .inl ⟨rfl, rfl⟩, he, hv⟩
   · exact ⟨some ⟨f, 0, none⟩, 0, .inr ⟨rfl, f, rfl⟩, he, hv⟩
 subst he
 have HEV := Lib.hid hev
 clear hc hb hev k0 k1 k2 k3 k4 k5 k6 k7 k8 k9 k10 k11 k12 k13 k14 k15
 rcases hP with ⟨rfl, rfl⟩ | ⟨rfl, f, rfl⟩
 · go_wp2_with fail
   refine (frn_tick dd _).mono ?_
   rintro e w3 ⟨rfl, rfl⟩
   go_wp2_with fail
   refine (frn_step ix _).mono ?_
   rintro e w3 ⟨rfl, hb⟩
   replace HA := Lib.hid (HA.out.below_ hb HA.out.size)
   replace HP := Lib.hid (HP.out.below_ hb HP.out.size)
   replace HC := Lib.hid (HC.out.trans (hb.mono HC.out.size))
   clear hb
   go_upto_region 7 with fail
   refine wp_worldx (fun wx => Blk wx g cfT #[.int .i64 ti, .int .i64 ro, .int .i64 ta, .int .i64 iv, .int .i64 hx, .int .i64 lo, .int .i64 dw, .int .i64 ho, .int .i64 sp, .int .i64 kp, .int .i64 ki, .int .i64 kd, .int .i64 lm, .int .i64 sx, .int .i64 th, .int .i64 rg] ∧ Blk wx (g + 1) opfT #[.int .u8 ok, .int .i64 ot, .int .i64 oc, .int .i64 on] ∧ Below w.heap.size w wx) (have hab := ((Below.refl w3.heap.size w3).alloc (Nat.le_refl _) (.cells #[.int .u8 0, .int .u64 0, .int .i64 0, .int .i64 0, .int .i64 0] reT)); ⟨HA.out.below_ hab HA.out.size, HP.out.below_ hab HP.out.size, HC.out.trans (hab.mono HC.out.size)⟩) ?_
   clear HA HP HC
   rintro w4 ⟨h1, h2, h3⟩
   have HA := Lib.hid h1
   have HP := Lib.hid h2
   have HC := Lib.hid h3
   clear h1 h2 h3
   have k0 : w4.cell? ⟨g, 0, none⟩ = some (.int .i64 ti) := HA.out.val (i := 0) rfl
   have k1 : w4.cell? ⟨g, 1, none⟩ = some (.int .i64 ro) := HA.out.val (i := 1) rfl
   have k2 : w4.cell? ⟨g, 2, none⟩ = some (.int .i64 ta) := HA.out.val (i := 2) rfl
   have k3 : w4.cell? ⟨g, 3, none⟩ = some (.int .i64 iv) := HA.out.val (i := 3) rfl
   have k4 : w4.cell? ⟨g, 4, none⟩ = some (.int .i64 hx) := HA.out.val (i := 4) rfl
   have k5 : w4.cell? ⟨g, 5, none⟩ = some (.int .i64 lo) := HA.out.val (i := 5) rfl
   have k6 : w4.cell? ⟨g, 6, none⟩ = some (.int .i64 dw) := HA.out.val (i := 6) rfl
   have k7 : w4.cell? ⟨g, 7, none⟩ = some (.int .i64 ho) := HA.out.val (i := 7) rfl
   have k8 : w4.cell? ⟨g, 8, none⟩ = some (.int .i64 sp) := HA.out.val (i := 8) rfl
   have k9 : w4.cell? ⟨g, 9, none⟩ = some (.int .i64 kp) := HA.out.val (i := 9) rfl
   have k10 : w4.cell? ⟨g, 10, none⟩ = some (.int .i64 ki) := HA.out.val (i := 10) rfl
   have k11 : w4.cell? ⟨g, 11, none⟩ = some (.int .i64 kd) := HA.out.val (i := 11) rfl
   have k12 : w4.cell? ⟨g, 12, none⟩ = some (.int .i64 lm) := HA.out.val (i := 12) rfl
   have k13 : w4.cell? ⟨g, 13, none⟩ = some (.int .i64 sx) := HA.out.val (i := 13) rfl
   have k14 : w4.cell? ⟨g, 14, none⟩ = some (.int .i64 th) := HA.out.val (i := 14) rfl
   have k15 : w4.cell? ⟨g, 15, none⟩ = some (.int .i64 rg) := HA.out.val (i := 15) rfl
   go_wp2_with fail
   refine (valid_any (⟨ti, ro, ta, iv, hx, lo, dw, ho, sp, kp, ki, kd, lm, sx, th, rg⟩ : Cf) w4).mono ?_
   rw [HEV.out]
   rintro e w5 ⟨rfl, hb⟩
   replace HA := Lib.hid (HA.out.below_ hb HA.out.size)
   replace HP := Lib.hid (HP.out.below_ hb HP.out.size)
   replace HC := Lib.hid (HC.out.trans (hb.mono HC.out.size))
   clear hb k0 k1 k2 k3 k4 k5 k6 k7 k8 k9 k10 k11 k12 k13 k14 k15
   have o0 : w5.cell? ⟨g + 1, 0, none⟩ = some (.int .u8 ok) := HP.out.val (i := 0) rfl
   have o1 : w5.cell? ⟨g + 1, 1, none⟩ = some (.int .i64 ot) := HP.out.val (i := 1) rfl
   have o2 : w5.cell? ⟨g + 1, 2, none⟩ = some (.int .i64 oc) := HP.out.val (i := 2) rfl
   have o3 : w5.cell? ⟨g + 1, 3, none⟩ = some (.int .i64 on) := HP.out.val (i := 3) rfl
   go_wp2_with fail
   refine (frn_begin ix ⟨ok, ot, oc, on⟩ _).mono ?_
   rintro e w6 ⟨rfl, hb⟩
   replace HA := Lib.hid (HA.out.below_ hb HA.out.size)
   replace HP := Lib.hid (HP.out.below_ hb HP.out.size)
   replace HC := Lib.hid (HC.out.trans (hb.mono HC.out.size))
   clear hb
   clear o0 o1 o2 o3
   have o0 : w6.cell? ⟨g + 1, 0, none⟩ = some (.int .u8 ok) := HP.out.val (i := 0) rfl
   have o1 : w6.cell? ⟨g + 1, 1, none⟩ = some (.int .i64 ot) := HP.out.val (i := 1) rfl
   have o2 : w6.cell? ⟨g + 1, 2, none⟩ = some (.int .i64 oc) := HP.out.val (i := 2) rfl
   have o3 : w6.cell? ⟨g + 1, 3, none⟩ = some (.int .i64 on) := HP.out.val (i := 3) rfl
   go_wp2_with fail
   refine (frn_call ix ⟨ok, ot, oc, on⟩ _).mono ?_
   rintro e w7 ⟨rfl, hb⟩
   replace HA := Lib.hid (HA.out.below_ hb HA.out.size)
   replace HP := Lib.hid (HP.out.below_ hb HP.out.size)
   replace HC := Lib.hid (HC.out.trans (hb.mono HC.out.size))
   clear hb
   clear o0 o1 o2 o3
   go_wp2_with fail
   refine (frn_where ix _).mono ?_
   rintro e w8 ⟨rfl, rfl⟩
   go_wp2_with fail
   refine (frn_now _).mono ?_
   rintro e w8 ⟨rfl, rfl⟩
   go_wp2_with fail
   refine (frn_threads _).mono ?_
   rintro e w8 ⟨rfl, rfl⟩
   go_wp2_with fail
   refine (frn_waiting _).mono ?_
   rintro e w8 ⟨rfl, rfl⟩
   go_wp2_with fail
   refine (frn_applied _).mono ?_
   rintro e w8 ⟨rfl, rfl⟩
   go_wp2_with fail
   refine (frn_core _).mono ?_
   rintro e w8 ⟨rfl, rfl⟩
   go_wp2_with fail
   refine (cdef_any _).mono ?_
   rintro e w8 ⟨rfl, hb⟩
   replace HA := Lib.hid (HA.out.below_ hb HA.out.size)
   replace HP := Lib.hid (HP.out.below_ hb HP.out.size)
   replace HC := Lib.hid (HC.out.trans (hb.mono HC.out.size))
   clear hb
   go_wp2_with fail
   refine (fr_new Cf.dflt w8 dflt_fits).mono ?_
   rintro e w9 ⟨hc, hb⟩
   have HW8 := Lib.hid (show w.heap.size ≤ w8.heap.size from HC.out.size)
   replace HC := Lib.hid (HC.out.trans (hb.mono HC.out.size))
   rcases hc with ⟨hv, -⟩ | ⟨hv, f2, O, N, n, Nc, nc, rfl, hN, hn, hco, hF, hO⟩
   · exact absurd (dflt_valid.symm.trans hv) (by decide)
   · obtain rfl : N = 4 := by have h4 : (4 : Int) = (N : Int) := hN; omega
     obtain rfl : n = 4 := by have h4 : (4 : Int) = (n : Int) := hn; omega
     have hok := newF_ok Cf.dflt (N := 4) (n := 4) (Nc := Nc) (nc := nc) (by omega) (by omega) (by omega) (by omega)
     have hlow : ∀ k, O k → w.heap.size ≤ k := fun k hk => Nat.le_trans HW8.out (hO k hk)
     have HN := Lib.hid hF
     have HOK := Lib.hid hok
     have HLO := Lib.hid hlow
     clear hv hN hn hco hF hO hb hok hlow HA HP
     go_wp2_with fail
     refine (fl_tick HN.out HOK.out dd HD.out).mono ?_
     rintro e w10 ⟨rfl, O1, hF1, hO1, hk1⟩
     replace hF1 : FrL w10 f2 O1 { (newF Cf.dflt 4 4 Nc nc) with clk := x } := by rw [← HXV.out]; exact hF1
     have hlo1 : ∀ k, O1 k → w.heap.size ≤ k := fun k hk => by
       rcases hO1 k hk with e | e
       · exact HLO.out k e
       · have := HC.out.size; omega
     have hok1 : FOk { (newF Cf.dflt 4 4 Nc nc) with clk := x } 0 := ⟨HOK.out.N1, HOK.out.N2, HOK.out.n1, HOK.out.n2, HOK.out.g, HOK.out.ca, HOK.out.bo, ⟨by have := HX0.out.1; show (-9223372036854775808 : Int) ≤ x; omega, HX0.out.2⟩⟩
     replace HC := Lib.hid (HC.out.trans (hk1.below (fun k hk => HLO.out k hk) HC.out.size))
     have HN1 := Lib.hid hF1
     have HLO1 := Lib.hid hlo1
     have HOK1 := Lib.hid hok1
     clear hF1 hO1 hk1 hlo1 hok1 HN HOK HLO
     go_wp2_with fail
     refine (fl_now HN1.out).mono ?_
     rintro e w11 ⟨rfl, rfl⟩
     go_wp2_with fail
     refine (fl_tick HN1.out HOK1.out 9223372036854775807 ⟨by omega, by omega⟩).mono ?_
     rintro e w12 ⟨rfl, O2, hF2, hO2, hk2⟩
     replace hF2 : FrL w12 f2 O2 { (newF Cf.dflt 4 4 Nc nc) with clk := 9223372036854775807 } := by
       have e := HT2.out
       unfold tiF at hF2
       rw [show tickE ({ (newF Cf.dflt 4 4 Nc nc) with clk := x } : FrS).clk 9223372036854775807 = 9223372036854775807 from e] at hF2
       exact hF2
     replace HC := Lib.hid (HC.out.trans (hk2.below (fun k hk => HLO1.out k hk) HC.out.size))
     have HN2 := Lib.hid hF2
     clear hF2 hO2 hk2 HN1 HLO1 HOK1
     go_wp2_with fail
     refine (fl_now HN2.out).mono ?_
     rintro e w13 ⟨rfl, rfl⟩
     go_wp2
     go_ret
     exact ⟨rfl, HC.out⟩
 · go_wp2_with fail
   refine (frn_tick dd _).mono ?_
   rintro e w3 ⟨rfl, rfl⟩
   go_wp2_with fail
   refine (frn_step ix _).mono ?_
   rintro e w3 ⟨rfl, hb⟩
   replace HA := Lib.hid (HA.out.below_ hb HA.out.size)
   replace HP := Lib.hid (HP.out.below_ hb HP.out.size)
   replace HC := Lib.hid (HC.out.trans (hb.mono HC.out.size))
   clear hb
   go_upto_region 7 with fail
   refine wp_worldx (fun wx => Blk wx g cfT #[.int .i64 ti, .int .i64 ro, .int .i64 ta, .int .i64 iv, .int .i64 hx, .int .i64 lo, .int .i64 dw, .int .i64 ho, .int .i64 sp, .int .i64 kp, .int .i64 ki, .int .i64 kd, .int .i64 lm, .int .i64 sx, .int .i64 th, .int .i64 rg] ∧ Blk wx (g + 1) opfT #[.int .u8 ok, .int .i64 ot, .int .i64 oc, .int .i64 on] ∧ Below w.heap.size w wx) (have hab := ((Below.refl w3.heap.size w3).alloc (Nat.le_refl _) (.cells #[.int .u8 0, .int .u64 0, .int .i64 0, .int .i64 0, .int .i64 0] reT)); ⟨HA.out.below_ hab HA.out.size, HP.out.below_ hab HP.out.size, HC.out.trans (hab.mono HC.out.size)⟩) ?_
   clear HA HP HC
   rintro w4 ⟨h1, h2, h3⟩
   have HA := Lib.hid h1
   have HP := Lib.hid h2
   have HC := Lib.hid h3
   clear h1 h2 h3
   have k0 : w4.cell? ⟨g, 0, none⟩ = some (.int .i64 ti) := HA.out.val (i := 0) rfl
   have k1 : w4.cell? ⟨g, 1, none⟩ = some (.int .i64 ro) := HA.out.val (i := 1) rfl
   have k2 : w4.cell? ⟨g, 2, none⟩ = some (.int .i64 ta) := HA.out.val (i := 2) rfl
   have k3 : w4.cell? ⟨g, 3, none⟩ = some (.int .i64 iv) := HA.out.val (i := 3) rfl
   have k4 : w4.cell? ⟨g, 4, none⟩ = some (.int .i64 hx) := HA.out.val (i := 4) rfl
   have k5 : w4.cell? ⟨g, 5, none⟩ = some (.int .i64 lo) := HA.out.val (i := 5) rfl
   have k6 : w4.cell? ⟨g, 6, none⟩ = some (.int .i64 dw) := HA.out.val (i := 6) rfl
   have k7 : w4.cell? ⟨g, 7, none⟩ = some (.int .i64 ho) := HA.out.val (i := 7) rfl
   have k8 : w4.cell? ⟨g, 8, none⟩ = some (.int .i64 sp) := HA.out.val (i := 8) rfl
   have k9 : w4.cell? ⟨g, 9, none⟩ = some (.int .i64 kp) := HA.out.val (i := 9) rfl
   have k10 : w4.cell? ⟨g, 10, none⟩ = some (.int .i64 ki) := HA.out.val (i := 10) rfl
   have k11 : w4.cell? ⟨g, 11, none⟩ = some (.int .i64 kd) := HA.out.val (i := 11) rfl
   have k12 : w4.cell? ⟨g, 12, none⟩ = some (.int .i64 lm) := HA.out.val (i := 12) rfl
   have k13 : w4.cell? ⟨g, 13, none⟩ = some (.int .i64 sx) := HA.out.val (i := 13) rfl
   have k14 : w4.cell? ⟨g, 14, none⟩ = some (.int .i64 th) := HA.out.val (i := 14) rfl
   have k15 : w4.cell? ⟨g, 15, none⟩ = some (.int .i64 rg) := HA.out.val (i := 15) rfl
   go_wp2_with fail
   refine (valid_any (⟨ti, ro, ta, iv, hx, lo, dw, ho, sp, kp, ki, kd, lm, sx, th, rg⟩ : Cf) w4).mono ?_
   rw [HEV.out]
   rintro e w5 ⟨rfl, hb⟩
   replace HA := Lib.hid (HA.out.below_ hb HA.out.size)
   replace HP := Lib.hid (HP.out.below_ hb HP.out.size)
   replace HC := Lib.hid (HC.out.trans (hb.mono HC.out.size))
   clear hb k0 k1 k2 k3 k4 k5 k6 k7 k8 k9 k10 k11 k12 k13 k14 k15
   have o0 : w5.cell? ⟨g + 1, 0, none⟩ = some (.int .u8 ok) := HP.out.val (i := 0) rfl
   have o1 : w5.cell? ⟨g + 1, 1, none⟩ = some (.int .i64 ot) := HP.out.val (i := 1) rfl
   have o2 : w5.cell? ⟨g + 1, 2, none⟩ = some (.int .i64 oc) := HP.out.val (i := 2) rfl
   have o3 : w5.cell? ⟨g + 1, 3, none⟩ = some (.int .i64 on) := HP.out.val (i := 3) rfl
   go_wp2_with fail
   refine (frn_begin ix ⟨ok, ot, oc, on⟩ _).mono ?_
   rintro e w6 ⟨rfl, hb⟩
   replace HA := Lib.hid (HA.out.below_ hb HA.out.size)
   replace HP := Lib.hid (HP.out.below_ hb HP.out.size)
   replace HC := Lib.hid (HC.out.trans (hb.mono HC.out.size))
   clear hb
   clear o0 o1 o2 o3
   have o0 : w6.cell? ⟨g + 1, 0, none⟩ = some (.int .u8 ok) := HP.out.val (i := 0) rfl
   have o1 : w6.cell? ⟨g + 1, 1, none⟩ = some (.int .i64 ot) := HP.out.val (i := 1) rfl
   have o2 : w6.cell? ⟨g + 1, 2, none⟩ = some (.int .i64 oc) := HP.out.val (i := 2) rfl
   have o3 : w6.cell? ⟨g + 1, 3, none⟩ = some (.int .i64 on) := HP.out.val (i := 3) rfl
   go_wp2_with fail
   refine (frn_call ix ⟨ok, ot, oc, on⟩ _).mono ?_
   rintro e w7 ⟨rfl, hb⟩
   replace HA := Lib.hid (HA.out.below_ hb HA.out.size)
   replace HP := Lib.hid (HP.out.below_ hb HP.out.size)
   replace HC := Lib.hid (HC.out.trans (hb.mono HC.out.size))
   clear hb
   clear o0 o1 o2 o3
   go_wp2_with fail
   refine (frn_where ix _).mono ?_
   rintro e w8 ⟨rfl, rfl⟩
   go_wp2_with fail
   refine (frn_now _).mono ?_
   rintro e w8 ⟨rfl, rfl⟩
   go_wp2_with fail
   refine (frn_threads _).mono ?_
   rintro e w8 ⟨rfl, rfl⟩
   go_wp2_with fail
   refine (frn_waiting _).mono ?_
   rintro e w8 ⟨rfl, rfl⟩
   go_wp2_with fail
   refine (frn_applied _).mono ?_
   rintro e w8 ⟨rfl, rfl⟩
   go_wp2_with fail
   refine (frn_core _).mono ?_
   rintro e w8 ⟨rfl, rfl⟩
   go_wp2_with fail
   refine (cdef_any _).mono ?_
   rintro e w8 ⟨rfl, hb⟩
   replace HA := Lib.hid (HA.out.below_ hb HA.out.size)
   replace HP := Lib.hid (HP.out.below_ hb HP.out.size)
   replace HC := Lib.hid (HC.out.trans (hb.mono HC.out.size))
   clear hb
   go_wp2_with fail
   refine (fr_new Cf.dflt w8 dflt_fits).mono ?_
   rintro e w9 ⟨hc, hb⟩
   have HW8 := Lib.hid (show w.heap.size ≤ w8.heap.size from HC.out.size)
   replace HC := Lib.hid (HC.out.trans (hb.mono HC.out.size))
   rcases hc with ⟨hv, -⟩ | ⟨hv, f2, O, N, n, Nc, nc, rfl, hN, hn, hco, hF, hO⟩
   · exact absurd (dflt_valid.symm.trans hv) (by decide)
   · obtain rfl : N = 4 := by have h4 : (4 : Int) = (N : Int) := hN; omega
     obtain rfl : n = 4 := by have h4 : (4 : Int) = (n : Int) := hn; omega
     have hok := newF_ok Cf.dflt (N := 4) (n := 4) (Nc := Nc) (nc := nc) (by omega) (by omega) (by omega) (by omega)
     have hlow : ∀ k, O k → w.heap.size ≤ k := fun k hk => Nat.le_trans HW8.out (hO k hk)
     have HN := Lib.hid hF
     have HOK := Lib.hid hok
     have HLO := Lib.hid hlow
     clear hv hN hn hco hF hO hb hok hlow HA HP
     go_wp2_with fail
     refine (fl_tick HN.out HOK.out dd HD.out).mono ?_
     rintro e w10 ⟨rfl, O1, hF1, hO1, hk1⟩
     replace hF1 : FrL w10 f2 O1 { (newF Cf.dflt 4 4 Nc nc) with clk := x } := by rw [← HXV.out]; exact hF1
     have hlo1 : ∀ k, O1 k → w.heap.size ≤ k := fun k hk => by
       rcases hO1 k hk with e | e
       · exact HLO.out k e
       · have := HC.out.size; omega
     have hok1 : FOk { (newF Cf.dflt 4 4 Nc nc) with clk := x } 0 := ⟨HOK.out.N1, HOK.out.N2, HOK.out.n1, HOK.out.n2, HOK.out.g, HOK.out.ca, HOK.out.bo, ⟨by have := HX0.out.1; show (-9223372036854775808 : Int) ≤ x; omega, HX0.out.2⟩⟩
     replace HC := Lib.hid (HC.out.trans (hk1.below (fun k hk => HLO.out k hk) HC.out.size))
     have HN1 := Lib.hid hF1
     have HLO1 := Lib.hid hlo1
     have HOK1 := Lib.hid hok1
     clear hF1 hO1 hk1 hlo1 hok1 HN HOK HLO
     go_wp2_with fail
     refine (fl_now HN1.out).mono ?_
     rintro e w11 ⟨rfl, rfl⟩
     go_wp2_with fail
     refine (fl_tick HN1.out HOK1.out 9223372036854775807 ⟨by omega, by omega⟩).mono ?_
     rintro e w12 ⟨rfl, O2, hF2, hO2, hk2⟩
     replace hF2 : FrL w12 f2 O2 { (newF Cf.dflt 4 4 Nc nc) with clk := 9223372036854775807 } := by
       have e := HT2.out
       unfold tiF at hF2
       rw [show tickE ({ (newF Cf.dflt 4 4 Nc nc) with clk := x } : FrS).clk 9223372036854775807 = 9223372036854775807 from e] at hF2
       exact hF2
     replace HC := Lib.hid (HC.out.trans (hk2.below (fun k hk => HLO1.out k hk) HC.out.size))
     have HN2 := Lib.hid hF2
     clear hF2 hO2 hk2 HN1 HLO1 HOK1
     go_wp2_with fail
     refine (fl_now HN2.out).mono ?_
     rintro e w13 ⟨rfl, rfl⟩
     go_wp2
     go_ret
     exact ⟨rfl, HC.out⟩
end Go.Proofs.YtcffeokbipjaoaaGreat.frontNil
