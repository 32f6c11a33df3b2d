/- CallOps is true of every call, every answer and every row of bytes, and changes nothing that it was given. -/
import Derived.Test.YtmnkmnnngfgbgaaClk
import Derived.Test.YtmnkmnnngfgbgaaOst4
import Derived.Test.YtmnkmnnngfgbgaaRowb
import Derived.Test.YtmnkmnnngfgbgaaRows
import Derived.WalkKit
import Derived.ProofKit
import Derived.OpenShut
import Derived.Deep.DeepCutAuto
namespace Go.Proofs.Ytmnkmnnngfgbgaa.callOps
open Go.ChangeShapes Go.WideShapes Go.ChangeAt Go.RowKit
set_option linter.unusedVariables false
theorem own : ownKnob Try.prog.godebug = none := by kernel_rfl
theorem laidOut : laidOutB Try.prog = true := by kernel_rfl
theorem reads : (Try.f4.params.toList.all fun t => Try.prog.readableRec t && decide (t < Try.prog.types.size)) = true := by kernel_rfl
set_option maxRecDepth 100000 in
set_option maxHeartbeats 8000000 in
theorem walk (k t c n a tk t2 c2 s : Int) (A : Option Addr) (len cap : Nat) (K : Nat → Int) (w : World) (hlc : len ≤ cap) (hcm : cap ≤ maxLen) (hK : SeqAt w w.heap.size A len 1 (fun i => [.int .u8 (K i)])) (hok : (∀ i, 0 ≤ K i ∧ K i ≤ 255) ∧ (A = none → cap = 0))
    (k0 : 0 ≤ k) (k1 : k ≤ 255) (t0 : -9223372036854775808 ≤ t) (t1 : t ≤ 9223372036854775807) (c0 : -9223372036854775808 ≤ c) (c1 : c ≤ 9223372036854775807) (n0 : -9223372036854775808 ≤ n) (n1 : n ≤ 9223372036854775807)
    (a0 : 0 ≤ a) (a1 : a ≤ 255) (tk0 : 0 ≤ tk) (tk1 : tk ≤ 18446744073709551615) (t20 : -9223372036854775808 ≤ t2) (t21 : t2 ≤ 9223372036854775807) (c20 : -9223372036854775808 ≤ c2) (c21 : c2 ≤ 9223372036854775807) (s0 : -9223372036854775808 ≤ s) (s1 : s ≤ 9223372036854775807) :
    Calls Try.prog 4 #[.agg #[.int .u8 k, .int .i64 t, .int .i64 c, .int .i64 n], .agg #[.int .u8 a, .int .u64 tk, .int .i64 t2, .int .i64 c2, .int .i64 s], .slice A len cap] w fun e w' => e = .returned (.bool true) ∧ Below w.heap.size w w' := by
  unfold maxLen at hcm
  have hO : OpV.ok ⟨k, t, c, n⟩ := ⟨⟨k0, k1⟩, ⟨t0, t1⟩, ⟨c0, c1⟩, ⟨n0, n1⟩⟩
  have hR : ReV.ok ⟨a, tk, t2, c2, s⟩ := ⟨⟨a0, a1⟩, ⟨tk0, tk1⟩, ⟨t20, t21⟩, ⟨c20, c21⟩, ⟨s0, s1⟩⟩
  obtain ⟨m, hm⟩ : ∃ m, min len 20 = m := ⟨_, rfl⟩
  have hm1 : m ≤ len := by omega
  have hm2 : m ≤ 20 := by omega
  obtain ⟨F, hF⟩ : ∃ F, takeI K m = F := ⟨_, rfl⟩
  have hFl : F.length = m := by rw [← hF, takeI_len]
  have hrd : RdK .u8 w w.heap.size A F := by rw [← hF]; exact rd_takeI hK hm1
  have hpl : (OpV.enc ⟨k, t, c, n⟩).length ≤ 31 := by have := encs_len _ (OpV.ok64 hO); simp only [OpV.enc, OpV.ns, List.length_cons, List.length_nil] at this ⊢; omega
  have hql : (ReV.enc ⟨a, tk, t2, c2, s⟩).length ≤ 41 := by have := encs_len _ (ReV.ok64 hR); simp only [ReV.enc, ReV.ns, List.length_cons, List.length_nil] at this ⊢; omega
  obtain ⟨P, hP⟩ : ∃ P, OpV.enc ⟨k, t, c, n⟩ = P := ⟨_, rfl⟩
  obtain ⟨Q, hQ⟩ : ∃ Q, ReV.enc ⟨a, tk, t2, c2, s⟩ = Q := ⟨_, rfl⟩
  rw [hP] at hpl
  rw [hQ] at hql
  obtain ⟨p, hp⟩ : ∃ p, P.length = p := ⟨_, rfl⟩
  obtain ⟨q, hq⟩ : ∃ q, Q.length = q := ⟨_, rfl⟩
  have hp0 : 0 < p := by rw [← hp, ← hP]; simp [OpV.enc]
  have hq0 : 0 < q := by rw [← hq, ← hQ]; simp [ReV.enc]
  rw [hp] at hpl
  rw [hq] at hql
  have HR := Lib.hid hrd
  have HNO := Lib.hid hok.2
  have HFL := Lib.hid hFl
  have HM := Lib.hid hm
  have HO := Lib.hid hO
  have HRE := Lib.hid hR
  have HP := Lib.hid hP
  have HQ := Lib.hid hQ
  have HPL := Lib.hid hp
  have HQL := Lib.hid hq
  clear hok hK hF hFl hrd hm hO hR hP hQ hp hq
  go_enter Try.func4, Try.ntmps4
  go_upto_region 1 with fail
  have hx1 : Blk ((w.alloc (.cells #[.int .u8 k, .int .i64 t, .int .i64 c, .int .i64 n] 33)).alloc (.cells #[.int .u8 a, .int .u64 tk, .int .i64 t2, .int .i64 c2, .int .i64 s] 36)) w.heap.size 33 #[.int .u8 k, .int .i64 t, .int .i64 c, .int .i64 n] := (Blk.made _ _ _).alloc_ _
  have hx2 : Blk ((w.alloc (.cells #[.int .u8 k, .int .i64 t, .int .i64 c, .int .i64 n] 33)).alloc (.cells #[.int .u8 a, .int .u64 tk, .int .i64 t2, .int .i64 c2, .int .i64 s] 36)) (w.heap.size + 1) 36 #[.int .u8 a, .int .u64 tk, .int .i64 t2, .int .i64 c2, .int .i64 s] := Blk.new_ (by simp)
  have hbb : Below w.heap.size w ((w.alloc (.cells #[.int .u8 k, .int .i64 t, .int .i64 c, .int .i64 n] 33)).alloc (.cells #[.int .u8 a, .int .u64 tk, .int .i64 t2, .int .i64 c2, .int .i64 s] 36)) := ((Below.refl _ _).alloc (Nat.le_refl _) _).alloc (by simp) _
  obtain ⟨w0, hw0⟩ : ∃ w0, ((w.alloc (.cells #[.int .u8 k, .int .i64 t, .int .i64 c, .int .i64 n] 33)).alloc (.cells #[.int .u8 a, .int .u64 tk, .int .i64 t2, .int .i64 c2, .int .i64 s] 36)) = w0 := ⟨_, rfl⟩
  rw [hw0] at hx1 hx2 hbb ⊢
  have HX1 := Lib.hid hx1
  have HX2 := Lib.hid hx2
  have HB0 := Lib.hid hbb
  clear hw0 hx1 hx2 hbb
  go_wp2_with fail
  refine (lawake _).mono ?_
  rintro e w1 ⟨rfl, hb1⟩
  have hx1 := HX1.out.below_ hb1 HX1.out.size
  have hx2 := HX2.out.below_ hb1 HX2.out.size
  have HB1 := Lib.hid (HB0.out.trans (hb1.mono HB0.out.size))
  clear hb1 HX1 HX2 HB0
  go_upto_region 3 with fail
  go_cut [2] (fun s2 wc => s2 = .slice A m cap ∧ wc = w1)
  case first =>
    by_cases h40 : len ≤ 20
    · obtain rfl : m = len := by have := HM.out; omega
      go_wp2
      go_meet
      exact ⟨rfl, rfl⟩
    · obtain rfl : m = 20 := by have := HM.out; omega
      go_wp2
      go_meet
      exact ⟨rfl, rfl⟩
  case rest =>
    obtain ⟨rfl, rfl⟩ := hcut
    obtain ⟨wA, rfl⟩ : ∃ wA, wA = wc := ⟨_, rfl⟩
    have hmc : m ≤ cap := by omega
    clear hm1 HM
    have HX1 := Lib.hid hx1
    have HX2 := Lib.hid hx2
    have hz1 := hx1.size
    have hz2 := hx2.size
    have d0 : wA.cell? ⟨w.heap.size, 0, none⟩ = some (.int .u8 k) := hx1.val rfl
    have d1 : wA.cell? ⟨w.heap.size, 1, none⟩ = some (.int .i64 t) := hx1.val rfl
    have d2 : wA.cell? ⟨w.heap.size, 2, none⟩ = some (.int .i64 c) := hx1.val rfl
    have d3 : wA.cell? ⟨w.heap.size, 3, none⟩ = some (.int .i64 n) := hx1.val rfl
    have e0 : wA.cell? ⟨w.heap.size + 1, 0, none⟩ = some (.int .u8 a) := hx2.val rfl
    have e1 : wA.cell? ⟨w.heap.size + 1, 1, none⟩ = some (.int .u64 tk) := hx2.val rfl
    have e2 : wA.cell? ⟨w.heap.size + 1, 2, none⟩ = some (.int .i64 t2) := hx2.val rfl
    have e3 : wA.cell? ⟨w.heap.size + 1, 3, none⟩ = some (.int .i64 c2) := hx2.val rfl
    have e4 : wA.cell? ⟨w.heap.size + 1, 4, none⟩ = some (.int .i64 s) := hx2.val rfl
    clear hx1 hx2
    go_upto_region 4 with fail
    go_cut [7, 8] (fun s7 s8 wz => OwK .u8 5 wz wA.heap.size s7 P ∧ OwK .u8 5 wz wA.heap.size s8 Q ∧ Below wA.heap.size wA wz)
    case first =>
      go_region_held3 (fun w' => w'.cell? ⟨w.heap.size, 0, none⟩ = some (.int .u8 k) ∧ w'.cell? ⟨w.heap.size, 1, none⟩ = some (.int .i64 t) ∧ w'.cell? ⟨w.heap.size, 2, none⟩ = some (.int .i64 c) ∧ w'.cell? ⟨w.heap.size, 3, none⟩ = some (.int .i64 n) ∧ w'.cell? ⟨w.heap.size + 1, 0, none⟩ = some (.int .u8 a) ∧ w'.cell? ⟨w.heap.size + 1, 1, none⟩ = some (.int .u64 tk) ∧ w'.cell? ⟨w.heap.size + 1, 2, none⟩ = some (.int .i64 t2) ∧ w'.cell? ⟨w.heap.size + 1, 3, none⟩ = some (.int .i64 c2) ∧ w'.cell? ⟨w.heap.size + 1, 4, none⟩ = some (.int .i64 s)) (repeat (first | with_reducible assumption | refine ⟨?_, ?_⟩ | with_reducible refine kdrew ?_ | with_reducible refine kalloc ?_ _ | refine (HBX.out.cell (by ((try simp); (try omega)))).trans ?_ | refine (HBY.out.cell (by ((try simp); (try omega)))).trans ?_)) (first | (go_at_call 13; refine (op_nil (o := ⟨k, t, c, n⟩) _ HO.out).mono ?_; rintro e wx ⟨vX, rfl, hg, ho⟩; have hzx := hg.below.size; (try simp at hzx); have HBX := Lib.hid hg.below; have HOX := Lib.hid ho; clear hg ho) | (go_at_call 14; refine (result_nil (o := ⟨a, tk, t2, c2, s⟩) _ HRE.out).mono ?_; rintro e wy ⟨vY, rfl, hg, ho⟩; have hzy := hg.below.size; (try simp at hzy); have HBY := Lib.hid hg.below; have HOY := Lib.hid ho; clear hg ho))
      all_goals
        go_wp2
        go_meet
        have hox := HOX.out
        have hoy := HOY.out
        rw [HP.out] at hox
        rw [HQ.out] at hoy
        first
        | exact ⟨(hox.below HBY.out).weak (by simp), hoy.weak (by (try simp); omega), (Below.drew (Below.refl _ _)).trans ((HBX.out.mono (by simp)).trans (HBY.out.mono (by (try simp); omega)))⟩
        | exact ⟨hox.weak (by (try simp); omega), (hoy.below HBX.out).weak (by simp), (Below.drew (Below.refl _ _)).trans ((HBY.out.mono (by simp)).trans (HBX.out.mono (by (try simp); omega)))⟩
    case rest =>
      obtain ⟨hox, hoy, hbc⟩ := hcut
      clear d0 d1 d2 d3 e0 e1 e2 e3 e4
      have hxC1 := HX1.out.below_ hbc hz1
      have hxC2 := HX2.out.below_ hbc hz2
      have dC0 : wc.cell? ⟨w.heap.size, 0, none⟩ = some (.int .u8 k) := hxC1.val rfl
      have dC1 : wc.cell? ⟨w.heap.size, 1, none⟩ = some (.int .i64 t) := hxC1.val rfl
      have dC2 : wc.cell? ⟨w.heap.size, 2, none⟩ = some (.int .i64 c) := hxC1.val rfl
      have dC3 : wc.cell? ⟨w.heap.size, 3, none⟩ = some (.int .i64 n) := hxC1.val rfl
      obtain ⟨Ap, cp, rfl, hcp, _, hrp, hnp, _⟩ := hox.rd
      obtain ⟨Aq, cq, rfl, hcq, _, hrq, hnq, _⟩ := hoy.rd
      rw [HPL.out] at hcp hnp ⊢
      rw [HQL.out] at hcq hnq ⊢
      have HRP := Lib.hid hrp
      have HRQ := Lib.hid hrq
      have HNP := Lib.hid (fun h : Ap = none => (hnp h).2)
      have HNQ := Lib.hid (fun h : Aq = none => (hnq h).2)
      have HBC := Lib.hid (HB1.out.trans (hbc.mono HB1.out.size))
      have HXC1 := Lib.hid hxC1
      have HXC2 := Lib.hid hxC2
      clear hox hoy hrp hrq hnp hnq hbc hxC1 hxC2 HX1 HX2 hz1 hz2
      go_wp2_with fail
      refine (rop_any (o := ⟨k, t, c, n⟩) _ HO.out).mono ?_
      rintro e wD ⟨vD, rfl, hoD, hbD⟩
      rw [HP.out] at hoD
      obtain ⟨AD, cD, rfl, _, _, hrD, _, _⟩ := hoD.rd
      rw [HPL.out]
      have HRD := Lib.hid hrD
      have HBD := Lib.hid hbD
      clear hoD hbD hrD
      go_wp2_with fail
      have heq := equal_yes (w := wD) (c := cp) (c' := cD) (HRP.out.below HBD.out) HRD.out
      rw [HPL.out] at heq
      refine heq.mono ?_
      rintro e wE ⟨rfl, rfl⟩
      clear heq dC0 dC1 dC2 dC3
      have hxC2 := HXC2.out.below_ HBD.out HXC2.out.size
      have eC0 : wD.cell? ⟨w.heap.size + 1, 0, none⟩ = some (.int .u8 a) := hxC2.val rfl
      have eC1 : wD.cell? ⟨w.heap.size + 1, 1, none⟩ = some (.int .u64 tk) := hxC2.val rfl
      have eC2 : wD.cell? ⟨w.heap.size + 1, 2, none⟩ = some (.int .i64 t2) := hxC2.val rfl
      have eC3 : wD.cell? ⟨w.heap.size + 1, 3, none⟩ = some (.int .i64 c2) := hxC2.val rfl
      have eC4 : wD.cell? ⟨w.heap.size + 1, 4, none⟩ = some (.int .i64 s) := hxC2.val rfl
      clear hxC2
      go_wp2_with fail
      refine (rres_any (o := ⟨a, tk, t2, c2, s⟩) _ HRE.out).mono ?_
      rintro e wF ⟨vF, rfl, hoF, hbF⟩
      rw [HQ.out] at hoF
      obtain ⟨AF, cF, rfl, _, _, hrF, _, _⟩ := hoF.rd
      rw [HQL.out]
      have HRF := Lib.hid hrF
      have hbCF := HBD.out.trans (hbF.mono HBD.out.size)
      have HBF := Lib.hid hbCF
      clear hoF hbF hrF hbCF
      go_wp2_with fail
      have heq := equal_yes (w := wF) (c := cq) (c' := cF) (HRQ.out.below HBF.out) HRF.out
      rw [HQL.out] at heq
      refine heq.mono ?_
      rintro e wE ⟨rfl, rfl⟩
      clear heq eC0 eC1 eC2 eC3 eC4
      -- GEN4
      go_wp2_with fail
      have hcl := clone_any (w := wF) (c := cp) (HRP.out.below HBF.out) HBF.out.size (by rw [HPL.out]; omega) HNP.out
      rw [HPL.out] at hcl
      refine hcl.mono ?_
      rintro e wG ⟨vG, rfl, hoG, hbG⟩
      have HOG := Lib.hid hoG
      have HBG := Lib.hid hbG
      have HRG := Lib.hid (HR.out.below ((HBC.out.trans (HBF.out.mono HBC.out.size)).trans (hbG.mono (HBC.out.trans (HBF.out.mono HBC.out.size)).size)))
      clear hoG hbG hcl
      go_wp2_with (at_builtin; refine wpList_more (base := wF.heap.size) (B := w.heap.size) (L := P) (M := F) (A := A) (c := cap) rfl (.tmp 40) (.tmp 41) rfl rfl (by rw [HFL.out]; rfl) HOG.out HRG.out (by rw [HPL.out, HFL.out]; omega) HBG.out.size ?_; intro vGa wGa hoa hga; obtain ⟨AGa, cGa, eGa, hcGa, _, hrGa, _, _⟩ := hoa.rd; have hlG : (P ++ F).length = p + m := (by rw [List.length_append, HPL.out, HFL.out]); have hccG := hcGa; rw [hlG] at eGa hcGa; subst eGa; have HRGa := Lib.hid hrGa; have HCCG := Lib.hid hccG; have HLG := Lib.hid hlG; have hbGa := HBG.out.trans hga.below_; have HBGa := Lib.hid hbGa; clear hoa hga hrGa hccG hlG hbGa)
      have hre := readop_any (w := wGa) (c := cGa) (o := ⟨k, t, c, n⟩) (L1 := encs (OpV.ns ⟨k, t, c, n⟩) ++ F) (T := []) (R := F) (A := AGa) (B := wGa.heap.size) (by have h := HRGa.out; rw [← HP.out] at h; exact h) (Nat.le_refl _) (by have h := HCCG.out; rw [← HP.out] at h; exact h) (by simp) (by have h := HLG.out; rw [← HP.out] at h; simp only [OpV.enc, List.cons_append, List.length_cons] at h; omega) HO.out
      have hlq : ((⟨k, t, c, n⟩ : OpV).k :: (encs (OpV.ns ⟨k, t, c, n⟩) ++ F)).length = p + m := by have h := HLG.out; rw [← HP.out] at h; exact h
      rw [hlq] at hre
      refine hre.mono ?_
      rintro e wGb ⟨hbGb, (⟨hq1, _⟩ | ⟨_, rfl⟩)⟩
      · exact absurd hq1 (by rw [List.length_append]; omega)
      have hsz : 1 + (encs (OpV.ns ⟨k, t, c, n⟩)).length = p := by have h := HPL.out; rw [← HP.out] at h; simp only [OpV.enc, List.length_cons] at h; omega
      rw [hsz]
      have HBGb := Lib.hid (HBGa.out.trans (hbGb.mono HBGa.out.size))
      clear hre hlq hsz hbGb
      have HXG := Lib.hid (show Blk (wGb.alloc (.cells #[.int .u8 k, .int .i64 t, .int .i64 c, .int .i64 n] 33)) wGb.heap.size 33 #[.int .u8 k, .int .i64 t, .int .i64 c, .int .i64 n] from Blk.made _ _ _)
      have HBGc := Lib.hid ((HBF.out.trans (HBGb.out.mono HBF.out.size)).alloc (HBF.out.trans (HBGb.out.mono HBF.out.size)).size (.cells #[.int .u8 k, .int .i64 t, .int .i64 c, .int .i64 n] 33))
      go_upto_region 8 with fail
      obtain ⟨wH, hwH⟩ : ∃ wH, wGb.alloc (.cells #[.int .u8 k, .int .i64 t, .int .i64 c, .int .i64 n] 33) = wH := ⟨_, rfl⟩
      rw [hwH] at HXG HBGc ⊢
      clear hwH
      obtain ⟨gx, hgx⟩ : ∃ gx, wGb.heap.size = gx := ⟨_, rfl⟩
      rw [hgx] at HXG ⊢
      clear hgx HBG HBGa HBGb HRG HRGa HOG HCCG HLG
      go_wp2_with fail
      have hcl := clone_any (w := wH) (c := cq) (HRQ.out.below HBGc.out) HBGc.out.size (by rw [HQL.out]; omega) HNQ.out
      rw [HQL.out] at hcl
      refine hcl.mono ?_
      rintro e wK ⟨vK, rfl, hoK, hbK⟩
      have HOK := Lib.hid hoK
      have HBK := Lib.hid hbK
      have HRK := Lib.hid (HR.out.below ((HBC.out.trans (HBGc.out.mono HBC.out.size)).trans (hbK.mono (HBC.out.trans (HBGc.out.mono HBC.out.size)).size)))
      clear hoK hbK hcl
      go_wp2_with (at_builtin; refine wpList_more (base := wH.heap.size) (B := w.heap.size) (L := Q) (M := F) (A := A) (c := cap) rfl (.tmp 49) (.tmp 50) rfl rfl (by rw [HFL.out]; rfl) HOK.out HRK.out (by rw [HQL.out, HFL.out]; omega) HBK.out.size ?_; intro vKa wKa hoa hga; obtain ⟨AKa, cKa, eKa, hcKa, _, hrKa, _, _⟩ := hoa.rd; have hlK : (Q ++ F).length = q + m := (by rw [List.length_append, HQL.out, HFL.out]); have hccK := hcKa; rw [hlK] at eKa hcKa; subst eKa; have HRKa := Lib.hid hrKa; have HCCK := Lib.hid hccK; have HLK := Lib.hid hlK; have hbKa := HBK.out.trans hga.below_; have HBKa := Lib.hid hbKa; clear hoa hga hrKa hccK hlK hbKa)
      have hre := readres_any (w := wKa) (c := cKa) (o := ⟨a, tk, t2, c2, s⟩) (L1 := encs (ReV.ns ⟨a, tk, t2, c2, s⟩) ++ F) (T := []) (R := F) (A := AKa) (B := wKa.heap.size) (by have h := HRKa.out; rw [← HQ.out] at h; exact h) (Nat.le_refl _) (by have h := HCCK.out; rw [← HQ.out] at h; exact h) (by simp) (by have h := HLK.out; rw [← HQ.out] at h; simp only [ReV.enc, List.cons_append, List.length_cons] at h; omega) HRE.out
      have hlq : ((⟨a, tk, t2, c2, s⟩ : ReV).a :: (encs (ReV.ns ⟨a, tk, t2, c2, s⟩) ++ F)).length = q + m := by have h := HLK.out; rw [← HQ.out] at h; exact h
      rw [hlq] at hre
      refine hre.mono ?_
      rintro e wKb ⟨hbKb, (⟨hq1, _⟩ | ⟨_, rfl⟩)⟩
      · exact absurd hq1 (by rw [List.length_append]; omega)
      have hsz : 1 + (encs (ReV.ns ⟨a, tk, t2, c2, s⟩)).length = q := by have h := HQL.out; rw [← HQ.out] at h; simp only [ReV.enc, List.length_cons] at h; omega
      rw [hsz]
      have HBKb := Lib.hid (HBKa.out.trans (hbKb.mono HBKa.out.size))
      clear hre hlq hsz hbKb
      have hxE1 := ((HXC1.out.below_ HBGc.out HXC1.out.size).below_ HBKb.out (HXC1.out.below_ HBGc.out HXC1.out.size).size)
      have hxE2 := ((HXC2.out.below_ HBGc.out HXC2.out.size).below_ HBKb.out (HXC2.out.below_ HBGc.out HXC2.out.size).size)
      have hxE3 := HXG.out.below_ HBKb.out HXG.out.size
      have hgl := HXG.out.size
      have hgl2 := HBKb.out.size
      go_upto_region 9 with fail
      have hbL := ((Below.refl wKb.heap.size wKb).alloc (Nat.le_refl _) (.cells #[.int .u8 a, .int .u64 tk, .int .i64 t2, .int .i64 c2, .int .i64 s] 36))
      have hxE4 : Blk (wKb.alloc (.cells #[.int .u8 a, .int .u64 tk, .int .i64 t2, .int .i64 c2, .int .i64 s] 36)) wKb.heap.size 36 #[.int .u8 a, .int .u64 tk, .int .i64 t2, .int .i64 c2, .int .i64 s] := Blk.made _ _ _
      replace hxE1 := hxE1.below_ hbL hxE1.size
      replace hxE2 := hxE2.below_ hbL hxE2.size
      replace hxE3 := hxE3.below_ hbL hxE3.size
      have HBZ := Lib.hid (((HBC.out.trans (HBGc.out.mono HBC.out.size)).trans (HBKb.out.mono (HBC.out.trans (HBGc.out.mono HBC.out.size)).size)).trans (hbL.mono ((HBC.out.trans (HBGc.out.mono HBC.out.size)).trans (HBKb.out.mono (HBC.out.trans (HBGc.out.mono HBC.out.size)).size)).size))
      obtain ⟨wZ, hwZ⟩ : ∃ wZ, wKb.alloc (.cells #[.int .u8 a, .int .u64 tk, .int .i64 t2, .int .i64 c2, .int .i64 s] 36) = wZ := ⟨_, rfl⟩
      rw [hwZ] at hxE1 hxE2 hxE3 hxE4 HBZ ⊢
      clear hwZ hbL
      obtain ⟨gy, hgy⟩ : ∃ gy, wKb.heap.size = gy := ⟨_, rfl⟩
      rw [hgy] at hxE4 ⊢
      clear hgy hgl hgl2 HBK HBKa HBKb
      have z10 : wZ.cell? ⟨w.heap.size, 0, none⟩ = some (.int .u8 k) := hxE1.val rfl
      have z11 : wZ.cell? ⟨w.heap.size, 1, none⟩ = some (.int .i64 t) := hxE1.val rfl
      have z12 : wZ.cell? ⟨w.heap.size, 2, none⟩ = some (.int .i64 c) := hxE1.val rfl
      have z13 : wZ.cell? ⟨w.heap.size, 3, none⟩ = some (.int .i64 n) := hxE1.val rfl
      have z20 : wZ.cell? ⟨w.heap.size + 1, 0, none⟩ = some (.int .u8 a) := hxE2.val rfl
      have z21 : wZ.cell? ⟨w.heap.size + 1, 1, none⟩ = some (.int .u64 tk) := hxE2.val rfl
      have z22 : wZ.cell? ⟨w.heap.size + 1, 2, none⟩ = some (.int .i64 t2) := hxE2.val rfl
      have z23 : wZ.cell? ⟨w.heap.size + 1, 3, none⟩ = some (.int .i64 c2) := hxE2.val rfl
      have z24 : wZ.cell? ⟨w.heap.size + 1, 4, none⟩ = some (.int .i64 s) := hxE2.val rfl
      have z30 : wZ.cell? ⟨gx, 0, none⟩ = some (.int .u8 k) := hxE3.val rfl
      have z31 : wZ.cell? ⟨gx, 1, none⟩ = some (.int .i64 t) := hxE3.val rfl
      have z32 : wZ.cell? ⟨gx, 2, none⟩ = some (.int .i64 c) := hxE3.val rfl
      have z33 : wZ.cell? ⟨gx, 3, none⟩ = some (.int .i64 n) := hxE3.val rfl
      have z40 : wZ.cell? ⟨gy, 0, none⟩ = some (.int .u8 a) := hxE4.val rfl
      have z41 : wZ.cell? ⟨gy, 1, none⟩ = some (.int .u64 tk) := hxE4.val rfl
      have z42 : wZ.cell? ⟨gy, 2, none⟩ = some (.int .i64 t2) := hxE4.val rfl
      have z43 : wZ.cell? ⟨gy, 3, none⟩ = some (.int .i64 c2) := hxE4.val rfl
      have z44 : wZ.cell? ⟨gy, 4, none⟩ = some (.int .i64 s) := hxE4.val rfl
      clear hxE1 hxE2 hxE3 hxE4
      go_wp2
      go_ret
      exact ⟨by first | rfl | simp, HBZ.out⟩
set_option maxRecDepth 100000 in
theorem lifted (os : Os) (started : os.Started) (H : Type) (enc : TypeId × Value → H) :
    ReturnsInHanded {} Try.checked os 4 .any (Rows.callOpsSpec.pre6 enc Try.prog Try.f4 Rows.callOpsRow.domain false) (Rows.callOpsSpec.post enc Try.prog Try.f4 false true false false) := by
  refine returnsInHanded_of_change (C := Try.checked) own started (by kernel_rfl) Try.func4
    (ChangeSpec.witness6 (enc := enc) (C := Try.checked) false ⟨#[], #[.agg #[.int .u8 0, .int .i64 0, .int .i64 0, .int .i64 0], .agg #[.int .u8 0, .int .u64 0, .int .i64 0, .int .i64 0, .int .i64 0], .slice none 0 0], []⟩ 8 (by kernel_rfl) (by kernel_rfl) (by kernel_rfl) (by kernel_rfl)) ?_
  intro W base args ds gs before hval0 hW hcnd _
  have hval : ∀ (j : Nat) t v, Try.f4.params[j]? = some t → args[j]? = some v → Value.okWide Try.prog W .any base t v := hval0
  have hW' := hW
  obtain ⟨p, q, hA0, hV, rfl, hfz, hnd⟩ := hW
  have hA : DataW.TrodAll enc Try.prog W 0 (fun _ => true) true Try.f4.params.toList args.toList ds p := hA0
  rw [Try.params4] at hA hval
  obtain ⟨v0, vs0, d0, ds0, p0, q0, hargs, rfl, rfl, h0, r0⟩ := trodAll_cons hA
  obtain ⟨v1, vs1, d1, ds1, p1, q1, rfl, rfl, rfl, h1, r1⟩ := trodAll_cons r0
  obtain ⟨v2, vs2, d2, ds2, p2, q2, rfl, rfl, rfl, h2, r2⟩ := trodAll_cons r1
  obtain ⟨rfl, rfl, rfl⟩ := trodAll_nil r2
  obtain rfl : args = #[v0, v1, v2] := by cases args; simp_all
  obtain ⟨rfl, rfl⟩ := trodVars_none hV
  obtain ⟨x00, x01, x02, x03, y00, y01, y02, y03, n0, rfl, g00, g01, g02, g03⟩ := open_four Try.underlying33 (by kernel_rfl) (by kernel_rfl) (hval 0 _ v0 rfl rfl) h0
  obtain ⟨a00, e00, ez00, w00⟩ := DataW.trod_int Try.underlying5 g00
  simp at e00
  subst e00
  obtain ⟨a01, e01, ez01, w01⟩ := DataW.trod_int Try.underlying3 g01
  simp at e01
  subst e01
  obtain ⟨a02, e02, ez02, w02⟩ := DataW.trod_int Try.underlying3 g02
  simp at e02
  subst e02
  obtain ⟨a03, e03, ez03, w03⟩ := DataW.trod_int Try.underlying2 g03
  simp at e03
  subst e03
  obtain ⟨x10, x11, x12, x13, x14, y10, y11, y12, y13, y14, n1, rfl, g10, g11, g12, g13, g14⟩ := open_five Try.underlying36 (by kernel_rfl) (by kernel_rfl) (hval 1 _ v1 rfl rfl) h1
  obtain ⟨a10, e10, ez10, w10⟩ := DataW.trod_int Try.underlying5 g10
  simp at e10
  subst e10
  obtain ⟨a11, e11, ez11, w11⟩ := DataW.trod_int Try.underlying34 g11
  simp at e11
  subst e11
  obtain ⟨a12, e12, ez12, w12⟩ := DataW.trod_int Try.underlying3 g12
  simp at e12
  subst e12
  obtain ⟨a13, e13, ez13, w13⟩ := DataW.trod_int Try.underlying3 g13
  simp at e13
  subst e13
  obtain ⟨a14, e14, ez14, w14⟩ := DataW.trod_int Try.underlying2 g14
  simp at e14
  subst e14
  obtain ⟨A2, len2, cap2, rfl⟩ := okWide_slice Try.underlying22 (hval 2 _ v2 rfl rfl)
  obtain ⟨fu2, g2⟩ := h2
  obtain ⟨s2, t2, Q2, u2, o2⟩ := open_u8n g2
  clear hA0 hval0
  obtain ⟨l00, m00⟩ := wf_u8 w00
  obtain ⟨l01, m01⟩ := wf_i64 w01
  obtain ⟨l02, m02⟩ := wf_i64 w02
  obtain ⟨l03, m03⟩ := wf_i64 w03
  obtain ⟨l10, m10⟩ := wf_u8 w10
  obtain ⟨l11, m11⟩ := wf_u64 w11
  obtain ⟨l12, m12⟩ := wf_i64 w12
  obtain ⟨l13, m13⟩ := wf_i64 w13
  obtain ⟨l14, m14⟩ := wf_i64 w14
  refine (walk a00 a01 a02 a03 a10 a11 a12 a13 a14 A2 len2 cap2 Q2 W s2 t2 u2 o2 l00 m00 l01 m01 l02 m02 l03 m03 l10 m10 l11 m11 l12 m12 l13 m13 l14 m14).mono fun e W' ⟨he, hg⟩ => ?_
  subst he
  exact ⟨_, rfl, post_of_law hW' rfl laidOut reads rfl Try.underlying4 rfl rfl rfl hg⟩
theorem over : Rows.callOpsRow.holds Try.pinned (OpenSpec.ofChange Rows.callOpsSpec) :=
  OpenClaim.holds_of_wide 4 Try.f4 rfl rfl rfl rfl rfl rfl rfl ⟨rfl, rfl, rfl, rfl, rfl⟩ rfl rfl rfl rfl rfl (by kernel_rfl) Try.func4 (by kernel_rfl)
    (of_decide_eq_true (by kernel_rfl)) (by unfold Func.isWrapper; first | (rw [if_pos (by decide +kernel)]; kernel_rfl) | (rw [if_neg (by decide +kernel)]; exact ⟨rfl, rfl⟩))
    (fun os started H enc _ => lifted os started H enc)
theorem proved : Rows.CallOpsSaid := over
end Go.Proofs.Ytmnkmnnngfgbgaa.callOps
