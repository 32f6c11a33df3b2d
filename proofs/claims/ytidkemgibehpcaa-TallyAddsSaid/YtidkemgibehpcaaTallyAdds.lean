/- TallyAdds is true of every list of outcomes, and changes nothing that it was given. -/
import Derived.Test.YtidkemgibehpcaaTlq
import Derived.Test.YtidkemgibehpcaaRowb
import Derived.Test.YtidkemgibehpcaaRows
import Derived.WalkKit
import Derived.SizedLaws
import Derived.ProofKit
import Derived.OpenShut
import Derived.Deep.DeepCutAuto
namespace Go.Proofs.Ytidkemgibehpcaa.tallyAdds
open Go.ChangeShapes Go.WideShapes Go.ChangeAt Go.RowKit
set_option linter.unusedVariables false
theorem own : ownKnob Try.prog.godebug = none := by kernel_rfl
theorem laidOut : laidOutB Try.prog = true := by kernel_rfl
theorem reads : (Try.f4.params.toList.all fun t => Try.prog.readableRec t && decide (t < Try.prog.types.size)) = true := by kernel_rfl
set_option maxRecDepth 100000 in
set_option maxHeartbeats 8000000 in
theorem walk (A : Option Addr) (len cap : Nat) (Q : Nat → Oc) (w : World) (hlc : len ≤ cap) (hcm : cap ≤ maxLen) (hQ : SeqAt w w.heap.size A len 6 (fun i => ocRow (Q i))) (hok : ∀ i, (Q i).ok) (hzz : len * 48 ≤ 140737488351232) :
    Calls Try.prog 4 #[.slice A len cap] w fun e w' => e = .returned (.bool true) ∧ Below w.heap.size w w' := by
  have HQ := Lib.hid hQ
  have HOK := Lib.hid hok
  obtain ⟨F, hF⟩ : ∃ F : Nat → Oc, ∀ i, F i = smallO (Q i) := ⟨_, fun _ => rfl⟩
  have hFo : ∀ i, (F i).ok := fun i => by rw [hF]; exact small_ok (hok i)
  have HF1 := Lib.hid hF
  have HFO := Lib.hid hFo
  obtain ⟨L, hL⟩ : ∃ L, takeF F (min len 60) = L := ⟨_, rfl⟩
  obtain ⟨n, hn⟩ : ∃ n, L.length = n := ⟨_, rfl⟩
  have hn60 : n ≤ 60 := by rw [← hn, ← hL, takeF_len]; omega
  have HL := Lib.hid hL
  have HN := Lib.hid hn
  have hsm : Smalls L := by
    rw [← hL]
    intro o ho
    unfold takeF at ho
    obtain ⟨i, _, rfl⟩ := List.mem_map.1 ho
    rw [hF]
    have h1 := and7 (Q i).b
    have h2 := (hok i).2.2.2.1
    unfold smallO
    simp only
    omega
  have HSM := Lib.hid hsm
  obtain ⟨D, hD⟩ : ∃ S, L.filter (someB (-1) 1) = S := ⟨_, rfl⟩
  have HD := Lib.hid hD
  obtain ⟨t, ht⟩ : ∃ t, topK D = t := ⟨_, rfl⟩
  have HT := Lib.hid ht
  have hDl : D.length ≤ 60 := by rw [← hD]; exact Nat.le_trans (List.length_filter_le _ _) (by omega)
  have ht64 : t ≤ 64 := by
    rw [← ht]
    refine topK_le ?_
    rw [← hD, ← hL]
    exact okL_filter (okL_takeF hFo _)
  clear hQ hok hF hFo hL hn hsm hD ht hcm
  go_enter Try.func4, Try.ntmps4
  go_upto_region 5 with (first | (go_at_call 7; (with_reducible refine (lawake _).mono ?_); rintro e wx ⟨rfl, hbx⟩; have HB1 := Lib.hid hbx; clear hbx))
  go_loopw [3, 19] (fun s3 s19 wr => ∃ (j : Nat) (Ao : Option Addr) (co : Nat), j ≤ len ∧ s19 = .int .i64 (j : Int) ∧ s3 = .slice Ao j co ∧ OwO tT wr w.heap.size (.slice Ao j co) (takeF F j) ∧ Below w.heap.size w wr) (fun _ s _ => len - (intOf s).toNat)
  case atStart => exact ⟨0, none, 0, Nat.zero_le _, rfl, rfl, OwO.nil_ _ _ _, HB1.out⟩
  case round =>
    clear HB1
    obtain ⟨j, Ao, co, hj, rfl, rfl, ho, hb⟩ := hrel
    have hsz := hb.size
    by_cases hjl : j < len
    · obtain ⟨qb, qo, rfl, hqb, hqc⟩ := SeqAt.below HQ.out hb (by omega)
      have hokj := HOK.out j
      have hrow := hqc j hjl
      obtain ⟨⟨ya, yb, yc, yd, ye, yf⟩, hy⟩ : ∃ y, Q j = y := ⟨_, rfl⟩
      simp only [hy, ocRow] at hrow
      rw [hy] at hokj
      have r0 := hrow 0 (by omega)
      have r1 := hrow 1 (by omega)
      have r2 := hrow 2 (by omega)
      have r3 := hrow 3 (by omega)
      have r4 := hrow 4 (by omega)
      have r5 := hrow 5 (by omega)
      simp only [List.getElem?_cons_zero, List.getElem?_cons_succ, Nat.add_zero] at r0 r1 r2 r3 r4 r5
      obtain ⟨zb, hzb⟩ : ∃ z, bits BinOp.and IntKind.i64 yb 7 = z := ⟨_, rfl⟩
      obtain ⟨zd, hzd⟩ : ∃ z, yd % 6 = z := ⟨_, rfl⟩
      have hyd : 0 ≤ yd ∧ yd ≤ 255 := hokj.2.2.2.1
      have hrem : yd.tmod 6 = zd := by rw [Int.tmod_eq_emod_of_nonneg hyd.1]; exact hzd
      have hzd2 : 0 ≤ zd ∧ zd ≤ 5 := by omega
      have hwr : IntKind.u8.wrap (1 + zd) = 1 + zd := IntWalk.u8_in _ (by omega)
      have hFj : F j = ⟨ya, zb, yc, 1 + zd, ye, yf⟩ := by rw [HF1.out, hy]; unfold smallO; simp only [hzb, hzd]
      have HFJ := Lib.hid hFj
      have HO := Lib.hid ho
      have HB := Lib.hid hb
      have k0 : (0 : Int) ≤ (j : Int) := by omega
      have k1 : (j : Int) < (len : Int) := by omega
      have hl48 : (j + 1) * 48 ≤ 140737488355328 := by omega
      have HL48 := Lib.hid hl48
      clear hqc hrow hy hokj hzd hFj ho hb hl48
      go_wp2_with (at_builtin; refine wpList_ocb (F := F) (n := j) (z := ⟨ya, zb, yc, 1 + zd, ye, yf⟩) (g := wr.heap.size + 1) tlinfo Try.underlying22 rfl (.tmp 32) (.tmp 34) rfl rfl (by simp only [Act.eval]; first | rfl | simp) ((HO.out.below ((Below.refl _ _).alloc (Nat.le_refl _) _)).below ((Below.refl _ _).alloc (Nat.le_refl _) _)) HFJ.out (Blk.new_ (by simp)) HL48.out (by simp; omega) ?_; intro A5 c5 w5 hown5 hg5; have HO5 := Lib.hid hown5; have HB5 := Lib.hid (((HB.out.alloc hsz _).alloc (by simp; omega) _).grown hg5 (by simp; omega) (fun k e => (HO.out.own_lt e).1)); clear hown5 hg5)
      exact ⟨⟨j + 1, A5, c5, by omega, by go_num, rfl, HO5.out, HB5.out⟩, by simp [intOf]; omega⟩
    · obtain rfl : j = len := by omega
      obtain ⟨wq, hwq⟩ : ∃ wq, wq = wr := ⟨_, rfl⟩
      rw [← hwq] at ho hb hsz ⊢
      clear hwq
      clear wr
      obtain ⟨A4, c4, hv4, hd4, hc4⟩ := OwO.rd ho
      rw [takeF_len] at hv4
      injection hv4 with hv1 hv2 hv3
      subst hv1 hv3
      have hco : j ≤ co ∧ co ≤ maxLen := by
        rcases ho.2 with ⟨h1, h2⟩ | ⟨g, cap', cur, h1, h2, h3, h4, h5, h6⟩
        · rw [takeF_len] at h2
          injection h1 with h1 h7 h8
          subst h8
          exact ⟨by omega, by unfold maxLen; omega⟩
        · rw [takeF_len] at h1 h4
          injection h1 with h1 h7 h8
          subst h8
          exact ⟨h4, h5⟩
      have hsq : SeqAt wq wq.heap.size Ao j 6 fun i => ocRow (F i) := by
        intro h0
        obtain ⟨b, off, e, hb1, hc1⟩ := hd4 (by rw [takeF_len]; exact h0)
        refine ⟨b, off, e, hb1, fun i hi k hk => ?_⟩
        have := hc1 i (by rw [takeF_len]; exact hi) k hk
        rw [show ((fun i => ocRow (takeF F j)[i]!) i) = ocRow (F i) from by rw [← takeF_get F hi]] at this
        exact this
      have HFIL := Lib.hid (fun W hW => fil_of (W := W) hsq hco.1 hco.2 HFO.out hW HL.out HN.out)
      have HB1 := Lib.hid (Below.refl wq.heap.size wq)
      have HBQ := Lib.hid hb
      clear ho hb hc4 hd4 hco hsq hv2
      go_upto_region 13 with (first | (go_at_call 8; (with_reducible refine (HFIL.out _ HB1.out).mono ?_); rintro e wx ⟨p, r, Af, cf, rfl, hf, hbx⟩; have HF := Lib.hid hf; clear hf hbx))
      obtain ⟨wA, hwA⟩ : ∃ wA, wA = wx := ⟨_, rfl⟩
      rw [← hwA] at HF ⊢
      clear hwA
      go_loopw [8, 42] (fun s8 s42 wr => ∃ (a : Nat), a ≤ 8 ∧ s42 = .int .i64 (a : Int) ∧ s8 = .int .i64 (cB L a : Int) ∧ Below wA.heap.size wA wr) (fun _ s _ => 8 - (intOf s).toNat)
      case atStart => exact ⟨0, by omega, rfl, by rw [cB_zero HSM.out]; rfl, Below.refl _ _⟩
      case round =>
        obtain ⟨a, ha, rfl, rfl, hba⟩ := hrel
        have hcb := cB_le (L := L) a
        by_cases ha8 : a < 8
        · obtain ⟨wo, hwo⟩ : ∃ wo, wo = wr := ⟨_, rfl⟩
          rw [← hwo] at hba ⊢
          clear hwo
          clear wr
          have HBA := Lib.hid hba
          clear hba
          have ha8' : (a : Int) < 8 := by omega
          go_wp2_with fail
          go_loopw [11, 45] (fun s11 s45 wr => ∃ (y : Nat), y ≤ 6 ∧ s45 = .int .u8 (y : Int) ∧ s11 = .int .i64 (cD L a y : Int) ∧ Below wA.heap.size wA wr) (fun _ s _ => 6 - (intOf s).toNat)
          case atStart => exact ⟨0, by omega, rfl, by rw [cD_zero HSM.out]; rfl, HBA.out⟩
          case round =>
            obtain ⟨y, hy, rfl, rfl, hby⟩ := hrel
            have hf2 := HF.out.below hby
            have HFY := Lib.hid hf2
            have HBY := Lib.hid hby
            clear hf2 hby
            have hcd := cD_le (L := L) a y
            have hNl := HN.out
            by_cases hy6 : y < 6
            · have hy6' : (y : Int) < 6 := by omega
              have hsu := cD_succ HSM.out a y
              have hle := cD_le (L := L) a (y + 1)
              have hw8 : IntKind.u8.wrap ((y : Int) + 1) = (y : Int) + 1 := IntWalk.u8_in _ (by omega)
              obtain ⟨v1, hv1⟩ : ∃ v, cS L (a : Int) ((y : Int) + 1) = v := ⟨_, rfl⟩
              obtain ⟨v2, hv2⟩ : ∃ v, cD L a y = v := ⟨_, rfl⟩
              rw [hv1, hv2] at hsu
              rw [hv2] at hcd ⊢
              have hw9 : IntKind.i64.wrap ((v2 : Int) + (v1 : Int)) = ((v2 + v1 : Nat) : Int) := by rw [IntWalk.i64_in _ (by omega)]; omega
              have HSU := Lib.hid hsu
              have HV1 := Lib.hid hv1
              clear hsu hv1 hv2
              go_wp2_with ((go_at_call 12; (with_reducible refine (HFY.out.cnt_ (a : Int) ((y : Int) + 1)).mono ?_); rintro e wx ⟨rfl, hbx⟩; rw [HV1.out]; have HBX := Lib.hid hbx; clear hbx))
              exact ⟨⟨y + 1, by omega, by go_num, by rw [HSU.out]; go_num, HBY.out.trans (HBX.out.mono HBY.out.size)⟩, by simp [intOf]; omega⟩
            · obtain rfl : y = 6 := by omega
              have hs6 := cD_six HSM.out a
              have hsb := cB_succ HSM.out a
              have hle := cB_le (L := L) (a + 1)
              rw [hs6] at hcd ⊢
              obtain ⟨v1, hv1⟩ : ∃ v, cS L (a : Int) 0 = v := ⟨_, rfl⟩
              obtain ⟨v2, hv2⟩ : ∃ v, cB L a = v := ⟨_, rfl⟩
              rw [hv1, hv2] at hsb
              rw [hv1] at hcd ⊢
              rw [hv2] at hcb ⊢
              have hw9 : IntKind.i64.wrap ((v2 : Int) + (v1 : Int)) = ((v2 + v1 : Nat) : Int) := by rw [IntWalk.i64_in _ (by omega)]; omega
              have HSB := Lib.hid hsb
              have HV1 := Lib.hid hv1
              clear hsb hv1 hv2 hs6
              go_wp2_with ((go_at_call 12; (with_reducible refine (HFY.out.cnt_ (a : Int) 0).mono ?_); rintro e wx ⟨rfl, hbx⟩; rw [HV1.out]; have HBX := Lib.hid hbx; clear hbx))
              exact ⟨⟨a + 1, by omega, by go_num, by rw [HSB.out]; go_num, HBY.out.trans (HBX.out.mono HBY.out.size)⟩, by simp [intOf]; omega⟩
        · obtain rfl : a = 8 := by omega
          have h8 := cB_eight HSM.out
          have hf2 := HF.out.below hba
          clear HF
          have HF := Lib.hid hf2
          have HBA := Lib.hid hba
          rw [h8, HN.out]
          clear hf2 hba h8 hcb
          go_wp2_with ((go_at_call 14; (with_reducible refine (HF.out.spread_ (-1) HD.out HT.out).mono ?_); rintro e wx ⟨Ax, cx, rfl, hox, hbx⟩; have HSP := Lib.hid hox; clear hox; have hfx := HF.out.below hbx; clear HF; have HF := Lib.hid hfx; clear hfx; clear hbx))
          obtain ⟨wo, hwo⟩ : ∃ wo, wo = wx := ⟨_, rfl⟩
          rw [← hwo] at HF HSP ⊢
          clear hwo
          go_loopw [9, 68] (fun s9 s68 wr => ∃ (i : Nat), i ≤ t ∧ s68 = .int .i64 (i : Int) ∧ s9 = .int .i64 (cK D i : Int) ∧ wr = wo) (fun _ s _ => t - (intOf s).toNat)
          case atStart => exact ⟨0, Nat.zero_le _, rfl, by rw [cK_zero]; rfl, rfl⟩
          case round =>
            obtain ⟨i, hi, rfl, rfl, rfl⟩ := hrel
            have hck := cK_le (D := D) i
            by_cases hit : i < t
            · obtain ⟨g, cp, hv, hg1, hg2⟩ := own_at HSP.out (by omega)
              injection hv with hv1 hv2 hv3
              subst hv1 hv3
              have e0 := (HSP.out.cellAt i (by omega)).trans (rowF_get (cntK D) hit)
              have hsu := cK_succ (D := D) i
              have hle := cK_le (D := D) (i + 1)
              obtain ⟨v1, hv1⟩ : ∃ v, cntK D i = v := ⟨_, rfl⟩
              obtain ⟨v2, hv2⟩ : ∃ v, cK D i = v := ⟨_, rfl⟩
              rw [hv1, hv2] at hsu
              rw [hv1] at e0
              rw [hv2] at hck ⊢
              have hw9 : IntKind.i64.wrap ((v2 : Int) + (v1 : Int)) = ((v2 + v1 : Nat) : Int) := by rw [IntWalk.i64_in _ (by omega)]; omega
              have HSU := Lib.hid hsu
              have k0 : (0 : Int) ≤ (i : Int) := by omega
              have k1 : (i : Int) < (t : Int) := by omega
              clear hsu hv1 hv2
              go_wp2_with fail
              exact ⟨⟨i + 1, by omega, by go_num, by rw [HSU.out]; go_num, by trivial⟩, by simp [intOf]; omega⟩
            · obtain rfl : i = t := by omega
              have e1 : cK D i = cS L (-1) 1 := by rw [← HT.out, cK_top, ← HD.out]; rfl
              have e2 : cS L (-1) 0 = n := by rw [cS_all]; exact HN.out
              rw [e1]
              have HE2 := Lib.hid e2
              obtain ⟨v3, hv3⟩ : ∃ v, cS L (-1) 1 = v := ⟨_, rfl⟩
              have HV3 := Lib.hid hv3
              rw [hv3]
              clear e1 e2 hv3
              go_wp2_with (first | (go_at_call 12; (with_reducible refine (HF.out.cnt_ (-1) 0).mono ?_); rintro e wx ⟨rfl, hbx⟩; rw [HE2.out]; have hfx := HF.out.below hbx; clear HF; have HF := Lib.hid hfx; clear hfx; clear hbx) | (go_at_call 12; (with_reducible refine (HF.out.cnt_ (-1) 1).mono ?_); rintro e wx ⟨rfl, hbx⟩; rw [HV3.out]; have hfx := HF.out.below hbx; clear HF; have HF := Lib.hid hfx; clear hfx; clear hbx))
              go_ret
              exact ⟨rfl, HBQ.out.trans (HF.out.bel.mono hsz)⟩
set_option maxRecDepth 100000 in
theorem lifted (os : Os) (started : os.Started) (H : Type) (enc : TypeId × Value → H) :
    ReturnsInHanded {} Try.checked os 4 .any (Rows.tallyAddsSpec.pre6 enc Try.prog Try.f4 Rows.tallyAddsRow.domain false) (Rows.tallyAddsSpec.post enc Try.prog Try.f4 false true false false) := by
  refine returnsInHanded_of_change_sized (C := Try.checked) own started (by kernel_rfl) Try.func4
    (ChangeSpec.witness6 (enc := enc) (C := Try.checked) false ⟨#[], #[.slice none 0 0], []⟩ 8 (by kernel_rfl) (by kernel_rfl) (by kernel_rfl) (by kernel_rfl)) ?_
  intro W base args ds gs before hval0 hW hcnd hsz0 _
  have hsz : (DataW.weightsEach Try.prog (Try.f4.params.toList ++ Rows.tallyAddsSpec.plain.varTypes Try.prog) (ds ++ gs)).all (· ≤ reachBytes) = true := hsz0
  clear hsz0
  have hval : ∀ (j : Nat) t v, Try.f4.params[j]? = some t → args[j]? = some v → Value.okWide Try.prog W .any base t v := hval0
  have hW' := hW
  obtain ⟨p, q, hA0, hV, rfl, hfz, hnd⟩ := hW
  have hA : DataW.TrodAll enc Try.prog W 0 (fun _ => true) true Try.f4.params.toList args.toList ds p := hA0
  rw [Try.params4] at hA hval hsz
  obtain ⟨v0, vs0, d0, ds0, p0, q0, hargs, rfl, rfl, h0, r0⟩ := trodAll_cons hA
  obtain ⟨rfl, rfl, rfl⟩ := trodAll_nil r0
  obtain rfl : args = #[v0] := by cases args; simp_all
  obtain ⟨rfl, rfl⟩ := trodVars_none hV
  obtain ⟨A0, len0, cap0, rfl⟩ := okWide_slice Try.underlying22 (hval 0 _ v0 rfl rfl)
  obtain ⟨fu0, g0⟩ := h0
  obtain ⟨s0, t0, Q0, u0, o0⟩ := open_ocs g0
  have zz0 := sized_len (j := 0) Try.underlying22 g0 hsz rfl rfl
  rw [show Try.prog.bytesOf 45 = 48 from by kernel_rfl] at zz0
  clear hA0 hval0
  refine (walk A0 len0 cap0 Q0 W s0 t0 u0 o0 zz0).mono fun e W' ⟨he, hg⟩ => ?_
  subst he
  exact ⟨_, rfl, post_of_law hW' rfl laidOut reads rfl Try.underlying4 rfl rfl rfl hg⟩
theorem over : Rows.tallyAddsRow.holds Try.pinned (OpenSpec.ofChange Rows.tallyAddsSpec) :=
  OpenClaim.holds_of_wide 4 Try.f4 rfl rfl rfl rfl rfl rfl rfl ⟨rfl, rfl, rfl, rfl, rfl⟩ rfl rfl rfl rfl rfl (by kernel_rfl) Try.func4 (by kernel_rfl)
    (of_decide_eq_true (by kernel_rfl)) (by unfold Func.isWrapper; first | (rw [if_pos (by decide +kernel)]; kernel_rfl) | (rw [if_neg (by decide +kernel)]; exact ⟨rfl, rfl⟩))
    (fun os started H enc _ => lifted os started H enc)
theorem proved : Rows.TallyAddsSaid := over
end Go.Proofs.Ytidkemgibehpcaa.tallyAdds
