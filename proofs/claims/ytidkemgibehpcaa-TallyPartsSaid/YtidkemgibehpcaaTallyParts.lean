/- TallyParts is true of every list of outcomes, every place, tier and why, and changes nothing that it was given. -/
import Derived.Test.YtidkemgibehpcaaTlp
import Derived.Test.YtidkemgibehpcaaRowb
import Derived.Test.YtidkemgibehpcaaRows
import Derived.WalkKit
import Derived.ProofKit
import Derived.OpenShut
import Derived.Deep.DeepCutAuto
namespace Go.Proofs.Ytidkemgibehpcaa.tallyParts
open Go.ChangeShapes Go.WideShapes Go.ChangeAt Go.RowKit
set_option linter.unusedVariables false
theorem own : ownKnob Try.prog.godebug = none := by kernel_rfl
theorem laidOut : laidOutB Try.prog = true := by kernel_rfl
theorem reads : (Try.f6.params.toList.all fun t => Try.prog.readableRec t && decide (t < Try.prog.types.size)) = true := by kernel_rfl
set_option maxRecDepth 100000 in
set_option maxHeartbeats 8000000 in
theorem walk (A : Option Addr) (len cap : Nat) (Q : Nat → Oc) (at_ tier why : Int) (w : World) (hlc : len ≤ cap) (hcm : cap ≤ maxLen) (hQ : SeqAt w w.heap.size A len 6 (fun i => ocRow (Q i))) (hok : ∀ i, (Q i).ok) (a0 : 0 ≤ at_) (a1 : at_ ≤ 255) (b0 : -9223372036854775808 ≤ tier) (b1 : tier ≤ 9223372036854775807) (y0 : 0 ≤ why) (y1 : why ≤ 255) :
    Calls Try.prog 6 #[.slice A len cap, .int .u8 at_, .int .i64 tier, .int .u8 why] w fun e w' => e = .returned (.bool true) ∧ Below w.heap.size w w' := by
  obtain ⟨L, hL⟩ : ∃ L, takeF Q (min len 60) = L := ⟨_, rfl⟩
  obtain ⟨n, hn⟩ : ∃ n, L.length = n := ⟨_, rfl⟩
  have h60 : L.length ≤ 60 := by rw [← hL, takeF_len]; omega
  have HFIL := Lib.hid (fun W hW => fil_of (W := W) hQ hlc hcm hok hW hL hn)
  have HN := Lib.hid hn
  clear hlc hcm hQ hok hn hL
  have hn60 : n ≤ 60 := by rw [← HN.out]; exact h60
  obtain ⟨k, hk⟩ : ∃ k, at_.toNat % (n + 1) = k := ⟨_, rfl⟩
  have hkn : k ≤ n := by have := Nat.mod_lt at_.toNat (show n + 1 > 0 by omega); omega
  have hkk : at_.tmod ((n : Int) + 1) = (k : Int) := by
    have e : ((at_.toNat % (n + 1) : Nat) : Int) = (at_.toNat : Int) % ((n + 1 : Nat) : Int) := by first | exact Int.natCast_emod _ _ | exact Int.natCast_mod _ _ | rfl
    rw [Int.tmod_eq_emod_of_nonneg a0, ← hk, e, Int.toNat_of_nonneg a0]
    rfl
  have hw1 : IntKind.i64.wrap at_ = at_ := IntWalk.i64_in _ (by omega)
  have hw2 : IntKind.i64.wrap (k : Int) = (k : Int) := IntWalk.i64_in _ (by omega)
  have hnz : ¬ ((n : Int) + 1 = 0) := by omega
  obtain ⟨F1, hF1⟩ : ∃ S, L.take k = S := ⟨_, rfl⟩
  obtain ⟨M, hM⟩ : ∃ S, L.drop k = S := ⟨_, rfl⟩
  obtain ⟨S1, hS1⟩ : ∃ S, L.filter (someB tier why) = S := ⟨_, rfl⟩
  obtain ⟨S2, hS2⟩ : ∃ S, F1.filter (someB tier why) = S := ⟨_, rfl⟩
  obtain ⟨S3, hS3⟩ : ∃ S, M.filter (someB tier why) = S := ⟨_, rfl⟩
  have hsum : S1.length = S2.length + S3.length := by rw [← hS1, ← hS2, ← hS3, ← hF1, ← hM]; exact cnt_parts k _
  have hf1 : F1.length = k := by rw [← hF1, List.length_take]; have := HN.out; omega
  have hml : M.length ≤ 60 := by rw [← hM, List.length_drop]; omega
  have HLE := Lib.hid (show M.length ≤ 1000 ∧ M.length ≤ 1000 from ⟨by omega, by omega⟩)
  have HS1 := Lib.hid hS1
  have HS2 := Lib.hid hS2
  have HS3 := Lib.hid hS3
  have HF1 := Lib.hid hF1
  have HM := Lib.hid hM
  have HSUM := Lib.hid hsum
  have HFL := Lib.hid hf1
  have HML := Lib.hid hml
  have hs1l : S1.length ≤ 60 := by rw [← hS1]; exact Nat.le_trans (List.length_filter_le _ _) h60
  clear hS1 hS2 hS3 hF1 hM hsum hf1 hml hk h60 a0 a1 b0 b1 y0 y1
  go_enter Try.func6, Try.ntmps6
  go_upto_region 5 with (first | (go_at_call 7; (with_reducible refine (lawake _).mono ?_); rintro e wx ⟨rfl, hbx⟩; have HB1 := Lib.hid hbx; clear hbx) | (go_at_call 8; (with_reducible refine (HFIL.out _ HB1.out).mono ?_); rintro e wx ⟨p, r, Af, cf, rfl, hf, hbx⟩; have HF := Lib.hid hf; clear hf hbx))
  obtain ⟨wA, hwA⟩ : ∃ wA, wA = wx := ⟨_, rfl⟩
  rw [← hwA] at HF ⊢
  clear hwA
  have hlp := HF.out.log.lt
  go_upto_region 7 with (first | (go_at_call 24; refine (tnew (base := wA.heap.size) wA (Nat.le_refl _)).mono ?_; rintro e wx ⟨rfl, hl1, hbx, hz1⟩; have HL1 := Lib.hid hl1; have HBA := Lib.hid hbx; have HZ1 := Lib.hid hz1; clear hl1 hbx hz1) | (go_at_call 24; refine (tnew (base := wA.heap.size) _ (by have := HZ1.out; omega)).mono ?_; rintro e wx ⟨rfl, hl2, hbx, hz2⟩; rw [HZ1.out] at hl2 hz2 ⊢; have hl1 := HL1.out.below hbx; clear HL1; have HL1 := Lib.hid hl1; have HL2 := Lib.hid hl2; have hba := HBA.out.trans (hbx.mono (by have := HZ1.out; omega)); clear HBA; have HBA := Lib.hid hba; have HZ2 := Lib.hid hz2; clear hl1 hl2 hbx hz2 hba) | (go_at_call 18; (with_reducible refine ((HF.out.below HBA.out).since_ 0 (S := L) rfl).mono ?_); rintro e wx ⟨Ax, cx, rfl, hox, hbx⟩; have HT1 := Lib.hid hox; have hl1 := HL1.out.below hbx; have hl2 := HL2.out.below hbx; clear HL1 HL2; have HL1 := Lib.hid hl1; have HL2 := Lib.hid hl2; have hba := HBA.out.trans (hbx.mono (by have := HZ2.out; omega)); clear HBA; have HBA := Lib.hid hba; have HBA2 := Lib.hid (show wA.heap.size + 2 ≤ wx.heap.size by have := HZ2.out; have := hbx.size; omega); rw [HN.out]; clear hox hl1 hl2 hba hbx))
  obtain ⟨b2, hb2⟩ : ∃ b2, b2 = wx.heap.size := ⟨_, rfl⟩
  obtain ⟨b3, ht1⟩ : ∃ b3, OwO tT wx b3 (.slice Ax n cx) L := ⟨_, by rw [← HN.out]; exact HT1.out⟩
  have htl : ∀ g, (Value.slice Ax n cx).ownBlock = some g → g < b2 := fun g hg => by
    obtain ⟨cs, hc⟩ := (OwO.own_lt ht1 hg).2
    rw [hb2]; exact hc.size
  have hl1 := log_rebase HL1.out (fun _ => trivial) b2
  have hl2 := log_rebase HL2.out (fun _ => trivial) b2
  have HTL := Lib.hid htl
  have HBX := Lib.hid (show Below wA.heap.size wA wx from HBA.out)
  have hb2A : wA.heap.size + 2 ≤ b2 := by rw [hb2]; have := HBA2.out; omega
  obtain ⟨p1, hp1⟩ : ∃ p1, wA.heap.size = p1 := ⟨_, rfl⟩
  have HP1 := Lib.hid hp1
  rw [hp1] at hl1 hl2 hb2A hlp ⊢
  have hbx : Below p1 wA wx := by rw [← hp1]; exact HBX.out
  have hb2x : b2 ≤ wx.heap.size := by omega
  clear HT1 HL1 HL2 HBA HBA2 HBX HZ1 HZ2 htl hp1
  go_loopw [34] (fun s34 wr => ∃ (j : Nat) (r1 r2 : Option Nat), j ≤ n ∧ s34 = .int .i64 (j : Int) ∧ LogAt b2 wr p1 r1 (L.take (min j k)) ∧ LogAt b2 wr (p1 + 1) r2 ((L.take j).drop k) ∧ (∀ g, r1 = some g → r2 ≠ some g) ∧ OwO tT wr b3 (.slice Ax n cx) L ∧ Below p1 wA wr ∧ b2 ≤ wr.heap.size) (fun s _ => n - (intOf s).toNat)
  case atStart => exact ⟨0, none, none, Nat.zero_le _, rfl, by simpa using hl1, by simpa using hl2, fun g h => (by cases h), ht1, hbx, hb2x⟩
  case round =>
    clear hl1 hl2 ht1 hbx hb2x hb2
    obtain ⟨j, r1, r2, hj, rfl, hl1, hl2, hap, ht1, hbx, hb2⟩ := hrel
    by_cases hjn : j < n
    · have hjL : j < L.length := by rw [HN.out]; exact hjn
      obtain ⟨g, off, rfl, hg, q0, q1, q2, q3, q4, q5⟩ := RdO.cells (rd_own ht1) hjL
      obtain ⟨⟨ya, yb, yc, yd, ye, yf⟩, hy⟩ : ∃ y, L[j]! = y := ⟨_, rfl⟩
      have ht2 := take_min_snoc (k := k) hjL
      have ht3 := drop_snoc_ (n := k) hjL
      rw [hy] at q0 q1 q2 q3 q4 q5 ht2 ht3
      simp only at q0 q1 q2 q3 q4 q5
      obtain ⟨W5, hW5⟩ : ∃ W5, wr.alloc (Obj.cells #[.int .u64 ya, .int .i64 yb, .int .i64 yc, .int .u8 yd, .int .i64 ye, .int .i64 yf] tT) = W5 := ⟨_, rfl⟩
      have hB5 : Below wr.heap.size wr W5 := by rw [← hW5]; exact (Below.refl _ _).alloc (Nat.le_refl _) _
      have nb : Blk W5 wr.heap.size tT #[.int .u64 ya, .int .i64 yb, .int .i64 yc, .int .u8 yd, .int .i64 ye, .int .i64 yf] := by rw [← hW5]; exact Blk.made _ _ _
      have n0 := nb.val (i := 0) rfl
      have n1 := nb.val (i := 1) rfl
      have n2 := nb.val (i := 2) rfl
      have n3 := nb.val (i := 3) rfl
      have n4 := nb.val (i := 4) rfl
      have n5 := nb.val (i := 5) rfl
      have hz5 := hB5.size
      have HL1 := Lib.hid (hl1.below hB5)
      have HL2 := Lib.hid (hl2.below hB5)
      have HT1 := Lib.hid (OwO.below ht1 hB5)
      have hps : p1 ≤ wr.heap.size := by omega
      have HBX := Lib.hid (hbx.trans (hB5.mono hps))
      have HAP := Lib.hid hap
      have k0 : (0 : Int) ≤ (j : Int) := by omega
      have k1 : (j : Int) < (n : Int) := by omega
      have HLN := Lib.hid (show (L.take (min j k)).length ≤ 1000 ∧ ((L.take j).drop k).length ≤ 1000 from ⟨by rw [List.length_take]; omega, by rw [List.length_drop, List.length_take]; omega⟩)
      clear hl1 hl2 hap ht1 hbx hy nb
      by_cases hjk : j < k
      · rw [if_pos hjk] at ht2
        rw [if_neg (by omega)] at ht3
        have HT2 := Lib.hid ht2
        have HT3 := Lib.hid ht3
        clear ht2 ht3
        go_wp2_with (go_at_call 23; refine (tadd ⟨ya, yb, yc, yd, ye, yf⟩ _ HL1.out HLN.out.1 (by omega)).mono ?_; rintro e w2 ⟨rfl, r1', hr1, hl1, hk2⟩)
        have hb9 := kept_below_log (base := p1) hk2 (log_weak HL1.out (by omega)) (Nat.le_refl _) (by omega)
        exact ⟨⟨j + 1, r1', r2, by omega, by go_num, by rw [HT2.out]; exact hl1, by rw [HT3.out]; exact log_other HL2.out HL1.out (by omega) HAP.out hk2, rows_apart HL2.out HAP.out hr1, own_other HT1.out HTL.out HL1.out hk2, HBX.out.trans (hb9.mono (Nat.le_refl _)), by have := hb9.size; omega⟩, by simp [intOf]; omega⟩
      · rw [if_neg hjk] at ht2
        rw [if_pos (by omega)] at ht3
        have HT2 := Lib.hid ht2
        have HT3 := Lib.hid ht3
        have hjk2 : decide ((j : Int) < (k : Int)) = false := decide_eq_false (by omega)
        clear ht2 ht3
        go_wp2_with (go_at_call 23; refine (tadd ⟨ya, yb, yc, yd, ye, yf⟩ _ HL2.out HLN.out.2 (by omega)).mono ?_; rintro e w2 ⟨rfl, r2', hr2, hl2, hk2⟩)
        have hb9 := kept_below_log (base := p1) hk2 (log_weak HL2.out (by omega)) (by omega) (by omega)
        have hap' : ∀ g, r2 = some g → r1 ≠ some g := fun g h1 h2 => HAP.out g h2 h1
        exact ⟨⟨j + 1, r1, r2', by omega, by go_num, by rw [HT2.out]; exact log_other HL1.out HL2.out (by omega) hap' hk2, by rw [HT3.out]; exact hl2, rows_apart' HL1.out HAP.out hr2, own_other HT1.out HTL.out HL2.out hk2, HBX.out.trans (hb9.mono (Nat.le_refl _)), by have := hb9.size; omega⟩, by simp [intOf]; omega⟩
    · obtain rfl : j = n := by omega
      have e1 : L.take (min j k) = F1 := by rw [← HF1.out, Nat.min_eq_right hkn]
      have e2 : (L.take j).drop k = M := by rw [List.take_of_length_le (by rw [HN.out]; exact Nat.le_refl _)]; exact HM.out
      rw [e1] at hl1
      rw [e2] at hl2
      have HL1 := Lib.hid hl1
      have HL2 := Lib.hid hl2
      have hf2 := HF.out.below (by rw [HP1.out]; exact hbx)
      clear HF
      have HF := Lib.hid hf2
      have HMK := Lib.hid (show L.drop ((k : Int)).toNat = M by rw [Int.toNat_natCast]; exact HM.out)
      have hw5 : IntKind.i64.wrap ((S2.length : Int) + (S3.length : Int)) = (S1.length : Int) := by
        have := HSUM.out
        rw [IntWalk.i64_in _ (by omega)]; omega
      have HF1L := Lib.hid (show F1.length ≤ 1000 by rw [HFL.out]; omega)
      clear hl1 hl2 hap ht1 hbx e1 e2 hf2
      go_wp2_with (first | (go_at_call 18; (with_reducible refine (HF.out.since_ (k : Int) HMK.out).mono ?_); rintro e wx ⟨Ax, cx, rfl, hox, hbx⟩; have HT1 := Lib.hid hox; clear hox; have hfx := HF.out.below hbx; clear HF; have HF := Lib.hid hfx; have hl1 := HL1.out.below hbx; have hl2 := HL2.out.below hbx; clear HL1 HL2; have HL1 := Lib.hid hl1; have HL2 := Lib.hid hl2; clear hfx hl1 hl2; clear hbx) | (go_at_call 17; (with_reducible refine (own_ HT1.out HLE.out.1).mono ?_); rintro e wx ⟨Ax, cx, rfl, hox, hbx⟩; clear HT1; have HR1 := Lib.hid hox; clear hox; have hfx := HF.out.below hbx; clear HF; have HF := Lib.hid hfx; have hl1 := HL1.out.below hbx; have hl2 := HL2.out.below hbx; clear HL1 HL2; have HL1 := Lib.hid hl1; have HL2 := Lib.hid hl2; clear hfx hl1 hl2; clear hbx) | (go_at_call 17; (with_reducible refine (own_ HT2.out HLE.out.1).mono ?_); rintro e wx ⟨Ax, cx, rfl, hox, hbx⟩; clear HT2; have HR2 := Lib.hid hox; have hr1 := OwO.below HR1.out hbx; clear HR1; have HR1 := Lib.hid hr1; clear hox hr1; have hfx := HF.out.below hbx; clear HF; have HF := Lib.hid hfx; have hl1 := HL1.out.below hbx; have hl2 := HL2.out.below hbx; clear HL1 HL2; have HL1 := Lib.hid hl1; have HL2 := Lib.hid hl2; clear hfx hl1 hl2; clear hbx) | (go_at_call 18; (with_reducible refine (log_since0 HL2.out HLE.out.1).mono ?_); rintro e wx ⟨Ax, cx, rfl, hox, hbx⟩; have HT2 := Lib.hid hox; have hr1 := OwO.below HR1.out hbx; clear HR1; have HR1 := Lib.hid hr1; clear hox hr1; have hfx := HF.out.below hbx; clear HF; have HF := Lib.hid hfx; have hl1 := HL1.out.below hbx; have hl2 := HL2.out.below hbx; clear HL1 HL2; have HL1 := Lib.hid hl1; have HL2 := Lib.hid hl2; clear hfx hl1 hl2; clear hbx) | (go_at_call 16; (with_reducible refine (same_ HR1.out HR2.out HLE.out.1).mono ?_); rintro e wx ⟨rfl, hbx⟩; clear HR1 HR2; have hfx := HF.out.below hbx; clear HF; have HF := Lib.hid hfx; have hl1 := HL1.out.below hbx; have hl2 := HL2.out.below hbx; clear HL1 HL2; have HL1 := Lib.hid hl1; have HL2 := Lib.hid hl2; clear hfx hl1 hl2; clear hbx) | (go_at_call 11; (with_reducible refine (tlen _ HL1.out).mono ?_); rintro e wx ⟨rfl, rfl⟩; rw [HFL.out]) | (go_at_call 12; (with_reducible refine (log_count HL1.out tier why HS2.out HF1L.out).mono ?_); rintro e wx ⟨rfl, hbx⟩; have hfx := HF.out.below hbx; clear HF; have HF := Lib.hid hfx; have hl1 := HL1.out.below hbx; have hl2 := HL2.out.below hbx; clear HL1 HL2; have HL1 := Lib.hid hl1; have HL2 := Lib.hid hl2; clear hfx hl1 hl2; clear hbx) | (go_at_call 12; (with_reducible refine (log_count HL2.out tier why HS3.out HLE.out.1).mono ?_); rintro e wx ⟨rfl, hbx⟩; have hfx := HF.out.below hbx; clear HF; have HF := Lib.hid hfx; have hl1 := HL1.out.below hbx; have hl2 := HL2.out.below hbx; clear HL1 HL2; have HL1 := Lib.hid hl1; have HL2 := Lib.hid hl2; clear hfx hl1 hl2; clear hbx) | (go_at_call 12; (with_reducible refine (HF.out.count_ tier why HS1.out).mono ?_); rintro e wx ⟨rfl, hbx⟩; have hfx := HF.out.below hbx; clear HF; have HF := Lib.hid hfx; have hl1 := HL1.out.below hbx; have hl2 := HL2.out.below hbx; clear HL1 HL2; have HL1 := Lib.hid hl1; have HL2 := Lib.hid hl2; clear hfx hl1 hl2; clear hbx))
      go_ret
      exact ⟨rfl, HF.out.bel⟩
set_option maxRecDepth 100000 in
theorem lifted (os : Os) (started : os.Started) (H : Type) (enc : TypeId × Value → H) :
    ReturnsInHanded {} Try.checked os 6 .any (Rows.tallyPartsSpec.pre6 enc Try.prog Try.f6 Rows.tallyPartsRow.domain false) (Rows.tallyPartsSpec.post enc Try.prog Try.f6 false true false false) := by
  refine returnsInHanded_of_change (C := Try.checked) own started (by kernel_rfl) Try.func6
    (ChangeSpec.witness6 (enc := enc) (C := Try.checked) false ⟨#[], #[.slice none 0 0, .int .u8 0, .int .i64 0, .int .u8 0], []⟩ 8 (by kernel_rfl) (by kernel_rfl) (by kernel_rfl) (by kernel_rfl)) ?_
  intro W base args ds gs before hval0 hW hcnd _
  have hval : ∀ (j : Nat) t v, Try.f6.params[j]? = some t → args[j]? = some v → Value.okWide Try.prog W .any base t v := hval0
  have hW' := hW
  obtain ⟨p, q, hA0, hV, rfl, hfz, hnd⟩ := hW
  have hA : DataW.TrodAll enc Try.prog W 0 (fun _ => true) true Try.f6.params.toList args.toList ds p := hA0
  rw [Try.params6] at hA hval
  obtain ⟨v0, vs0, d0, ds0, p0, q0, hargs, rfl, rfl, h0, r0⟩ := trodAll_cons hA
  obtain ⟨v1, vs1, d1, ds1, p1, q1, rfl, rfl, rfl, h1, r1⟩ := trodAll_cons r0
  obtain ⟨v2, vs2, d2, ds2, p2, q2, rfl, rfl, rfl, h2, r2⟩ := trodAll_cons r1
  obtain ⟨v3, vs3, d3, ds3, p3, q3, rfl, rfl, rfl, h3, r3⟩ := trodAll_cons r2
  obtain ⟨rfl, rfl, rfl⟩ := trodAll_nil r3
  obtain rfl : args = #[v0, v1, v2, v3] := by cases args; simp_all
  obtain ⟨rfl, rfl⟩ := trodVars_none hV
  obtain ⟨A0, len0, cap0, rfl⟩ := okWide_slice Try.underlying22 (hval 0 _ v0 rfl rfl)
  obtain ⟨fu0, g0⟩ := h0
  obtain ⟨s0, t0, Q0, u0, o0⟩ := open_ocs g0
  obtain ⟨a1, rfl, rfl, rfl, w1⟩ := open_int Try.underlying5 (hval 1 _ v1 rfl rfl) h1
  obtain ⟨a2, rfl, rfl, rfl, w2⟩ := open_int Try.underlying3 (hval 2 _ v2 rfl rfl) h2
  obtain ⟨a3, rfl, rfl, rfl, w3⟩ := open_int Try.underlying5 (hval 3 _ v3 rfl rfl) h3
  clear hA0 hval0
  obtain ⟨l1, m1⟩ := wf_u8 w1
  obtain ⟨l2, m2⟩ := wf_i64 w2
  obtain ⟨l3, m3⟩ := wf_u8 w3
  refine (walk A0 len0 cap0 Q0 a1 a2 a3 W s0 t0 u0 o0 l1 m1 l2 m2 l3 m3).mono fun e W' ⟨he, hg⟩ => ?_
  subst he
  exact ⟨_, rfl, post_of_law hW' rfl laidOut reads rfl Try.underlying4 rfl rfl rfl hg⟩
theorem over : Rows.tallyPartsRow.holds Try.pinned (OpenSpec.ofChange Rows.tallyPartsSpec) :=
  OpenClaim.holds_of_wide 6 Try.f6 rfl rfl rfl rfl rfl rfl rfl ⟨rfl, rfl, rfl, rfl, rfl⟩ rfl rfl rfl rfl rfl (by kernel_rfl) Try.func6 (by kernel_rfl)
    (of_decide_eq_true (by kernel_rfl)) (by unfold Func.isWrapper; first | (rw [if_pos (by decide +kernel)]; kernel_rfl) | (rw [if_neg (by decide +kernel)]; exact ⟨rfl, rfl⟩))
    (fun os started H enc _ => lifted os started H enc)
theorem proved : Rows.TallyPartsSaid := over
end Go.Proofs.Ytidkemgibehpcaa.tallyParts
