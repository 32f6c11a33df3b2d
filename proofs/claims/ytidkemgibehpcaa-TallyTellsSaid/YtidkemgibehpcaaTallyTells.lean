/- TallyTells is true of every list of outcomes, every tier, why and place, and changes nothing that it was given. -/
import Derived.Test.YtidkemgibehpcaaTlo
import Derived.Test.YtidkemgibehpcaaRowb
import Derived.Test.YtidkemgibehpcaaRows
import Derived.WalkKit
import Derived.ProofKit
import Derived.OpenShut
import Derived.Deep.DeepCutAuto
namespace Go.Proofs.Ytidkemgibehpcaa.tallyTells
open Go.ChangeShapes Go.WideShapes Go.ChangeAt Go.RowKit
set_option linter.unusedVariables false
theorem own : ownKnob Try.prog.godebug = none := by kernel_rfl
theorem laidOut : laidOutB Try.prog = true := by kernel_rfl
theorem reads : (Try.f3.params.toList.all fun t => Try.prog.readableRec t && decide (t < Try.prog.types.size)) = true := by kernel_rfl
set_option maxRecDepth 100000 in
set_option maxHeartbeats 8000000 in
theorem walk (A : Option Addr) (len cap : Nat) (Q : Nat → Oc) (tier why fro : Int) (w : World) (hlc : len ≤ cap) (hcm : cap ≤ maxLen) (hQ : SeqAt w w.heap.size A len 6 (fun i => ocRow (Q i))) (hok : ∀ i, (Q i).ok) (b0 : -9223372036854775808 ≤ tier) (b1 : tier ≤ 9223372036854775807) (y0 : 0 ≤ why) (y1 : why ≤ 255) (f0 : -9223372036854775808 ≤ fro) (f1 : fro ≤ 9223372036854775807) :
    Calls Try.prog 3 #[.slice A len cap, .int .i64 tier, .int .u8 why, .int .i64 fro] w fun e w' => e = .returned (.bool true) ∧ Below w.heap.size w w' := by
  obtain ⟨L, hL⟩ : ∃ L, takeF Q (min len 60) = L := ⟨_, rfl⟩
  obtain ⟨n, hn⟩ : ∃ n, L.length = n := ⟨_, rfl⟩
  have h60 : L.length ≤ 60 := by rw [← hL, takeF_len]; omega
  have HFIL := Lib.hid (fun W hW => fil_of (W := W) hQ hlc hcm hok hW hL hn)
  clear hlc hcm hQ hok hn hL
  obtain ⟨S1, hS1⟩ : ∃ S, L.filter (someB tier why) = S := ⟨_, rfl⟩
  obtain ⟨D, hD⟩ : ∃ S, L.filter (someB tier 1) = S := ⟨_, rfl⟩
  obtain ⟨M, hM⟩ : ∃ S, L.drop fro.toNat = S := ⟨_, rfl⟩
  obtain ⟨K, hK⟩ : ∃ S, L.filter (whyB why) = S := ⟨_, rfl⟩
  have hK2 : L.filter (someB (-1) why) = K := by
    rw [← hK]
    refine List.filter_congr fun o _ => ?_
    unfold someB isOfB
    simp
  have HLE := Lib.hid (show M.length ≤ 1000 ∧ K.length ≤ 1000 from ⟨by rw [← hM, List.length_drop]; omega, by rw [← hK]; exact Nat.le_trans (List.length_filter_le _ _) (by omega)⟩)
  have hlf := lon_facts D
  obtain ⟨⟨lm, lo⟩, hlon⟩ : ∃ x, lonE D = x := ⟨_, rfl⟩
  rw [hlon] at hlf
  obtain ⟨q1, q2, q3, q4⟩ := hlf
  simp only at q1 q2 q3 q4
  obtain ⟨t, ht⟩ : ∃ t, topK D = t := ⟨_, rfl⟩
  have HS1 := Lib.hid hS1
  have HD := Lib.hid hD
  have HM := Lib.hid hM
  have HK := Lib.hid hK
  have HK2 := Lib.hid hK2
  have HLON := Lib.hid hlon
  have HT := Lib.hid ht
  have HQ3 := Lib.hid q3
  have HQ4 := Lib.hid q4
  obtain ⟨m, hm⟩ : ∃ m, D.length = m := ⟨_, rfl⟩
  have HMM := Lib.hid hm
  rw [hm] at q1
  have hmb : m ≤ 60 := by rw [← hm, ← hD]; exact Nat.le_trans (List.length_filter_le _ _) h60
  have HQ2 := Lib.hid q2
  have HQ1 := Lib.hid q1
  clear hS1 hD hM hK hK2 hlon ht q3 q4 hm q1 q2 b0 b1 y0 y1 f0 f1 h60
  go_enter Try.func3, Try.ntmps3
  cases lo
  · obtain rfl : lm = 0 := HQ2.out rfl
    have hm0 : m = 0 := by
      have := HQ1.out
      by_cases h : 0 < m
      · rw [decide_eq_true h] at this; cases this
      · omega
    subst hm0
    clear HQ2
    go_wp2_with (first | (go_at_call 7; (with_reducible refine (lawake _).mono ?_); rintro e wx ⟨rfl, hbx⟩; have HB1 := Lib.hid hbx; clear hbx) | (go_at_call 8; (with_reducible refine (HFIL.out _ HB1.out).mono ?_); rintro e wx ⟨p, r, Af, cf, rfl, hf, hbx⟩; have HF := Lib.hid hf; have hn60 := hf.few; clear hf hbx) | (go_at_call 9; (with_reducible refine (HF.out.some_ tier why HS1.out).mono ?_); rintro e wx ⟨Ax, cx, rfl, hox, hbx⟩; clear hox; have hfx := HF.out.below hbx; clear HF; have HF := Lib.hid hfx; clear hfx; clear hbx) | (go_at_call 10; (with_reducible refine (HF.out.long_ tier HD.out HLON.out).mono ?_); rintro e wx ⟨rfl, hbx⟩; have hfx := HF.out.below hbx; clear HF; have HF := Lib.hid hfx; clear hfx; clear hbx) | (go_at_call 9; (with_reducible refine (HF.out.some_ tier 1 HD.out).mono ?_); rintro e wx ⟨Ax, cx, rfl, hox, hbx⟩; rw [HMM.out]; have HO := Lib.hid hox; clear hox; have hfx := HF.out.below hbx; clear HF; have HF := Lib.hid hfx; clear hfx; clear hbx))
    obtain ⟨wo, hwo⟩ : ∃ wo, wo = wx := ⟨_, rfl⟩
    rw [← hwo] at HF HO ⊢
    clear hwo
    go_loopw [15, 55] (fun s15 s55 wr => s55 = .int .i64 0 ∧ s15 = .bool true ∧ wr = wo) (fun _ _ _ => 0)
    case atStart => exact ⟨rfl, rfl, rfl⟩
    case round =>
      obtain ⟨rfl, rfl, rfl⟩ := hrel
      go_wp2_with (first | (go_at_call 11; (with_reducible refine HF.out.len_.mono ?_); rintro e wx ⟨rfl, rfl⟩; skip) | (go_at_call 12; (with_reducible refine (HF.out.count_ tier why HS1.out).mono ?_); rintro e wx ⟨rfl, hbx⟩; have hfx := HF.out.below hbx; clear HF; have HF := Lib.hid hfx; clear hfx; clear hbx) | (go_at_call 14; (with_reducible refine (HF.out.spread_ tier HD.out HT.out).mono ?_); rintro e wx ⟨Ax, cx, rfl, hox, hbx⟩; have HSP := Lib.hid hox; clear hox; have hfx := HF.out.below hbx; clear HF; have HF := Lib.hid hfx; clear hfx; clear hbx) | (go_at_call 15; (with_reducible refine (HF.out.rspread_ tier HD.out HT.out).mono ?_); rintro e wx ⟨Ax, cx, rfl, hox, hbx⟩; have HRS := Lib.hid hox; have hsp := row_below HSP.out hbx; clear HSP; have HSP := Lib.hid hsp; clear hox hsp; have hfx := HF.out.below hbx; clear HF; have HF := Lib.hid hfx; clear hfx; clear hbx) | (go_at_call 13; (with_reducible refine (eq_rows HSP.out HRS.out).mono ?_); rintro e wx ⟨rfl, hbx⟩; clear HSP HRS; have hfx := HF.out.below hbx; clear HF; have HF := Lib.hid hfx; clear hfx; clear hbx) | (go_at_call 18; (with_reducible refine (HF.out.since_ fro HM.out).mono ?_); rintro e wx ⟨Ax, cx, rfl, hox, hbx⟩; have HT1 := Lib.hid hox; clear hox; have hfx := HF.out.below hbx; clear HF; have HF := Lib.hid hfx; clear hfx; clear hbx) | (go_at_call 17; (with_reducible refine (own_ HT1.out (by first | exact HLE.out.1 | exact HLE.out.2)).mono ?_); rintro e wx ⟨Ax, cx, rfl, hox, hbx⟩; clear HT1; have HR1 := Lib.hid hox; clear hox; have hfx := HF.out.below hbx; clear HF; have HF := Lib.hid hfx; clear hfx; clear hbx) | (go_at_call 19; (with_reducible refine (HF.out.rsince_ fro HM.out).mono ?_); rintro e wx ⟨Ax, cx, rfl, hox, hbx⟩; have HR2 := Lib.hid hox; have hr1 := OwO.below HR1.out hbx; clear HR1; have HR1 := Lib.hid hr1; clear hox hr1; have hfx := HF.out.below hbx; clear HF; have HF := Lib.hid hfx; clear hfx; clear hbx) | (go_at_call 16; (with_reducible refine (same_ HR1.out HR2.out (by first | exact HLE.out.1 | exact HLE.out.2)).mono ?_); rintro e wx ⟨rfl, hbx⟩; clear HR1 HR2; have hfx := HF.out.below hbx; clear HF; have HF := Lib.hid hfx; clear hfx; clear hbx) | (go_at_call 21; (with_reducible refine (tall_made (some ⟨p, 0, none⟩) why _).mono ?_); rintro e wx ⟨rfl, hc0, hc1, hbx, hzx⟩; have HAL := Lib.hid (And.intro hc0 (And.intro hc1 hzx)); have hfx := HF.out.below hbx; clear HF; have HF := Lib.hid hfx; clear hfx; clear hbx hc0 hc1 hzx) | (go_at_call 20; refine (HF.out.collect_ why HK.out (by have := HAL.out.2.2; omega) HAL.out.1 HAL.out.2.1).mono ?_; rintro e wx ⟨Ax, cx, rfl, hox, hbx⟩; have HT1 := Lib.hid hox; clear hox HAL; have hfx := HF.out.below hbx; clear HF; have HF := Lib.hid hfx; clear hfx; clear hbx) | (go_at_call 9; (with_reducible refine (HF.out.some_ (-1) why HK2.out).mono ?_); rintro e wx ⟨Ax, cx, rfl, hox, hbx⟩; have HR2 := Lib.hid hox; have hr1 := OwO.below HR1.out hbx; clear HR1; have HR1 := Lib.hid hr1; clear hox hr1; have hfx := HF.out.below hbx; clear HF; have HF := Lib.hid hfx; clear hfx; clear hbx))
      go_ret
      exact ⟨rfl, HF.out.bel⟩
  · clear HQ2
    have hm1 : 0 < m := of_decide_eq_true HQ1.out.symm
    have hm2 : ¬ m = 0 := by omega
    have hm3 : decide (0 < (m : Int)) = true := decide_eq_true (by omega)
    go_wp2_with (first | (go_at_call 7; (with_reducible refine (lawake _).mono ?_); rintro e wx ⟨rfl, hbx⟩; have HB1 := Lib.hid hbx; clear hbx) | (go_at_call 8; (with_reducible refine (HFIL.out _ HB1.out).mono ?_); rintro e wx ⟨p, r, Af, cf, rfl, hf, hbx⟩; have HF := Lib.hid hf; have hn60 := hf.few; clear hf hbx) | (go_at_call 9; (with_reducible refine (HF.out.some_ tier why HS1.out).mono ?_); rintro e wx ⟨Ax, cx, rfl, hox, hbx⟩; clear hox; have hfx := HF.out.below hbx; clear HF; have HF := Lib.hid hfx; clear hfx; clear hbx) | (go_at_call 10; (with_reducible refine (HF.out.long_ tier HD.out HLON.out).mono ?_); rintro e wx ⟨rfl, hbx⟩; have hfx := HF.out.below hbx; clear HF; have HF := Lib.hid hfx; clear hfx; clear hbx) | (go_at_call 9; (with_reducible refine (HF.out.some_ tier 1 HD.out).mono ?_); rintro e wx ⟨Ax, cx, rfl, hox, hbx⟩; rw [HMM.out]; have HO := Lib.hid hox; clear hox; have hfx := HF.out.below hbx; clear HF; have HF := Lib.hid hfx; clear hfx; clear hbx))
    obtain ⟨wo, hwo⟩ : ∃ wo, wo = wx := ⟨_, rfl⟩
    rw [← hwo] at HF HO ⊢
    clear hwo
    go_loopw [15, 55] (fun s15 s55 wr => ∃ (k : Nat) (mt : Bool), k ≤ m ∧ s55 = .int .i64 (k : Int) ∧ s15 = .bool mt ∧ (mt = true ↔ (true = false) ∨ ∃ j, j < k ∧ (D[j]!).f = lm) ∧ Below wo.heap.size wo wr) (fun _ s _ => m - (intOf s).toNat)
    case atStart => exact ⟨0, _, Nat.zero_le _, rfl, rfl, by simp, Below.refl _ _⟩
    case round =>
      obtain ⟨k, mt, hk, rfl, rfl, hmt, hbr⟩ := hrel
      have HMT := Lib.hid hmt
      have HBR := Lib.hid hbr
      clear hmt hbr
      by_cases hkm : k < m
      · have hkD : k < D.length := by rw [HMM.out]; exact hkm
        obtain ⟨g, off, rfl, hg, r0, r1, r2, r3, r4, r5⟩ := RdO.cells (rd_own (OwO.below HO.out HBR.out)) hkD
        obtain ⟨⟨ya, yb, yc, yd, ye, yf⟩, hy⟩ : ∃ y, D[k]! = y := ⟨_, rfl⟩
        have hle : yf ≤ lm := by
          have := HQ3.out D[k]! (by rw [getElem!_pos D k hkD]; exact List.getElem_mem hkD)
          rw [hy] at this; exact this
        rw [hy] at r0 r1 r2 r3 r4 r5
        simp only at r0 r1 r2 r3 r4 r5
        have HY := Lib.hid hy
        have hle2 : decide (lm < yf) = false := decide_eq_false (by omega)
        have k0 : (0 : Int) ≤ (k : Int) := by omega
        have k1 : (k : Int) < (m : Int) := by omega
        have hsz := HBR.out.size
        have hnext : ∀ b : Bool, (b = true ↔ mt = true ∨ yf = lm) → (b = true ↔ (true = false) ∨ ∃ j, j < k + 1 ∧ (D[j]!).f = lm) := fun b hb => by
          rw [hb, HMT.out]
          constructor
          · rintro ((h | ⟨j, hj, h⟩) | h)
            · exact .inl h
            · exact .inr ⟨j, by omega, h⟩
            · exact .inr ⟨k, by omega, by rw [HY.out]; exact h⟩
          · rintro (h | ⟨j, hj, h⟩)
            · exact .inl (.inl h)
            · by_cases hjk : j = k
              · subst hjk
                rw [HY.out] at h
                exact .inr h
              · exact .inl (.inr ⟨j, by omega, h⟩)
        have HN := Lib.hid hnext
        clear hy hle hnext
        cases mt
        · by_cases hyl : yf = lm
          · have hyl2 : (yf == lm) = true := by simpa using hyl
            clear hyl
            go_wp2_with fail
            exact ⟨⟨k + 1, _, by omega, by go_num, rfl, HN.out _ (by simpa using hyl2), HBR.out.alloc hsz _⟩, by simp [intOf]; omega⟩
          · have hyl2 : (yf == lm) = false := by simpa using hyl
            clear hyl
            go_wp2_with fail
            exact ⟨⟨k + 1, _, by omega, by go_num, rfl, HN.out _ (by simpa using hyl2), HBR.out.alloc hsz _⟩, by simp [intOf]; omega⟩
        · go_wp2_with fail
          exact ⟨⟨k + 1, _, by omega, by go_num, rfl, HN.out _ (by simp), HBR.out.alloc hsz _⟩, by simp [intOf]; omega⟩
      · obtain rfl : k = m := by omega
        obtain rfl : mt = true := HMT.out.2 (by
          obtain ⟨o, ho, he⟩ := HQ4.out (by trivial)
          obtain ⟨i, hi, rfl⟩ := List.getElem_of_mem ho
          exact .inr ⟨i, by rw [← HMM.out]; exact hi, by rw [getElem!_pos D i hi]; exact he⟩)
        have HF2 := Lib.hid (HF.out.below HBR.out)
        clear HF HO HMT
        have HF := HF2
        clear HF2
        go_wp2_with (first | (go_at_call 11; (with_reducible refine HF.out.len_.mono ?_); rintro e wx ⟨rfl, rfl⟩; skip) | (go_at_call 12; (with_reducible refine (HF.out.count_ tier why HS1.out).mono ?_); rintro e wx ⟨rfl, hbx⟩; have hfx := HF.out.below hbx; clear HF; have HF := Lib.hid hfx; clear hfx; clear hbx) | (go_at_call 14; (with_reducible refine (HF.out.spread_ tier HD.out HT.out).mono ?_); rintro e wx ⟨Ax, cx, rfl, hox, hbx⟩; have HSP := Lib.hid hox; clear hox; have hfx := HF.out.below hbx; clear HF; have HF := Lib.hid hfx; clear hfx; clear hbx) | (go_at_call 15; (with_reducible refine (HF.out.rspread_ tier HD.out HT.out).mono ?_); rintro e wx ⟨Ax, cx, rfl, hox, hbx⟩; have HRS := Lib.hid hox; have hsp := row_below HSP.out hbx; clear HSP; have HSP := Lib.hid hsp; clear hox hsp; have hfx := HF.out.below hbx; clear HF; have HF := Lib.hid hfx; clear hfx; clear hbx) | (go_at_call 13; (with_reducible refine (eq_rows HSP.out HRS.out).mono ?_); rintro e wx ⟨rfl, hbx⟩; clear HSP HRS; have hfx := HF.out.below hbx; clear HF; have HF := Lib.hid hfx; clear hfx; clear hbx) | (go_at_call 18; (with_reducible refine (HF.out.since_ fro HM.out).mono ?_); rintro e wx ⟨Ax, cx, rfl, hox, hbx⟩; have HT1 := Lib.hid hox; clear hox; have hfx := HF.out.below hbx; clear HF; have HF := Lib.hid hfx; clear hfx; clear hbx) | (go_at_call 17; (with_reducible refine (own_ HT1.out (by first | exact HLE.out.1 | exact HLE.out.2)).mono ?_); rintro e wx ⟨Ax, cx, rfl, hox, hbx⟩; clear HT1; have HR1 := Lib.hid hox; clear hox; have hfx := HF.out.below hbx; clear HF; have HF := Lib.hid hfx; clear hfx; clear hbx) | (go_at_call 19; (with_reducible refine (HF.out.rsince_ fro HM.out).mono ?_); rintro e wx ⟨Ax, cx, rfl, hox, hbx⟩; have HR2 := Lib.hid hox; have hr1 := OwO.below HR1.out hbx; clear HR1; have HR1 := Lib.hid hr1; clear hox hr1; have hfx := HF.out.below hbx; clear HF; have HF := Lib.hid hfx; clear hfx; clear hbx) | (go_at_call 16; (with_reducible refine (same_ HR1.out HR2.out (by first | exact HLE.out.1 | exact HLE.out.2)).mono ?_); rintro e wx ⟨rfl, hbx⟩; clear HR1 HR2; have hfx := HF.out.below hbx; clear HF; have HF := Lib.hid hfx; clear hfx; clear hbx) | (go_at_call 21; (with_reducible refine (tall_made (some ⟨p, 0, none⟩) why _).mono ?_); rintro e wx ⟨rfl, hc0, hc1, hbx, hzx⟩; have HAL := Lib.hid (And.intro hc0 (And.intro hc1 hzx)); have hfx := HF.out.below hbx; clear HF; have HF := Lib.hid hfx; clear hfx; clear hbx hc0 hc1 hzx) | (go_at_call 20; refine (HF.out.collect_ why HK.out (by have := HAL.out.2.2; omega) HAL.out.1 HAL.out.2.1).mono ?_; rintro e wx ⟨Ax, cx, rfl, hox, hbx⟩; have HT1 := Lib.hid hox; clear hox HAL; have hfx := HF.out.below hbx; clear HF; have HF := Lib.hid hfx; clear hfx; clear hbx) | (go_at_call 9; (with_reducible refine (HF.out.some_ (-1) why HK2.out).mono ?_); rintro e wx ⟨Ax, cx, rfl, hox, hbx⟩; have HR2 := Lib.hid hox; have hr1 := OwO.below HR1.out hbx; clear HR1; have HR1 := Lib.hid hr1; clear hox hr1; have hfx := HF.out.below hbx; clear HF; have HF := Lib.hid hfx; clear hfx; clear hbx))
        go_ret
        exact ⟨rfl, HF.out.bel⟩
set_option maxRecDepth 100000 in
theorem lifted (os : Os) (started : os.Started) (H : Type) (enc : TypeId × Value → H) :
    ReturnsInHanded {} Try.checked os 3 .any (Rows.tallyTellsSpec.pre6 enc Try.prog Try.f3 Rows.tallyTellsRow.domain false) (Rows.tallyTellsSpec.post enc Try.prog Try.f3 false true false false) := by
  refine returnsInHanded_of_change (C := Try.checked) own started (by kernel_rfl) Try.func3
    (ChangeSpec.witness6 (enc := enc) (C := Try.checked) false ⟨#[], #[.slice none 0 0, .int .i64 0, .int .u8 0, .int .i64 0], []⟩ 8 (by kernel_rfl) (by kernel_rfl) (by kernel_rfl) (by kernel_rfl)) ?_
  intro W base args ds gs before hval0 hW hcnd _
  have hval : ∀ (j : Nat) t v, Try.f3.params[j]? = some t → args[j]? = some v → Value.okWide Try.prog W .any base t v := hval0
  have hW' := hW
  obtain ⟨p, q, hA0, hV, rfl, hfz, hnd⟩ := hW
  have hA : DataW.TrodAll enc Try.prog W 0 (fun _ => true) true Try.f3.params.toList args.toList ds p := hA0
  rw [Try.params3] at hA hval
  obtain ⟨v0, vs0, d0, ds0, p0, q0, hargs, rfl, rfl, h0, r0⟩ := trodAll_cons hA
  obtain ⟨v1, vs1, d1, ds1, p1, q1, rfl, rfl, rfl, h1, r1⟩ := trodAll_cons r0
  obtain ⟨v2, vs2, d2, ds2, p2, q2, rfl, rfl, rfl, h2, r2⟩ := trodAll_cons r1
  obtain ⟨v3, vs3, d3, ds3, p3, q3, rfl, rfl, rfl, h3, r3⟩ := trodAll_cons r2
  obtain ⟨rfl, rfl, rfl⟩ := trodAll_nil r3
  obtain rfl : args = #[v0, v1, v2, v3] := by cases args; simp_all
  obtain ⟨rfl, rfl⟩ := trodVars_none hV
  obtain ⟨A0, len0, cap0, rfl⟩ := okWide_slice Try.underlying22 (hval 0 _ v0 rfl rfl)
  obtain ⟨fu0, g0⟩ := h0
  obtain ⟨s0, t0, Q0, u0, o0⟩ := open_ocs g0
  obtain ⟨a1, rfl, rfl, rfl, w1⟩ := open_int Try.underlying3 (hval 1 _ v1 rfl rfl) h1
  obtain ⟨a2, rfl, rfl, rfl, w2⟩ := open_int Try.underlying5 (hval 2 _ v2 rfl rfl) h2
  obtain ⟨a3, rfl, rfl, rfl, w3⟩ := open_int Try.underlying3 (hval 3 _ v3 rfl rfl) h3
  clear hA0 hval0
  obtain ⟨l1, m1⟩ := wf_i64 w1
  obtain ⟨l2, m2⟩ := wf_u8 w2
  obtain ⟨l3, m3⟩ := wf_i64 w3
  refine (walk A0 len0 cap0 Q0 a1 a2 a3 W s0 t0 u0 o0 l1 m1 l2 m2 l3 m3).mono fun e W' ⟨he, hg⟩ => ?_
  subst he
  exact ⟨_, rfl, post_of_law hW' rfl laidOut reads rfl Try.underlying4 rfl rfl rfl hg⟩
theorem over : Rows.tallyTellsRow.holds Try.pinned (OpenSpec.ofChange Rows.tallyTellsSpec) :=
  OpenClaim.holds_of_wide 3 Try.f3 rfl rfl rfl rfl rfl rfl rfl ⟨rfl, rfl, rfl, rfl, rfl⟩ rfl rfl rfl rfl rfl (by kernel_rfl) Try.func3 (by kernel_rfl)
    (of_decide_eq_true (by kernel_rfl)) (by unfold Func.isWrapper; first | (rw [if_pos (by decide +kernel)]; kernel_rfl) | (rw [if_neg (by decide +kernel)]; exact ⟨rfl, rfl⟩))
    (fun os started H enc _ => lifted os started H enc)
theorem proved : Rows.TallyTellsSaid := over
end Go.Proofs.Ytidkemgibehpcaa.tallyTells
