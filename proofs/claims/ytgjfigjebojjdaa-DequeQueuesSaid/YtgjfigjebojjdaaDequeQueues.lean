/- DequeQueues is true of every list of members, from either end, and changes nothing that it was given. -/
import Derived.Test.YtgjfigjebojjdaaDeqe
import Derived.Test.YtgjfigjebojjdaaRowb
import Derived.Test.YtgjfigjebojjdaaRows
import Derived.WalkKit
import Derived.ProofKit
import Derived.OpenShut
import Derived.Deep.DeepCutAuto
namespace Go.Proofs.Ytgjfigjebojjdaa.dequeQueues
open Go.ChangeShapes Go.WideShapes Go.ChangeAt Go.RowKit
set_option linter.unusedVariables false
theorem own : ownKnob Try.prog.godebug = none := by kernel_rfl
theorem laidOut : laidOutB Try.prog = true := by kernel_rfl
theorem reads : (Try.f9.params.toList.all fun t => Try.prog.readableRec t && decide (t < Try.prog.types.size)) = true := by kernel_rfl
set_option maxRecDepth 100000 in
set_option maxHeartbeats 8000000 in
theorem walk (A : Option Addr) (len cap : Nat) (K : Nat → Nat) (bk : Bool) (w : World) (hl : len ≤ cap) (hc : cap ≤ maxLen) (hK : SeqAt w w.heap.size A len 1 (fun i => [.int .u8 (K i : Int)])) (hK5 : ∀ i, K i ≤ 255) :
    Calls Try.prog 9 #[.slice A len cap, .bool bk] w fun e w' => e = .returned (.bool true) ∧ Below w.heap.size w w' := by
  unfold maxLen at hc
  have hb := Below.refl w.heap.size w
  have HK := Lib.hid hK
  have HK5 := Lib.hid hK5
  obtain ⟨i0, hi0, hz0, hz1, hz2⟩ := info_parts iinfo6
  clear hK hK5
  cases bk with
  | false =>
    go_enter Try.func9, Try.ntmps9
    go_wp2_with (go_at_call 32; refine (awaked _).mono ?_; rintro e wn ⟨rfl, hbn⟩; replace hb := hb.trans hbn; clear hbn)
    refine (dnew_yes 3 256 _ (by omega) (by omega) (by omega) (by omega)).mono ?_
    rintro e w1 ⟨p, a, b, rfl, hp, ha, hbb, h1, hbw⟩
    have h2 : RowsAt w1 p a b 3 256 (fun _ => 0) (fun _ _ => 0) 0 := ⟨_, _, _, _, _, _, _, h1, Rep.start 3 256, fun _ => ⟨by simp, by simp⟩⟩
    have hw := hb.size
    replace hb := hb.trans (hbw.mono hb.size)
    have H1 := Lib.hid h2
    clear h1 h2 hbw
    go_wp2_with fail
    refine (rows_push (r := 0) (i := 0) _ H1.out (by omega) (by omega) (fun r' _ k hk => absurd hk (Nat.not_lt_zero k)) (by omega) (by omega)).mono ?_
    rintro e w2 ⟨rfl, h2, k2⟩
    have e1 : (fun j => if j = 0 then (fun _ : Nat => 0) 0 + 1 else (fun _ : Nat => 0) j) = nf [] := by funext j; unfold nf; by_cases e : j = 0 <;> simp [e]
    have e2 : (fun j k => if j = 0 ∧ k = (fun _ : Nat => 0) 0 then 0 else (fun _ _ : Nat => 0) j k) = Af [] := by funext j k; unfold Af; simp
    rw [e1, e2] at h2
    replace hb := hb.trans (k2.below (fun g hg => by omega) hb.size)
    have H2 := Lib.hid h2
    clear e1 e2 h2 k2
    go_wp2
    go_loopw [7, 28] (fun s7 s28 wr => ∃ (k : Nat) (l : List Nat), k ≤ len ∧ s28 = .int .i64 k ∧ wr.ownsRow w.heap.size 3 1 s7 l.length (ints l) ∧ RowsAt wr p a b 3 256 (nf l) (Af l) ((k : Int) + 1) ∧ Hid (l.Nodup) ∧ Hid (∀ x, x ∈ l → x < 256 ∧ x ≠ 0) ∧ Below w.heap.size w wr) (fun _ i _ => len - (intOf i).toNat)
    case atStart => exact ⟨0, [], Nat.zero_le _, rfl, World.ownsRow_nil _ _ _ _, H2.out, Lib.hid List.nodup_nil, Lib.hid (fun x hx => by simp at hx), hb⟩
    case round =>
      obtain ⟨k, l, hk, rfl, hown, hs, ND, HL, hbr⟩ := hrel
      have hll : l.length ≤ 256 := nodup_le 256 l ND.out (fun x hx => (HL.out x hx).1)
      obtain ⟨Al, cl, rfl⟩ := own_form hown
      have HS := Lib.hid hs
      have HO := Lib.hid hown
      have ⟨hq1, hq2, hq3⟩ := hs.lts
      clear hs hown
      by_cases hlt : k < len
      · obtain ⟨kb, ko, rfl, hkb, hkc⟩ := HK.out (by omega)
        obtain ⟨i, hi⟩ : ∃ i, K k = i := ⟨_, rfl⟩
        have i255 : i ≤ 255 := by rw [← hi]; exact HK5.out k
        have k0 : wr.cell? ⟨kb, ko + k, none⟩ = some (.int .u8 (i : Int)) := (hbr.cell hkb).trans (by have := hkc k hlt 0 (by omega); simp only [hi, Nat.mul_one, Nat.add_zero] at this; simpa using this)
        clear hkc hi
        by_cases hz : i = 0
        · subst hz
          have c0 : ((0 : Nat) : Int) = 0 := rfl
          go_wp2_with (first
            | (go_at_call 35; refine (rows_busy (r := 1) (r' := 0) (k := 0) (i := 0) _ HS.out (by omega) (by omega) (by omega) (by unfold nf; simp) rfl).mono ?_; rintro e w5 ⟨rfl, rfl⟩)
            | (go_at_call 40; refine (rows_where (r := 0) (k := 0) (i := 0) _ HS.out (by omega) (by unfold nf; simp) rfl).mono ?_; rintro e w5 ⟨rfl, rfl⟩))
          go_roundw
          case rel => exact ⟨k + 1, l, by omega, by go_num, HO.out, HS.out.more (by omega), ND, HL, hbr⟩
          case measure => simp [intOf]; omega
        · have hne : ((i : Int) == 0) = false := beq_eq_false_iff_ne.2 (by omega)
          have hne2 : ((i : Int) != 0) = true := bne_iff_ne.2 (by omega)
          have hne3 : (0 : Int) < (i : Int) := by omega
          by_cases hin : i ∈ l
          · obtain ⟨q, hq, hqi⟩ := mem_place hin
            have HIN := Lib.hid (decide_eq_true hin)
            have HQ := Lib.hid hq
            have HQI := Lib.hid hqi
            clear hin hq hqi
            go_wp2_with (first
              | (go_at_call 35; refine (rows_busy (r := 1) (r' := 1) _ HS.out (by omega) (by omega) (by omega) HQ.out HQI.out).mono ?_; rintro e w5 ⟨rfl, rfl⟩)
              | (go_at_call 40; refine (rows_where (r := 1) _ HS.out (by omega) HQ.out HQI.out).mono ?_; rintro e w5 ⟨rfl, rfl⟩)
              | (go_at_call 42; refine (contains_any i _ HO.out (by omega)).mono ?_; rintro e w5 ⟨rfl, rfl⟩; rw [HIN.out]))
            go_roundw
            case rel => exact ⟨k + 1, l, by omega, by go_num, HO.out, HS.out.more (by omega), ND, HL, hbr⟩
            case measure => simp [intOf]; omega
          · have HIN := Lib.hid (decide_eq_false hin)
            have HNI := Lib.hid hin
            clear hin
            go_wp2_with (first
              | (go_at_call 35; refine (rows_push (r := 1) (i := i) _ HS.out (by omega) (by omega) (not_place HNI.out hz) (by omega) (by unfold nf; simp; omega)).mono ?_; rintro e w5 ⟨rfl, h5, k5⟩; rw [nf_push i, Af_push i] at h5; have H5 := Lib.hid h5; have HO5 := Lib.hid (own_kept HO.out k5 (fun g cs hg c => HS.out.apart hg (by decide) (by decide) (by decide) (by omega))); have hb5 := hbr.trans (k5.below (fun g hg => by omega) hbr.size); have K5 := Lib.hid k5)
              | (go_at_call 40; refine (rows_where (r := 1) (k := l.length) (i := i) _ H5.out (by omega) (by unfold nf; simp) (by unfold Af; simp [List.getD_eq_getElem?_getD])).mono ?_; rintro e w6 ⟨rfl, rfl⟩)
              | (go_at_call 42; refine (contains_any i _ HO5.out (by omega)).mono ?_; rintro e w5 ⟨rfl, rfl⟩; rw [HIN.out])
              | (at_builtin; refine wpList_append_own _ rfl (.tmp 60) (.tmp 63) 59 rfl w.heap.size 3 i0 (.int .i64 0) 1 8 Try.underlying59 hi0 hz0 hz1 hz2 rfl (by decide) _ _ _ rfl (HO5.out.alloc _) ⟨w5.heap.size, 0, none⟩ 1 1 [.int .i64 (i : Int)] rfl rfl (by intro j u hj; match j, hj with | 0, hj => simp at hj; subst hj; (try simp [Addr.add]); (try exact (Blk.new_ (by simp)).val rfl)) (by intro u hu; simp at hu; subst hu; rfl) (by unfold maxLen; omega) (by omega) (by have := hb5.size; simp; omega) ?_; intro v7 w7 hown7 hg7 _; have HOW := Lib.hid (HO5.out.alloc (.cells #[.int .i64 (i : Int)] 3)); have H7 := Lib.hid (RowsAt.grown_ (H5.out.kept (own := fun _ => False) ((Kept.refl _ _).alloc_ (.cells #[.int .i64 (i : Int)] 3)) id id id) hg7 HOW.out (by decide) (by decide) (by decide)); have hb7 := Below.grown (hb5.alloc (by have := hb5.size; omega) (.cells #[.int .i64 (i : Int)] 3)) hg7 (by have := hb5.size; simp; omega) (fun g hg => own_base HOW.out hg); have HO7 := Lib.hid hown7; clear hown7 hg7))
            go_roundw
            case rel =>
              refine ⟨k + 1, l ++ [i], by omega, by go_num, by rw [List.length_append, show ints (l ++ [i]) = ints l ++ [.int .i64 (i : Int)] by simp [ints]]; exact HO7.out, H7.out.more (by omega), Lib.hid ?_, Lib.hid ?_, hb7⟩
              · rw [List.nodup_append]
                exact ⟨ND.out, by simp, fun x hx y hy e => HNI.out (by simp at hy; rw [← hy, ← e]; exact hx)⟩
              · intro x hx
                rcases List.mem_append.1 hx with c | c
                · exact HL.out x c
                · have : x = i := by simpa using c
                  subst this
                  exact ⟨by omega, hz⟩
            case measure => simp [intOf]; omega
      · obtain rfl : k = len := by omega
        have HS2 := Lib.hid HS.out
        obtain ⟨wo, rfl⟩ : ∃ wo, wo = wr := ⟨wr, rfl⟩
        go_wp2
        go_loopw [71] (fun s71 wr => ∃ j : Nat, j ≤ l.length ∧ s71 = .int .i64 j ∧ wr.ownsRow w.heap.size 3 1 (.slice Al l.length cl) l.length (ints l) ∧ RowsAt wr p a b 3 256 (nf (l.drop j)) (Af (l.drop j)) ((k : Int) + 1) ∧ Below w.heap.size w wr) (fun i _ => l.length - (intOf i).toNat)
        case atStart => exact ⟨0, Nat.zero_le _, rfl, HO.out, by rw [List.drop_zero]; exact HS2.out, hbr⟩
        case round =>
          obtain ⟨j, hj, rfl, hown2, hs2, hbr2⟩ := hrel
          have HS3 := Lib.hid hs2
          have HO2 := Lib.hid hown2
          have ⟨hp1, hp2, hp3⟩ := hs2.lts
          clear hs2 hown2
          by_cases hjl : j < l.length
          · obtain ⟨g, rfl, hgb, hg, x, hx, hcx⟩ := ints_at HO2.out hjl
            have hmem : x ∈ l := List.mem_of_getElem? hx
            have hx256 := (HL.out x hmem).1
            have hnpos : 0 < nf (l.drop j) 1 := by unfold nf; simp; omega
            have hlast : Af (l.drop j) 1 0 = x := by
              unfold Af
              rw [if_pos rfl, List.getD_eq_getElem?_getD, List.getElem?_drop, Nat.add_zero, hx]; rfl
            have HX := Lib.hid hx
            have HLAST := Lib.hid hlast
            clear hx hlast hmem
            go_wp2_with (first
              | (go_at_call 44; ((refine (rows_front (r := 1) _ HS3.out (by omega) hnpos).mono ?_)); rintro e w2 ⟨rfl, rfl⟩; rw [HLAST.out])
              | (go_at_call 45; ((refine (rows_back (r := 1) _ HS3.out (by omega) hnpos).mono ?_)); rintro e w2 ⟨rfl, rfl⟩; rw [show nf (l.drop j) 1 - 1 = 0 by unfold nf; (try simp); (try omega), HLAST.out])
              | (go_at_call 37; ((refine (rows_rem (r := 1) (k := 0) _ HS3.out (by omega) (by unfold nf; (try simp); (try omega)) (by unfold nf; (try simp); (try omega)) HLAST.out).mono ?_)); rintro e w3 ⟨rfl, h3, k3⟩; have H3 := Lib.hid h3; have K3 := Lib.hid k3; clear h3 k3))
            go_roundw
            case rel =>
              have h3 := H3.out
              rw [nf_tail _ (by omega), Af_tail] at h3
              refine ⟨j + 1, by omega, by go_num, own_kept HO2.out K3.out (fun g' cs hg' => fun c => HS3.out.apart hg' (by decide) (by decide) (by decide) (by omega)), h3, hbr2.trans (K3.out.below (fun g' hg' => by omega) hbr2.size)⟩
            case measure => simp [intOf]; omega
          · obtain rfl : j = l.length := by omega
            have hempty : nf (l.drop l.length) 1 = 0 := by unfold nf; simp
            have HE := Lib.hid hempty
            clear hempty
            go_wp2_with fail
            refine (rows_front (r := 0) _ HS3.out (by omega) (by unfold nf; simp)).mono ?_
            rintro e w2 ⟨rfl, rfl⟩
            rw [show Af (l.drop l.length) 0 0 = 0 from rfl]
            go_wp2_with fail
            refine (rows_len (r := 1) _ HS3.out (by omega)).mono ?_
            rintro e w2 ⟨rfl, rfl⟩
            rw [HE.out]
            go_wp2_with fail
            refine (rows_len (r := 0) _ HS3.out (by omega)).mono ?_
            rintro e w2 ⟨rfl, rfl⟩
            rw [show nf (l.drop l.length) 0 = 1 from rfl]
            go_wp2
            go_ret
            exact ⟨rfl, hbr2⟩
  | true =>
    go_enter Try.func9, Try.ntmps9
    go_wp2_with (go_at_call 32; refine (awaked _).mono ?_; rintro e wn ⟨rfl, hbn⟩; replace hb := hb.trans hbn; clear hbn)
    refine (dnew_yes 3 256 _ (by omega) (by omega) (by omega) (by omega)).mono ?_
    rintro e w1 ⟨p, a, b, rfl, hp, ha, hbb, h1, hbw⟩
    have h2 : RowsAt w1 p a b 3 256 (fun _ => 0) (fun _ _ => 0) 0 := ⟨_, _, _, _, _, _, _, h1, Rep.start 3 256, fun _ => ⟨by simp, by simp⟩⟩
    have hw := hb.size
    replace hb := hb.trans (hbw.mono hb.size)
    have H1 := Lib.hid h2
    clear h1 h2 hbw
    go_wp2_with fail
    refine (rows_push (r := 0) (i := 0) _ H1.out (by omega) (by omega) (fun r' _ k hk => absurd hk (Nat.not_lt_zero k)) (by omega) (by omega)).mono ?_
    rintro e w2 ⟨rfl, h2, k2⟩
    have e1 : (fun j => if j = 0 then (fun _ : Nat => 0) 0 + 1 else (fun _ : Nat => 0) j) = nf [] := by funext j; unfold nf; by_cases e : j = 0 <;> simp [e]
    have e2 : (fun j k => if j = 0 ∧ k = (fun _ : Nat => 0) 0 then 0 else (fun _ _ : Nat => 0) j k) = Af [] := by funext j k; unfold Af; simp
    rw [e1, e2] at h2
    replace hb := hb.trans (k2.below (fun g hg => by omega) hb.size)
    have H2 := Lib.hid h2
    clear e1 e2 h2 k2
    go_wp2
    go_loopw [7, 28] (fun s7 s28 wr => ∃ (k : Nat) (l : List Nat), k ≤ len ∧ s28 = .int .i64 k ∧ wr.ownsRow w.heap.size 3 1 s7 l.length (ints l) ∧ RowsAt wr p a b 3 256 (nf l) (Af l) ((k : Int) + 1) ∧ Hid (l.Nodup) ∧ Hid (∀ x, x ∈ l → x < 256 ∧ x ≠ 0) ∧ Below w.heap.size w wr) (fun _ i _ => len - (intOf i).toNat)
    case atStart => exact ⟨0, [], Nat.zero_le _, rfl, World.ownsRow_nil _ _ _ _, H2.out, Lib.hid List.nodup_nil, Lib.hid (fun x hx => by simp at hx), hb⟩
    case round =>
      obtain ⟨k, l, hk, rfl, hown, hs, ND, HL, hbr⟩ := hrel
      have hll : l.length ≤ 256 := nodup_le 256 l ND.out (fun x hx => (HL.out x hx).1)
      obtain ⟨Al, cl, rfl⟩ := own_form hown
      have HS := Lib.hid hs
      have HO := Lib.hid hown
      have ⟨hq1, hq2, hq3⟩ := hs.lts
      clear hs hown
      by_cases hlt : k < len
      · obtain ⟨kb, ko, rfl, hkb, hkc⟩ := HK.out (by omega)
        obtain ⟨i, hi⟩ : ∃ i, K k = i := ⟨_, rfl⟩
        have i255 : i ≤ 255 := by rw [← hi]; exact HK5.out k
        have k0 : wr.cell? ⟨kb, ko + k, none⟩ = some (.int .u8 (i : Int)) := (hbr.cell hkb).trans (by have := hkc k hlt 0 (by omega); simp only [hi, Nat.mul_one, Nat.add_zero] at this; simpa using this)
        clear hkc hi
        by_cases hz : i = 0
        · subst hz
          have c0 : ((0 : Nat) : Int) = 0 := rfl
          go_wp2_with (first
            | (go_at_call 35; refine (rows_busy (r := 1) (r' := 0) (k := 0) (i := 0) _ HS.out (by omega) (by omega) (by omega) (by unfold nf; simp) rfl).mono ?_; rintro e w5 ⟨rfl, rfl⟩)
            | (go_at_call 40; refine (rows_where (r := 0) (k := 0) (i := 0) _ HS.out (by omega) (by unfold nf; simp) rfl).mono ?_; rintro e w5 ⟨rfl, rfl⟩))
          go_roundw
          case rel => exact ⟨k + 1, l, by omega, by go_num, HO.out, HS.out.more (by omega), ND, HL, hbr⟩
          case measure => simp [intOf]; omega
        · have hne : ((i : Int) == 0) = false := beq_eq_false_iff_ne.2 (by omega)
          have hne2 : ((i : Int) != 0) = true := bne_iff_ne.2 (by omega)
          have hne3 : (0 : Int) < (i : Int) := by omega
          by_cases hin : i ∈ l
          · obtain ⟨q, hq, hqi⟩ := mem_place hin
            have HIN := Lib.hid (decide_eq_true hin)
            have HQ := Lib.hid hq
            have HQI := Lib.hid hqi
            clear hin hq hqi
            go_wp2_with (first
              | (go_at_call 35; refine (rows_busy (r := 1) (r' := 1) _ HS.out (by omega) (by omega) (by omega) HQ.out HQI.out).mono ?_; rintro e w5 ⟨rfl, rfl⟩)
              | (go_at_call 40; refine (rows_where (r := 1) _ HS.out (by omega) HQ.out HQI.out).mono ?_; rintro e w5 ⟨rfl, rfl⟩)
              | (go_at_call 42; refine (contains_any i _ HO.out (by omega)).mono ?_; rintro e w5 ⟨rfl, rfl⟩; rw [HIN.out]))
            go_roundw
            case rel => exact ⟨k + 1, l, by omega, by go_num, HO.out, HS.out.more (by omega), ND, HL, hbr⟩
            case measure => simp [intOf]; omega
          · have HIN := Lib.hid (decide_eq_false hin)
            have HNI := Lib.hid hin
            clear hin
            go_wp2_with (first
              | (go_at_call 35; refine (rows_push (r := 1) (i := i) _ HS.out (by omega) (by omega) (not_place HNI.out hz) (by omega) (by unfold nf; simp; omega)).mono ?_; rintro e w5 ⟨rfl, h5, k5⟩; rw [nf_push i, Af_push i] at h5; have H5 := Lib.hid h5; have HO5 := Lib.hid (own_kept HO.out k5 (fun g cs hg c => HS.out.apart hg (by decide) (by decide) (by decide) (by omega))); have hb5 := hbr.trans (k5.below (fun g hg => by omega) hbr.size); have K5 := Lib.hid k5)
              | (go_at_call 40; refine (rows_where (r := 1) (k := l.length) (i := i) _ H5.out (by omega) (by unfold nf; simp) (by unfold Af; simp [List.getD_eq_getElem?_getD])).mono ?_; rintro e w6 ⟨rfl, rfl⟩)
              | (go_at_call 42; refine (contains_any i _ HO5.out (by omega)).mono ?_; rintro e w5 ⟨rfl, rfl⟩; rw [HIN.out])
              | (at_builtin; refine wpList_append_own _ rfl (.tmp 60) (.tmp 63) 59 rfl w.heap.size 3 i0 (.int .i64 0) 1 8 Try.underlying59 hi0 hz0 hz1 hz2 rfl (by decide) _ _ _ rfl (HO5.out.alloc _) ⟨w5.heap.size, 0, none⟩ 1 1 [.int .i64 (i : Int)] rfl rfl (by intro j u hj; match j, hj with | 0, hj => simp at hj; subst hj; (try simp [Addr.add]); (try exact (Blk.new_ (by simp)).val rfl)) (by intro u hu; simp at hu; subst hu; rfl) (by unfold maxLen; omega) (by omega) (by have := hb5.size; simp; omega) ?_; intro v7 w7 hown7 hg7 _; have HOW := Lib.hid (HO5.out.alloc (.cells #[.int .i64 (i : Int)] 3)); have H7 := Lib.hid (RowsAt.grown_ (H5.out.kept (own := fun _ => False) ((Kept.refl _ _).alloc_ (.cells #[.int .i64 (i : Int)] 3)) id id id) hg7 HOW.out (by decide) (by decide) (by decide)); have hb7 := Below.grown (hb5.alloc (by have := hb5.size; omega) (.cells #[.int .i64 (i : Int)] 3)) hg7 (by have := hb5.size; simp; omega) (fun g hg => own_base HOW.out hg); have HO7 := Lib.hid hown7; clear hown7 hg7))
            go_roundw
            case rel =>
              refine ⟨k + 1, l ++ [i], by omega, by go_num, by rw [List.length_append, show ints (l ++ [i]) = ints l ++ [.int .i64 (i : Int)] by simp [ints]]; exact HO7.out, H7.out.more (by omega), Lib.hid ?_, Lib.hid ?_, hb7⟩
              · rw [List.nodup_append]
                exact ⟨ND.out, by simp, fun x hx y hy e => HNI.out (by simp at hy; rw [← hy, ← e]; exact hx)⟩
              · intro x hx
                rcases List.mem_append.1 hx with c | c
                · exact HL.out x c
                · have : x = i := by simpa using c
                  subst this
                  exact ⟨by omega, hz⟩
            case measure => simp [intOf]; omega
      · obtain rfl : k = len := by omega
        have HS2 := Lib.hid HS.out
        obtain ⟨wo, rfl⟩ : ∃ wo, wo = wr := ⟨wr, rfl⟩
        go_wp2_with (go_at_call 43; refine (reverse_any _ HO.out (by omega) hbr.size).mono ?_; rintro e w2 ⟨rfl, ho2, k2⟩; have HO3 := Lib.hid ho2; have K2 := Lib.hid k2; clear ho2 k2)
        go_loopw [71] (fun s71 wr => ∃ j : Nat, j ≤ l.length ∧ s71 = .int .i64 j ∧ wr.ownsRow w.heap.size 3 1 (.slice Al l.length cl) l.length (ints l.reverse) ∧ RowsAt wr p a b 3 256 (nf (l.take (l.length - j))) (Af (l.take (l.length - j))) ((k : Int) + 1) ∧ Below w.heap.size w wr) (fun i _ => l.length - (intOf i).toNat)
        case atStart => exact ⟨0, Nat.zero_le _, rfl, HO3.out, by rw [Nat.sub_zero, List.take_length]; exact HS2.out.kept K2.out (fun ⟨_, cs, hc⟩ => HS2.out.apart hc (by decide) (by decide) (by decide) (.inl rfl)) (fun ⟨_, cs, hc⟩ => HS2.out.apart hc (by decide) (by decide) (by decide) (.inr (.inl rfl))) (fun ⟨_, cs, hc⟩ => HS2.out.apart hc (by decide) (by decide) (by decide) (.inr (.inr rfl))), hbr.trans (K2.out.below (fun g hg => hg.1) hbr.size)⟩
        case round =>
          obtain ⟨j, hj, rfl, hown2, hs2, hbr2⟩ := hrel
          have HS3 := Lib.hid hs2
          have HO2 := Lib.hid hown2
          have ⟨hp1, hp2, hp3⟩ := hs2.lts
          clear hs2 hown2
          by_cases hjl : j < l.length
          · obtain ⟨g, rfl, hgb, hg, x, hx, hcx⟩ := ints_at HO2.out hjl
            have hmem : x ∈ l := List.mem_reverse.1 (List.mem_of_getElem? hx)
            have hx256 := (HL.out x hmem).1
            have hnpos : 0 < nf (l.take (l.length - j)) 1 := by unfold nf; simp; omega
            have hlast : Af (l.take (l.length - j)) 1 (l.length - j - 1) = x := by
              unfold Af
              rw [List.getElem?_reverse (by omega)] at hx
              rw [if_pos rfl, List.getD_eq_getElem?_getD, List.getElem?_take_of_lt (by omega), show l.length - j - 1 = l.length - 1 - j by omega, hx]; rfl
            have HX := Lib.hid hx
            have HLAST := Lib.hid hlast
            clear hx hlast hmem
            go_wp2_with (first
              | (go_at_call 44; ((refine (rows_front (r := 1) _ HS3.out (by omega) hnpos).mono ?_)); rintro e w2 ⟨rfl, rfl⟩)
              | (go_at_call 45; ((refine (rows_back (r := 1) _ HS3.out (by omega) hnpos).mono ?_)); rintro e w2 ⟨rfl, rfl⟩; rw [show nf (l.take (l.length - j)) 1 - 1 = (l.length - j - 1) by unfold nf; (try simp); (try omega), HLAST.out])
              | (go_at_call 37; ((refine (rows_rem (r := 1) (k := (l.length - j - 1)) _ HS3.out (by omega) (by unfold nf; (try simp); (try omega)) (by unfold nf; (try simp); (try omega)) HLAST.out).mono ?_)); rintro e w3 ⟨rfl, h3, k3⟩; have H3 := Lib.hid h3; have K3 := Lib.hid k3; clear h3 k3))
            go_roundw
            case rel =>
              have h3 := H3.out
              rw [show l.length - j = (l.length - (j + 1)) + 1 by omega] at h3
              rw [show l.length - (j + 1) + 1 - 1 = l.length - (j + 1) by omega, nf_init _ (by omega), Af_init _ (by omega)] at h3
              refine ⟨j + 1, by omega, by go_num, own_kept HO2.out K3.out (fun g' cs hg' => fun c => HS3.out.apart hg' (by decide) (by decide) (by decide) (by omega)), h3, hbr2.trans (K3.out.below (fun g' hg' => by omega) hbr2.size)⟩
            case measure => simp [intOf]; omega
          · obtain rfl : j = l.length := by omega
            have hempty : nf (l.take (l.length - l.length)) 1 = 0 := by unfold nf; simp
            have HE := Lib.hid hempty
            clear hempty
            go_wp2_with fail
            refine (rows_front (r := 0) _ HS3.out (by omega) (by unfold nf; simp)).mono ?_
            rintro e w2 ⟨rfl, rfl⟩
            rw [show Af (l.take (l.length - l.length)) 0 0 = 0 from rfl]
            go_wp2_with fail
            refine (rows_len (r := 1) _ HS3.out (by omega)).mono ?_
            rintro e w2 ⟨rfl, rfl⟩
            rw [HE.out]
            go_wp2_with fail
            refine (rows_len (r := 0) _ HS3.out (by omega)).mono ?_
            rintro e w2 ⟨rfl, rfl⟩
            rw [show nf (l.take (l.length - l.length)) 0 = 1 from rfl]
            go_wp2
            go_ret
            exact ⟨rfl, hbr2⟩
set_option maxRecDepth 100000 in
theorem lifted (os : Os) (started : os.Started) (H : Type) (enc : TypeId × Value → H) :
    ReturnsInHanded {} Try.checked os 9 .any (Rows.dequeQueuesSpec.pre6 enc Try.prog Try.f9 Rows.dequeQueuesRow.domain false) (Rows.dequeQueuesSpec.post enc Try.prog Try.f9 false true false false) := by
  refine returnsInHanded_of_change (C := Try.checked) own started (by kernel_rfl) Try.func9
    (ChangeSpec.witness6 (enc := enc) (C := Try.checked) false ⟨#[], #[.slice none 0 0, .bool false], []⟩ 8 (by kernel_rfl) (by kernel_rfl) (by kernel_rfl) (by kernel_rfl)) ?_
  intro W base args ds gs before hval0 hW hcnd _
  have hval : ∀ (j : Nat) t v, Try.f9.params[j]? = some t → args[j]? = some v → Value.okWide Try.prog W .any base t v := hval0
  have hW' := hW
  obtain ⟨p, q, hA0, hV, rfl, hfz, hnd⟩ := hW
  have hA : DataW.TrodAll enc Try.prog W 0 (fun _ => true) true Try.f9.params.toList args.toList ds p := hA0
  rw [Try.params9] at hA hval
  obtain ⟨v0, vs0, d0, ds0, p0, q0, hargs, rfl, rfl, h0, r0⟩ := trodAll_cons hA
  obtain ⟨v1, vs1, d1, ds1, p1, q1, rfl, rfl, rfl, h1, r1⟩ := trodAll_cons r0
  obtain ⟨rfl, rfl, rfl⟩ := trodAll_nil r1
  obtain rfl : args = #[v0, v1] := by cases args; simp_all
  obtain ⟨rfl, rfl⟩ := trodVars_none hV
  obtain ⟨A0, len0, cap0, rfl⟩ := okWide_slice Try.underlying87 (hval 0 _ v0 rfl rfl)
  obtain ⟨fu0, g0⟩ := h0
  obtain ⟨s0, t0, Q0, u0, o0⟩ := open_bytes g0
  obtain ⟨b1, rfl, rfl, rfl⟩ := open_bool Try.underlying4 (hval 1 _ v1 rfl rfl) h1
  clear hA0 hval0
  refine (walk A0 len0 cap0 Q0 b1 W s0 t0 u0 o0).mono fun e W' ⟨he, hg⟩ => ?_
  subst he
  exact ⟨_, rfl, post_of_law hW' rfl laidOut reads rfl Try.underlying4 rfl rfl rfl hg⟩
theorem over : Rows.dequeQueuesRow.holds Try.pinned (OpenSpec.ofChange Rows.dequeQueuesSpec) :=
  OpenClaim.holds_of_wide 9 Try.f9 rfl rfl rfl rfl rfl rfl rfl ⟨rfl, rfl, rfl, rfl, rfl⟩ rfl rfl rfl rfl rfl (by kernel_rfl) Try.func9 (by kernel_rfl)
    (of_decide_eq_true (by kernel_rfl)) (by unfold Func.isWrapper; first | (rw [if_pos (by decide +kernel)]; kernel_rfl) | (rw [if_neg (by decide +kernel)]; exact ⟨rfl, rfl⟩))
    (fun os started H enc _ => lifted os started H enc)
theorem proved : Rows.DequeQueuesSaid := over
end Go.Proofs.Ytgjfigjebojjdaa.dequeQueues
