/- TierqBounds is true of every number of tiers and every list of requests, and changes nothing that it was given. -/
import Derived.Test.YthkkkcdiidflpaaTqn
import Derived.Test.YthkkkcdiidflpaaSlabd
import Derived.Test.YthkkkcdiidflpaaBxs
import Derived.Test.YthkkkcdiidflpaaHelpc
import Derived.Test.YthkkkcdiidflpaaAny
import Derived.Test.YthkkkcdiidflpaaRowb
import Derived.Test.YthkkkcdiidflpaaRows
import Derived.WalkKit
import Derived.ProofKit
import Derived.OpenShut
import Derived.Deep.DeepCutAuto
import Derived.Deep.CutBlock
import Derived.BigQuiet
import Derived.Deep.QuietTactic
import Derived.Deep.RegionHeld3
namespace Go.Proofs.Ythkkkcdiidflpaa.tierqBounds
open Go.ChangeShapes Go.WideShapes Go.ChangeAt Go.RowKit
set_option linter.unusedVariables false
theorem own : ownKnob Try.prog.godebug = none := by kernel_rfl
theorem laidOut : laidOutB Try.prog = true := by kernel_rfl
theorem reads : (Try.f4.params.toList.all fun t => Try.prog.readableRec t && decide (t < Try.prog.types.size)) = true := by kernel_rfl
set_option linter.unusedSimpArgs false
def lenOf : Value → Nat
  | .slice _ l _ => l
  | _ => 0
set_option maxRecDepth 100000 in
set_option maxHeartbeats 8000000 in
theorem walk (x : Int) (A : Option Addr) (len cap : Nat) (Q : Nat → Rq) (w : World) (hl : len ≤ cap) (hc : cap ≤ maxLen) (hQ : SeqAt w w.heap.size A len 5 (fun i => reqRow (Q i))) (hok : ∀ i, i < len → (Q i).ok) (x0 : 0 ≤ x) (x1 : x ≤ 255) :
    Calls Try.prog 4 #[.int .u8 x, .slice A len cap] w fun e w' => e = .returned (.bool true) ∧ Below w.heap.size w w' := by
  unfold maxLen at hc
  obtain ⟨X8, hX8⟩ : ∃ z, x.tmod 8 = z := ⟨_, rfl⟩
  have bX8 : 0 ≤ X8 ∧ X8 < 8 := by have a1 := Int.tmod_nonneg 8 x0; have a2 := Int.tmod_lt_of_pos x (b := 8) (by omega); omega
  have hX8' : x % 8 = X8 := by rw [← hX8, Int.tmod_eq_emod_of_nonneg x0]
  obtain ⟨N, hN⟩ : ∃ N : Nat, 1 + X8 = (N : Int) := ⟨(1 + X8).toNat, by omega⟩
  have n0 : 1 ≤ N := by omega
  have n1 : N ≤ 8 := by omega
  have wN : IntKind.i64.wrap (1 + X8) = (N : Int) := by rw [hN]; exact IntWalk.i64_in _ (by omega)
  obtain ⟨n, hn⟩ : ∃ n, min len 40 = n := ⟨_, rfl⟩
  have n2 : n ≤ len := by omega
  have n3 : n ≤ 40 := by omega
  have HN := Lib.hid hn
  have HQ := Lib.hid hQ
  have HOK := Lib.hid hok
  clear hn hQ hok
  go_enter Try.func4, Try.ntmps4
  go_upto_region 3 with (go_at_call 8; refine (awake9 _).mono ?_; rintro e wd ⟨rfl, hb1⟩; have HB1 := Lib.hid hb1; have s1 := hb1.size; have HQ1 := Lib.hid (HQ.out.up hb1 s1); clear hb1)
  clear HQ
  go_upto_region 4 with fail
  go_cut [1] (fun s1 wx => s1 = .slice A n cap ∧ wx = wd)
  case first =>
    cases A with
    | none =>
      have h0 : len = 0 := by
        rcases Nat.eq_zero_or_pos len with h | h
        · exact h
        · obtain ⟨b, off, e, _⟩ := HQ1.out h; cases e
      subst h0
      obtain rfl : n = 0 := by omega
      go_wp2
      go_meet
      exact ⟨rfl, rfl⟩
    | some ad =>
      have hmin : min (len : Int) 40 = (n : Int) := by have := HN.out; omega
      go_wp2
      go_meet
      exact ⟨by simp, rfl⟩
  case rest =>
    obtain ⟨rfl, hwd⟩ := hcut
    subst hwd
    by_cases hn0 : n = 0
    · subst hn0
      go_wp2_with fail
      go_ret
      exact ⟨rfl, HB1.out⟩
    have hn1 : 1 ≤ n := by omega
    have hnd : decide ((n : Int) = 0) = false := by simp; omega
    obtain ⟨qb, qo, rfl, hqb, hqc⟩ := HQ1.out (by omega)
    have HQC := Lib.hid hqc
    clear hqc HQ1
    go_wp2_with fail
    refine (tq_new N n _ n0 n1 hn1 (by omega)).mono ?_
    rintro e w2 ⟨q, rfl, h2, hb2⟩
    obtain ⟨hs, h42, hhs, hqs⟩ := h2.hand
    have H2 := Lib.hid h2
    have B2 := Lib.hid hb2
    have Q42 := Lib.hid h42
    have s2 := hb2.size
    clear h2 hb2 h42 hnd
    go_wp2_with fail
    go_loopw [8, 10, 11, 12, 13, 47] (fun s8 s10 s11 s12 s13 s47 wr => ∃ (k c : Nat) (st : Ts) (Z : Nat → Int), k ≤ n ∧ c ≤ k ∧ s47 = .int .i64 k ∧ TqL wr wc.heap.size q N n c st ∧ st.m = n - c ∧ OwH wr w2.heap.size s8 c Z ∧ Lives n st 0 c Z ∧ wr.cell? ⟨q, 4, none⟩ = some (.slice (some ⟨hs, 0, none⟩) n n) ∧ Below wc.heap.size wc wr ∧ w2.heap.size ≤ wr.heap.size) (fun _ _ _ _ _ i _ => n - (intOf i).toNat)
    case atStart => exact ⟨0, 0, newS n, fun _ => 0, Nat.zero_le _, Nat.le_refl _, rfl, H2.out, rfl, OwH.nil_ _ _ _, ⟨fun i h0 h => (by omega), fun i i' h0 h => (by omega)⟩, Q42.out, B2.out, Nat.le_refl _⟩
    case round =>
      obtain ⟨k, c, st, Z, hk, hck, rfl, hq, hm, ho, hlv, h4, hbr, hw2⟩ := hrel
      have HQR := Lib.hid hq
      have HO := Lib.hid ho
      have HLV := Lib.hid hlv
      have H4 := Lib.hid h4
      have HBR := Lib.hid hbr
      have hsz := hbr.size
      obtain ⟨Al, cl, rfl⟩ := own_form ho
      by_cases hlt : k < n
      · have hqq : ∀ j, j < 5 → wr.cell? ⟨qb, qo + k * 5 + j, none⟩ = (reqRow (Q k))[j]? := fun j hj => (hbr.cell hqb).trans (HQC.out k (by omega) j hj)
        obtain ⟨⟨ra, rb, rc, rd, re⟩, hr⟩ : ∃ r, Q k = r := ⟨_, rfl⟩
        rw [hr] at hqq
        have q0 : wr.cell? ⟨qb, qo + k * 5, none⟩ = some (.int .u64 ra) := hqq 0 (by omega)
        have q1 : wr.cell? ⟨qb, qo + k * 5 + 1, none⟩ = some (.int .i64 rb) := hqq 1 (by omega)
        have q2 : wr.cell? ⟨qb, qo + k * 5 + 2, none⟩ = some (.int .i64 rc) := hqq 2 (by omega)
        have q3 : wr.cell? ⟨qb, qo + k * 5 + 3, none⟩ = some (.int .i64 rd) := hqq 3 (by omega)
        have q4 : wr.cell? ⟨qb, qo + k * 5 + 4, none⟩ = some (.int .i64 re) := hqq 4 (by omega)
        have hqr : qb < wr.heap.size := by omega
        clear hq ho hlv h4 hbr hqq hr
        go_upto_region 12 with fail
        refine wp_worldx (fun wx => TqL wx wc.heap.size q N n c st ∧ Blk wx wr.heap.size 33 #[.int .u64 ra, .int .i64 rb, .int .i64 rc, .int .i64 rd, .int .i64 re] ∧ OwH wx w2.heap.size (.slice Al c cl) c Z ∧ wx.cell? ⟨q, 4, none⟩ = some (.slice (some ⟨hs, 0, none⟩) n n) ∧ Below wc.heap.size wc wx ∧ w2.heap.size ≤ wx.heap.size) ⟨HQR.out.below ((Below.refl _ _).alloc (Nat.le_refl _) _), Blk.made _ _ _, HO.out.alloc _, (((Below.refl wr.heap.size wr).alloc (Nat.le_refl _) _).cell (klt H4.out)).trans H4.out, HBR.out.alloc hsz _, by simp; omega⟩ ?_
        clear HQR HO H4 HBR q0 q1 q2 q3 q4
        rintro wx ⟨h5, b5, o5, q45, hb5, sz5⟩
        have p0 := b5.val (i := 0) rfl
        have p1 := b5.val (i := 1) rfl
        have p2 := b5.val (i := 2) rfl
        have p3 := b5.val (i := 3) rfl
        have p4 := b5.val (i := 4) rfl
        have zb := b5.size
        have H5 := Lib.hid h5
        have BK5 := Lib.hid b5
        have O5 := Lib.hid o5
        have Q45 := Lib.hid q45
        have B5 := Lib.hid hb5
        have ss5 := hb5.size
        clear h5 b5 o5 q45 hb5
        by_cases hright : 0 ≤ rb ∧ rb < (N : Int)
        · obtain ⟨i, hi⟩ : ∃ i, st.F (n - c - 1) = i := ⟨_, rfl⟩
          have HI := Lib.hid hi
          clear hi
          go_wp2_with fail
          refine (tq_put ⟨ra, rb, rc, rd, re⟩ H5.out (m := n - c - 1) (by omega) HI.out hright.1 hright.2 (by omega)).mono ?_
          rintro e w6 ⟨rfl, h6, hb6, hf6⟩
          have H6 := Lib.hid h6
          have B6 := Lib.hid (B5.out.trans hb6)
          have s6 := B6.out.size
          have O6 := Lib.hid (O5.out.framed hf6 Q45.out (fun g hg => by have := O5.out.least hg; omega))
          have Q46 := Lib.hid (hf6.2 _ Q45.out).1
          have b6 := hf6.1 _ _ BK5.out
          have L6 := Lib.hid (HLV.out.put (r := ⟨ra, rb, rc, rd, re⟩) H5.out.inv (m := n - c - 1) (by omega) HI.out)
          have sz6 : wx.heap.size ≤ w6.heap.size := by have := hb6.size; exact this
          have p1 := b6.val (i := 1) rfl
          have zb := b6.size
          clear h6 hb6 hf6 b6 p0 p2 p3 p4 H5 B5 O5 Q45 BK5
          have e1 : decide (0 ≤ rb) = true := by simp; omega
          have e2 : decide (rb < (N : Int)) = true := by simp; omega
          go_wp2_with (at_builtin; refine wpList_apph rfl (.tmp 79) (.tmp 81) rfl rfl rfl (O6.out.alloc _) (Blk.made w6 _ _) (by omega) (by simp; omega) ?_; intro v7 w7 ho7 hg7 hv7; have O7 := Lib.hid ho7; have T7 := Lib.hid ((H6.out.below ((Below.refl w6.heap.size w6).alloc (Nat.le_refl _) (.cells #[.int .u64 (st.H i + 4294967296)] 41))).grown ((((Below.refl w6.heap.size w6).alloc (Nat.le_refl _) _).cell (klt Q46.out)).trans Q46.out) hg7 (fun g hg => ⟨by have := O6.out.least hg; omega, (O6.out.alloc _).blk hg⟩)); have B7 := Lib.hid (Below.grown (B6.out.alloc s6 (.cells #[.int .u64 (st.H i + 4294967296)] 41)) hg7 (by simp; omega) (fun g hg => Nat.le_trans s2 (O6.out.least hg).1)); have S7 := hg7.size; clear ho7 hg7 hv7)
          go_roundw
          case rel => exact ⟨k + 1, c + 1, _, _, by omega, by omega, by go_num, T7.out.1, by show n - c - 1 = _; omega, O7.out, L6.out, T7.out.2, B7.out, by simp at S7; omega⟩
          case measure => simp [intOf]; omega
        · go_wp2_with fail
          refine (tq_arg ⟨ra, rb, rc, rd, re⟩ H5.out (by show rb < 0 ∨ (N : Int) ≤ rb; omega)).mono ?_
          rintro e w6 ⟨rfl, hb6⟩
          have H6 := Lib.hid (H5.out.below hb6)
          have B6 := Lib.hid (B5.out.trans (hb6.mono ss5))
          have O6 := Lib.hid (O5.out.below hb6)
          have Q46 := Lib.hid ((hb6.cell (klt Q45.out)).trans Q45.out)
          have sz6 := hb6.size
          have b6 := BK5.out.below_ hb6 BK5.out.size
          have p1 := b6.val (i := 1) rfl
          have zb := b6.size
          clear hb6 b6 p0 p2 p3 p4
          by_cases hneg : rb < 0
          · have e1 : decide (0 ≤ rb) = false := by simp; omega
            go_wp2_with fail
            go_roundw
            case rel => exact ⟨k + 1, c, st, Z, by omega, by omega, by go_num, H6.out, hm, O6.out, HLV.out, Q46.out, B6.out, by omega⟩
            case measure => simp [intOf]; omega
          · have e1 : decide (0 ≤ rb) = true := by simp; omega
            have e2 : decide (rb < (N : Int)) = false := by simp; omega
            go_wp2_with fail
            go_roundw
            case rel => exact ⟨k + 1, c, st, Z, by omega, by omega, by go_num, H6.out, hm, O6.out, HLV.out, Q46.out, B6.out, by omega⟩
            case measure => simp [intOf]; omega
      · obtain rfl : k = n := by omega
        clear hq ho hlv h4 hbr
        go_wp2_with fail
        go_loopw [8, 14, 15] (fun s8 s14 s15 wr => ∃ (c : Nat) (st : Ts) (Z : Nat → Int), c ≤ k ∧ TqL wr wc.heap.size q N k c st ∧ st.m = k - c ∧ OwH wr w2.heap.size s8 c Z ∧ Lives k st 0 c Z ∧ wr.cell? ⟨q, 4, none⟩ = some (.slice (some ⟨hs, 0, none⟩) k k) ∧ Below wc.heap.size wc wr ∧ w2.heap.size ≤ wr.heap.size) (fun s8 _ _ _ => k - lenOf s8)
        case atStart => exact ⟨c, st, Z, hck, HQR.out, hm, HO.out, HLV.out, H4.out, HBR.out, hw2⟩
        case round =>
          clear HQR HO HLV H4 HBR hm hsz hw2 hck
          obtain ⟨c, st, Z, hck, hq, hm, ho, hlv, h4, hbr, hw2⟩ := hrel
          have HQR := Lib.hid hq
          have HLV := Lib.hid hlv
          have HBR := Lib.hid hbr
          have hsz := hbr.size
          obtain ⟨Al, cl, rfl⟩ := own_form ho
          have hz : (k : Int) - st.m = (c : Int) := by omega
          have HO := Lib.hid ho
          have H4 := Lib.hid h4
          clear hq ho hlv h4 hbr
          go_wp2_with fail
          refine (tq_len HQR.out).mono ?_
          rw [hz]
          rintro e w5 ⟨rfl, hb5⟩
          have H5 := Lib.hid (HQR.out.below hb5)
          have B5 := Lib.hid (HBR.out.trans (hb5.mono hsz))
          have O5 := Lib.hid (HO.out.below hb5)
          have Q45 := Lib.hid ((hb5.cell (klt H4.out)).trans H4.out)
          have sz5 := hb5.size
          clear hb5 hz HQR HO H4 HBR
          by_cases hlt : c < k
          · obtain ⟨i, hi⟩ : ∃ i, st.F (k - c - 1) = i := ⟨_, rfl⟩
            have HI := Lib.hid hi
            clear hi
            go_wp2_with fail
            refine (tq_put ⟨0, 0, 0, 0, 0⟩ H5.out (m := k - c - 1) (by omega) HI.out (by decide) (by show (0 : Int) < (N : Int); omega) (by omega)).mono ?_
            rintro e w6 ⟨rfl, h6, hb6, hf6⟩
            have H6 := Lib.hid h6
            have B6 := Lib.hid (B5.out.trans hb6)
            have s6 := B6.out.size
            have O6 := Lib.hid (O5.out.framed hf6 Q45.out (fun g hg => by have := O5.out.least hg; omega))
            have Q46 := Lib.hid (hf6.2 _ Q45.out).1
            have L6 := Lib.hid (HLV.out.put (r := ⟨0, 0, 0, 0, 0⟩) H5.out.inv (m := k - c - 1) (by omega) HI.out)
            have sz6 : w5.heap.size ≤ w6.heap.size := by have := hb6.size; exact this
            clear h6 hb6 hf6 H5 B5 O5 Q45
            go_wp2_with (at_builtin; refine wpList_apph rfl (.tmp 97) (.tmp 99) rfl rfl rfl (O6.out.alloc _) (Blk.made w6 _ _) (by omega) (by simp; omega) ?_; intro v7 w7 ho7 hg7 hv7; have O7 := Lib.hid ho7; have T7 := Lib.hid ((H6.out.below ((Below.refl w6.heap.size w6).alloc (Nat.le_refl _) (.cells #[.int .u64 (st.H i + 4294967296)] 41))).grown ((((Below.refl w6.heap.size w6).alloc (Nat.le_refl _) _).cell (klt Q46.out)).trans Q46.out) hg7 (fun g hg => ⟨by have := O6.out.least hg; omega, (O6.out.alloc _).blk hg⟩)); have B7 := Lib.hid (Below.grown (B6.out.alloc s6 (.cells #[.int .u64 (st.H i + 4294967296)] 41)) hg7 (by simp; omega) (fun g hg => Nat.le_trans s2 (O6.out.least hg).1)); have S7 := hg7.size; clear ho7 hg7 hv7)
            obtain ⟨A7, c7, rfl⟩ := own_form O7.out
            go_roundw
            case rel => exact ⟨c + 1, _, _, by omega, T7.out.1, by show k - c - 1 = _; omega, O7.out, L6.out, T7.out.2, B7.out, by simp at S7; omega⟩
            case measure => simp [lenOf]; omega
          · obtain rfl : c = k := by omega
            have hm0 : st.m = 0 := by omega
            go_wp2_with fail
            refine (tq_full ⟨0, 0, 0, 0, 0⟩ H5.out hm0 (by decide) (by show (0 : Int) < (N : Int); omega)).mono ?_
            rintro e w6 ⟨rfl, hb6⟩
            have H6 := Lib.hid (H5.out.below hb6)
            have B6 := Lib.hid (B5.out.trans (hb6.mono (B5.out.size)))
            have O6 := Lib.hid (O5.out.below hb6)
            have Q46 := Lib.hid ((hb6.cell (klt Q45.out)).trans Q45.out)
            have sz6 := hb6.size
            clear hb6 H5 B5 O5 Q45
            obtain ⟨gl, cl', e, hgl, hgl2⟩ := own_at O6.out (by omega)
            injection e with eA en ec
            subst eA
            subst ec
            have gne : gl ≠ hs := by omega
            clear en
            go_wp2_with fail
            go_loopw [19, 20, 21, 22, 23, 111] (fun s19 s20 s21 s22 s23 s111 wr => ∃ (p : Nat) (s2 : Ts), p ≤ c ∧ s111 = .int .i64 p ∧ TqL wr wc.heap.size q N c c s2 ∧ s2.m = p ∧ OwH wr w2.heap.size (.slice (some ⟨gl, 0, none⟩) c cl) c Z ∧ Lives c s2 p c Z ∧ wr.cell? ⟨q, 4, none⟩ = some (.slice (some ⟨hs, 0, none⟩) c c) ∧ Below wc.heap.size wc wr) (fun _ _ _ _ _ i _ => c - (intOf i).toNat)
            case atStart => exact ⟨0, st, Nat.zero_le _, rfl, H6.out, hm0, O6.out, HLV.out, Q46.out, B6.out⟩
            case round =>
              clear H6 O6 HLV Q46 B6 hm0 hm hsz hw2
              obtain ⟨p, s2, hp, rfl, hq, hm, ho, hlv, h4, hbr⟩ := hrel
              have HQR := Lib.hid hq
              have HO := Lib.hid ho
              have HLV := Lib.hid hlv
              have H4 := Lib.hid h4
              have HBR := Lib.hid hbr
              have hsz := hbr.size
              by_cases hlt : p < c
              · obtain ⟨j, hj, ht, hh⟩ := hlv.1 p (Nat.le_refl _) hlt
                have hzj := hq.inv.hh j hj
                have v0 := ho.at_ hlt
                obtain ⟨zp, hzp⟩ : ∃ z, Z p = z := ⟨_, rfl⟩
                rw [hzp] at v0
                have hh2 : s2.H j = zp := hh.trans hzp
                have zg := klt v0
                have L9 := Lib.hid (hlv.tak (N := N) hj ht hh hlt)
                obtain ⟨⟨ra, rb, rc, rd, re⟩, hr⟩ : ∃ r, s2.R j = r := ⟨_, rfl⟩
                have HR := Lib.hid hr
                have HH2 := Lib.hid hh2
                have ST := Lib.hid (show aliveB c (takS N s2 j).H (takS N s2 j).T zp = false by rw [← hh2]; exact hq.inv.stale_ hj)
                have bz : 0 ≤ zp ∧ zp ≤ 18446744073709551615 := by rw [hh2] at hzj; omega
                clear hq ho hlv h4 hbr hh hh2 hr hzp hzj
                go_wp2_with fail
                refine (tq_take (g := zp) HQR.out hj ht HH2.out (by omega)).mono ?_
                rw [HR.out]
                rintro e w8 ⟨he, h8, hb8, hf8⟩
                have he : e = .returned (.tuple #[.agg #[.int .u64 ra, .int .i64 rb, .int .i64 rc, .int .i64 rd, .int .i64 re], .int .i64 0]) := he
                subst he
                have H8 := Lib.hid h8
                have B8 := Lib.hid (HBR.out.trans hb8)
                have s8 := B8.out.size
                have Q48 := Lib.hid (hf8.2 _ H4.out).1
                have O8 := Lib.hid (HO.out.frame hf8 H4.out gne)
                clear h8 hb8 hf8 v0
                go_wp2_with fail
                have a8 := (Below.refl w8.heap.size w8).alloc (Nat.le_refl _) (.cells #[.int .u64 ra, .int .i64 rb, .int .i64 rc, .int .i64 rd, .int .i64 re] 33)
                refine (tq_stale (H8.out.below a8) bz.1 bz.2 ST.out).mono ?_
                rintro e w9 ⟨he, hb9⟩
                have he : e = .returned (.tuple #[.agg #[.int .u64 0, .int .i64 0, .int .i64 0, .int .i64 0, .int .i64 0], .int .i64 6]) := he
                subst he
                have A9 := Lib.hid (a8.trans (hb9.mono (by simp)))
                have s9 := A9.out.size
                clear a8 hb9
                go_wp2_with fail
                go_roundw
                case rel =>
                  have b10 := A9.out.alloc s9 (.cells #[.int .u64 0, .int .i64 0, .int .i64 0, .int .i64 0, .int .i64 0] 33)
                  exact ⟨p + 1, _, by omega, by go_num, H8.out.below b10, by show s2.m + 1 = _; omega, O8.out.below b10, L9.out, (b10.cell (klt Q48.out)).trans Q48.out, B8.out.trans (b10.mono s8)⟩
                case measure => simp [intOf]; omega
              · obtain rfl : p = c := by omega
                have hz2 : (p : Int) - s2.m = 0 := by omega
                have HZ2 := Lib.hid hz2
                have HE := Lib.hid (hq.inv.empty hm 9223372036854775807)
                clear hq ho hlv h4 hbr hz2
                go_wp2_with fail
                refine (tq_len HQR.out).mono ?_
                rw [HZ2.out]
                rintro e w8 ⟨rfl, hb8⟩
                have H8 := Lib.hid (HQR.out.below hb8)
                have B8 := Lib.hid (HBR.out.trans (hb8.mono hsz))
                have s8 := B8.out.size
                clear hb8
                go_wp2_with fail
                refine (tq_due 9223372036854775807 H8.out).mono ?_
                rw [HE.out]
                rintro e w9 ⟨g9, rfl, -, hb9⟩
                have B9 := Lib.hid (B8.out.trans (hb9.mono s8))
                clear hb9
                go_wp2_with fail
                go_ret
                exact ⟨rfl, HB1.out.trans (B9.out.mono s1)⟩
set_option maxRecDepth 100000 in
theorem lifted (os : Os) (started : os.Started) (H : Type) (enc : TypeId × Value → H) :
    ReturnsInHanded {} Try.checked os 4 .any (Rows.tierqBoundsSpec.pre6 enc Try.prog Try.f4 Rows.tierqBoundsRow.domain false) (Rows.tierqBoundsSpec.post enc Try.prog Try.f4 false true false false) := by
  refine returnsInHanded_of_change (C := Try.checked) own started (by kernel_rfl) Try.func4
    (ChangeSpec.witness6 (enc := enc) (C := Try.checked) false ⟨#[], #[.int .u8 0, .slice none 0 0], []⟩ 8 (by kernel_rfl) (by kernel_rfl) (by kernel_rfl) (by kernel_rfl)) ?_
  intro W base args ds gs before hval0 hW hcnd _
  have hval : ∀ (j : Nat) t v, Try.f4.params[j]? = some t → args[j]? = some v → Value.okWide Try.prog W .any base t v := hval0
  have hW' := hW
  obtain ⟨p, q, hA0, hV, rfl, hfz, hnd⟩ := hW
  have hA : DataW.TrodAll enc Try.prog W 0 (fun _ => true) true Try.f4.params.toList args.toList ds p := hA0
  rw [Try.params4] at hA hval
  obtain ⟨v0, vs0, d0, ds0, p0, q0, hargs, rfl, rfl, h0, r0⟩ := trodAll_cons hA
  obtain ⟨v1, vs1, d1, ds1, p1, q1, rfl, rfl, rfl, h1, r1⟩ := trodAll_cons r0
  obtain ⟨rfl, rfl, rfl⟩ := trodAll_nil r1
  obtain rfl : args = #[v0, v1] := by cases args; simp_all
  obtain ⟨rfl, rfl⟩ := trodVars_none hV
  obtain ⟨a0, rfl, rfl, rfl, w0⟩ := open_int Try.underlying5 (hval 0 _ v0 rfl rfl) h0
  obtain ⟨A1, len1, cap1, rfl⟩ := okWide_slice Try.underlying56 (hval 1 _ v1 rfl rfl)
  obtain ⟨fu1, g1⟩ := h1
  obtain ⟨s1, t1, Q1, u1, o1⟩ := open_reqs g1
  clear hA0 hval0
  obtain ⟨l0, m0⟩ := wf_u8 w0
  refine (walk a0 A1 len1 cap1 Q1 W s1 t1 u1 o1 l0 m0).mono fun e W' ⟨he, hg⟩ => ?_
  subst he
  exact ⟨_, rfl, post_of_law hW' rfl laidOut reads rfl Try.underlying4 rfl rfl rfl hg⟩
theorem over : Rows.tierqBoundsRow.holds Try.pinned (OpenSpec.ofChange Rows.tierqBoundsSpec) :=
  OpenClaim.holds_of_wide 4 Try.f4 rfl rfl rfl rfl rfl rfl rfl ⟨rfl, rfl, rfl, rfl, rfl⟩ rfl rfl rfl rfl rfl (by kernel_rfl) Try.func4 (by kernel_rfl)
    (of_decide_eq_true (by kernel_rfl)) (by unfold Func.isWrapper; first | (rw [if_pos (by decide +kernel)]; kernel_rfl) | (rw [if_neg (by decide +kernel)]; exact ⟨rfl, rfl⟩))
    (fun os started H enc _ => lifted os started H enc)
theorem proved : Rows.TierqBoundsSaid := over
end Go.Proofs.Ythkkkcdiidflpaa.tierqBounds
