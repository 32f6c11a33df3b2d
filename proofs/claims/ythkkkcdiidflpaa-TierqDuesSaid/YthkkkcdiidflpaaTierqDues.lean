/- TierqDues is true of every list of requests and every time, and changes nothing that it was given. -/
import Derived.Test.YthkkkcdiidflpaaTqm
import Derived.Test.YthkkkcdiidflpaaSlabd
import Derived.Test.YthkkkcdiidflpaaBxs
import Derived.Test.YthkkkcdiidflpaaHelpc
import Derived.Test.YthkkkcdiidflpaaAny
import Derived.Test.YthkkkcdiidflpaaRowb
import Derived.Test.YthkkkcdiidflpaaRows
import Derived.WalkKit
import Derived.ProofKit
import Derived.OpenShut
import Derived.Deep.DeepCutAuto
import Derived.Deep.CutBlock
import Derived.BigQuiet
import Derived.Deep.QuietTactic
import Derived.Deep.RegionHeld3
namespace Go.Proofs.Ythkkkcdiidflpaa.tierqDues
open Go.ChangeShapes Go.WideShapes Go.ChangeAt Go.RowKit
set_option linter.unusedVariables false
theorem own : ownKnob Try.prog.godebug = none := by kernel_rfl
theorem laidOut : laidOutB Try.prog = true := by kernel_rfl
theorem reads : (Try.f5.params.toList.all fun t => Try.prog.readableRec t && decide (t < Try.prog.types.size)) = true := by kernel_rfl
set_option linter.unusedSimpArgs false
set_option maxRecDepth 100000 in
set_option maxHeartbeats 8000000 in
theorem walk (A : Option Addr) (len cap : Nat) (Q : Nat → Rq) (now : Int) (w : World) (hl : len ≤ cap) (hc : cap ≤ maxLen) (hQ : SeqAt w w.heap.size A len 5 (fun i => reqRow (Q i))) (hok : ∀ i, i < len → (Q i).ok) (now0 : -9223372036854775808 ≤ now) (now1 : now ≤ 9223372036854775807) :
    Calls Try.prog 5 #[.slice A len cap, .int .i64 now] w fun e w' => e = .returned (.bool true) ∧ Below w.heap.size w w' := by
  unfold maxLen at hc
  have HQ := Lib.hid hQ
  have HOK := Lib.hid hok
  clear hQ hok
  go_enter Try.func5, Try.ntmps5
  go_upto_region 3 with (go_at_call 8; refine (awake9 _).mono ?_; rintro e wd ⟨rfl, hb1⟩; have HB1 := Lib.hid hb1; have s1 := hb1.size; have HQ1 := Lib.hid (HQ.out.up hb1 s1); clear hb1)
  clear HQ
  go_wp2_with fail
  refine (tq_new 8 64 _ (by omega) (by omega) (by omega) (by omega)).mono ?_
  rintro e w2 ⟨q, rfl, h2, hb2⟩
  have H2 := Lib.hid h2
  have B2 := Lib.hid hb2
  clear h2 hb2
  go_upto_block 0 with fail
  obtain ⟨n, hn⟩ : ∃ n, min len 50 = n := ⟨_, rfl⟩
  have n2 : n ≤ len := by omega
  have n3 : n ≤ 50 := by omega
  have n4 : n < len → n = 50 := by omega
  clear hn
  go_cut [7] (fun s7 wx => ∃ st : Ts, s7 = .int .i64 ((dueE now st.D).length : Int) ∧ TqL wx wd.heap.size q 8 64 n st ∧ st.m = 64 - n ∧ (∀ j, j < 64 → st.T j = true → 0 ≤ (st.R j).a ∧ (st.R j).a < (n : Int) ∧ -9223372036854775808 ≤ (st.R j).d) ∧ (∀ j j', j < 64 → j' < 64 → st.T j = true → st.T j' = true → (st.R j).a = (st.R j').a → j = j') ∧ Below wd.heap.size wd wx)
  case first =>
    go_wp2_with fail
    go_loopw [7, 8, 9, 10, 11, 26] (fun s7 s8 s9 s10 s11 s26 wr => ∃ (k : Nat) (st : Ts), k ≤ n ∧ s26 = .int .i64 k ∧ s7 = .int .i64 ((dueE now st.D).length : Int) ∧ TqL wr wd.heap.size q 8 64 k st ∧ st.m = 64 - k ∧ (∀ j, j < 64 → st.T j = true → 0 ≤ (st.R j).a ∧ (st.R j).a < (k : Int) ∧ -9223372036854775808 ≤ (st.R j).d) ∧ (∀ j j', j < 64 → j' < 64 → st.T j = true → st.T j' = true → (st.R j).a = (st.R j').a → j = j') ∧ Below wd.heap.size wd wr) (fun _ _ _ _ _ i _ => len - (intOf i).toNat)
    case atStart => exact ⟨0, newS 64, Nat.zero_le _, rfl, rfl, H2.out, rfl, fun j hj h => (by cases h), fun j j' hj hj' h => (by cases h), B2.out⟩
    case round =>
      obtain ⟨k, st, hk, rfl, rfl, hq, hm, ha, hu, hbr⟩ := hrel
      have HQR := Lib.hid hq
      have HA := Lib.hid ha
      have HU := Lib.hid hu
      have HBR := Lib.hid hbr
      have hsz := hbr.size
      by_cases hlt : k < len
      · obtain ⟨qb, qo, rfl, hqb, hqc⟩ := HQ1.out (by omega)
        have hqq : ∀ j, j < 5 → wr.cell? ⟨qb, qo + k * 5 + j, none⟩ = (reqRow (Q k))[j]? := fun j hj => (hbr.cell hqb).trans (hqc k (by omega) j hj)
        obtain ⟨⟨ra, rb, rc, rd, re⟩, hr⟩ : ∃ r, Q k = r := ⟨_, rfl⟩
        have hokk := HOK.out k hlt
        rw [hr] at hqq hokk
        have q0 : wr.cell? ⟨qb, qo + k * 5, none⟩ = some (.int .u64 ra) := hqq 0 (by omega)
        have q1 : wr.cell? ⟨qb, qo + k * 5 + 1, none⟩ = some (.int .i64 rb) := hqq 1 (by omega)
        have q2 : wr.cell? ⟨qb, qo + k * 5 + 2, none⟩ = some (.int .i64 rc) := hqq 2 (by omega)
        have q3 : wr.cell? ⟨qb, qo + k * 5 + 3, none⟩ = some (.int .i64 rd) := hqq 3 (by omega)
        have q4 : wr.cell? ⟨qb, qo + k * 5 + 4, none⟩ = some (.int .i64 re) := hqq 4 (by omega)
        have hqr : qb < wr.heap.size := by omega
        have hokd : -9223372036854775808 ≤ rd ∧ rd ≤ 9223372036854775807 := hokk.2.2.2.1
        clear hq ha hu hbr hqq hqc hokk hr
        by_cases h50 : k < n
        · have k50 : k < 50 := by omega
          obtain ⟨bt, hbt⟩ : ∃ z, bits .and .i64 rb 7 = z := ⟨_, rfl⟩
          have bbt : 0 ≤ bt ∧ bt < 8 := by have := i64_and7 rb; omega
          have kw : IntKind.u64.wrap (k : Int) = (k : Int) := IntWalk.u64_in _ (by omega)
          obtain ⟨i, hi⟩ : ∃ i, st.F (63 - k) = i := ⟨_, rfl⟩
          have HI := Lib.hid hi
          clear hi
          go_upto_region 11 with fail
          refine wp_worldx (fun wx => TqL wx wd.heap.size q 8 64 k st ∧ Blk wx wr.heap.size 33 #[.int .u64 (k : Int), .int .i64 bt, .int .i64 rc, .int .i64 rd, .int .i64 re] ∧ Below wd.heap.size wd wx) ⟨HQR.out.below ((Below.refl _ _).alloc (Nat.le_refl _) _), Blk.made _ _ _, HBR.out.alloc hsz _⟩ ?_
          rintro wx ⟨h4, b4, hb4⟩
          have p0 := b4.val (i := 0) rfl
          have p1 := b4.val (i := 1) rfl
          have p2 := b4.val (i := 2) rfl
          have p3 := b4.val (i := 3) rfl
          have p4 := b4.val (i := 4) rfl
          have zb := b4.size
          have H4 := Lib.hid h4
          have BK := Lib.hid b4
          have B4 := Lib.hid hb4
          clear h4 b4 hb4 q0 q1 q2 q3 q4
          go_wp2_with fail
          refine (tq_put ⟨k, bt, rc, rd, re⟩ H4.out (m := 63 - k) (by omega) HI.out bbt.1 (by show bt < ((8 : Nat) : Int); omega) (by omega)).mono ?_
          rintro e w3 ⟨rfl, h3, hb3, hfr⟩
          have H3 := Lib.hid h3
          have B3 := Lib.hid (B4.out.trans hb3)
          have b5 := hfr.1 _ _ BK.out
          have p3 := b5.val (i := 3) rfl
          have zb := b5.size
          have hf := HQR.out.inv.free (m := 63 - k) (by omega)
          rw [HI.out] at hf
          have dl := due_ins now ⟨rd, k, i⟩ st.D
          have e1 : (putS st i (63 - k) ⟨k, bt, rc, rd, re⟩).D = insE ⟨rd, k, i⟩ st.D := rfl
          rw [← e1] at dl
          have dl : (dueE now (putS st i (63 - k) ⟨k, bt, rc, rd, re⟩).D).length = (dueE now st.D).length + (if rd ≤ now then 1 else 0) := dl
          have lb : (dueE now st.D).length ≤ 64 := by have := HQR.out.due_len now; omega
          have fin1 : ∀ j, j < 64 → (putS st i (63 - k) ⟨k, bt, rc, rd, re⟩).T j = true → 0 ≤ ((putS st i (63 - k) ⟨k, bt, rc, rd, re⟩).R j).a ∧ ((putS st i (63 - k) ⟨k, bt, rc, rd, re⟩).R j).a < ((k + 1 : Nat) : Int) ∧ -9223372036854775808 ≤ ((putS st i (63 - k) ⟨k, bt, rc, rd, re⟩).R j).d := by
            intro j hj ht
            have ht' : (if j = i then true else st.T j) = true := ht
            show 0 ≤ (if j = i then (⟨k, bt, rc, rd, re⟩ : Rq) else st.R j).a ∧ (if j = i then (⟨k, bt, rc, rd, re⟩ : Rq) else st.R j).a < ((k + 1 : Nat) : Int) ∧ -9223372036854775808 ≤ (if j = i then (⟨k, bt, rc, rd, re⟩ : Rq) else st.R j).d
            by_cases c : j = i
            · rw [if_pos c]; show 0 ≤ (k : Int) ∧ (k : Int) < _ ∧ _ ≤ rd; omega
            · rw [if_neg c] at ht' ⊢; have := HA.out j hj ht'; omega
          have fin2 : ∀ j j', j < 64 → j' < 64 → (putS st i (63 - k) ⟨k, bt, rc, rd, re⟩).T j = true → (putS st i (63 - k) ⟨k, bt, rc, rd, re⟩).T j' = true → ((putS st i (63 - k) ⟨k, bt, rc, rd, re⟩).R j).a = ((putS st i (63 - k) ⟨k, bt, rc, rd, re⟩).R j').a → j = j' := by
            intro j j' hj hj' ht ht' he
            have h1 : (if j = i then true else st.T j) = true := ht
            have h2 : (if j' = i then true else st.T j') = true := ht'
            have h3 : (if j = i then (⟨k, bt, rc, rd, re⟩ : Rq) else st.R j).a = (if j' = i then (⟨k, bt, rc, rd, re⟩ : Rq) else st.R j').a := he
            by_cases c : j = i <;> by_cases d : j' = i
            · omega
            · rw [if_neg d] at h2
              rw [if_pos c, if_neg d] at h3
              have := HA.out j' hj' h2
              have h3 : (k : Int) = (st.R j').a := h3
              omega
            · rw [if_neg c] at h1
              rw [if_neg c, if_pos d] at h3
              have := HA.out j hj h1
              have h3 : (st.R j).a = (k : Int) := h3
              omega
            · rw [if_neg c] at h1 h3
              rw [if_neg d] at h2 h3
              exact HU.out j j' hj hj' h1 h2 h3
          have F1 := Lib.hid fin1
          have F2 := Lib.hid fin2
          obtain ⟨dn, hdn⟩ : ∃ z, (dueE now st.D).length = z := ⟨_, rfl⟩
          rw [hdn] at dl lb ⊢
          have DL := Lib.hid dl
          clear h3 hb3 hfr b5 fin1 fin2 dl e1 p0 p1 p2 p4 H4 BK B4 hdn
          by_cases c : rd ≤ now
          · have ed : decide (rd ≤ now) = true := by simp; exact c
            have wd1 : IntKind.i64.wrap ((dn : Int) + 1) = (dn : Int) + 1 := IntWalk.i64_in _ (by omega)
            go_wp2_with fail
            go_roundw
            case rel => exact ⟨k + 1, _, by omega, by go_num, congrArg (Value.int IntKind.i64) (by rw [DL.out, if_pos c]; rfl), H3.out, by show 63 - k = _; omega, F1.out, F2.out, B3.out⟩
            case measure => simp [intOf]; omega
          · have ed : decide (rd ≤ now) = false := by simp; omega
            go_wp2_with fail
            go_roundw
            case rel => exact ⟨k + 1, _, by omega, by go_num, congrArg (Value.int IntKind.i64) (by rw [DL.out, if_neg (by omega)]; rfl), H3.out, by show 63 - k = _; omega, F1.out, F2.out, B3.out⟩
            case measure => simp [intOf]; omega
        · obtain rfl : k = n := by omega
          have e50 : decide ((50 : Int) ≤ (k : Int)) = true := by have : k = 50 := n4 hlt; simp; omega
          have hkl : (k : Int) < (len : Int) := by omega
          clear h50 n4
          go_wp2_with fail
          go_meet
          exact ⟨st, rfl, HQR.out.below ((Below.refl _ _).alloc (Nat.le_refl _) _), hm, HA.out, HU.out, HBR.out.alloc hsz _⟩
      · obtain rfl : k = n := by omega
        clear hq ha hu hbr
        go_wp2_with fail
        go_meet
        exact ⟨st, rfl, HQR.out, hm, HA.out, HU.out, HBR.out⟩
  case rest =>
    obtain ⟨st, rfl, hq, hm, ha, hu, hbr⟩ := hcut
    have HQR := Lib.hid hq
    have HA := Lib.hid ha
    have HU := Lib.hid hu
    have HBR := Lib.hid hbr
    have hsz := hbr.size
    clear hq ha hu hbr
    have hz : ((64 : Nat) : Int) - st.m = (n : Int) := by omega
    go_wp2_with fail
    refine (tq_len HQR.out).mono ?_
    rw [hz]
    rintro e w3 ⟨rfl, hb3⟩
    have H3 := Lib.hid (HQR.out.below hb3)
    have B3 := Lib.hid (HBR.out.trans (hb3.mono hsz))
    have s3 := B3.out.size
    have sc3 := hb3.size
    clear hb3
    go_upto_region 19 with fail
    refine wp_worldx (fun wx => TqL wx wd.heap.size q 8 64 n st ∧ Blk wx w3.heap.size 33 #[.int .u64 0, .int .i64 0, .int .i64 0, .int .i64 (-9223372036854775808), .int .i64 0] ∧ Below wd.heap.size wd wx) ⟨H3.out.below ((Below.refl _ _).alloc (Nat.le_refl _) _), Blk.made _ _ _, B3.out.alloc s3 _⟩ ?_
    rintro w4 ⟨h4, b4, hb4⟩
    have H4 := Lib.hid h4
    have BK4 := Lib.hid b4
    have B4 := Lib.hid hb4
    have s4 := hb4.size
    have zb4 := b4.size
    clear h4 b4 hb4 H3 B3 HBR
    go_wp2_with fail
    refine (tq_due now H4.out).mono ?_
    obtain ⟨Dd, hDd⟩ : ∃ D, dueE now st.D = D := ⟨_, rfl⟩
    have lDd := H4.out.due_len now
    rw [hDd] at lDd ⊢
    rintro e w5 ⟨gd, rfl, ho5, hb5⟩
    have H5 := Lib.hid (H4.out.below hb5)
    have BK5 := Lib.hid (BK4.out.below_ hb5 BK4.out.size)
    have B5 := Lib.hid (B4.out.trans (hb5.mono s4))
    obtain ⟨hs, h44, hhs, hqs⟩ := H4.out.hand
    have h54 := (hb5.cell (klt h44)).trans h44
    have hgd := ho5.lo
    have HO5 := Lib.hid ho5
    have H54 := Lib.hid h54
    have HDD := Lib.hid hDd
    clear ho5 hb5 H4 BK4 B4 h44 h54 hDd
    have hqg : q ≠ w3.heap.size := by
      obtain ⟨hs', h3c, _, hq3⟩ := HQR.out.hand
      omega
    go_wp2_with fail
    go_loopw [14, 15, 16, 17, 62] (fun s14 s15 s16 s17 s62 wr => ∃ (p : Nat) (s2 : Ts) (la lb lc ld le : Int), p ≤ Dd.length ∧ s62 = .int .i64 p ∧ TqL wr wd.heap.size q 8 64 n s2 ∧ s2.m = 64 - n + p ∧ dueE now s2.D = Dd.drop p ∧ s2.H = st.H ∧ (∀ j, j < 64 → s2.T j = true → st.T j = true ∧ s2.R j = st.R j) ∧
      Blk wr w3.heap.size 33 #[.int .u64 la, .int .i64 lb, .int .i64 lc, .int .i64 ld, .int .i64 le] ∧ (p = 0 → ld = -9223372036854775808) ∧ (∀ r, p = r + 1 → ∃ e, Dd[r]? = some e ∧ ld = e.k ∧ la = e.t) ∧
      OwH wr w4.heap.size (.slice (some ⟨gd, 0, none⟩) Dd.length Dd.length) Dd.length (fun i => st.V (memE Dd i)) ∧ wr.cell? ⟨q, 4, none⟩ = some (.slice (some ⟨hs, 0, none⟩) 64 64) ∧ Below wd.heap.size wd wr) (fun _ _ _ _ i _ => Dd.length - (intOf i).toNat)
    case atStart => exact ⟨0, st, 0, 0, 0, -9223372036854775808, 0, Nat.zero_le _, rfl, H5.out, by omega, by rw [HDD.out, List.drop_zero], rfl, fun j hj h => ⟨h, rfl⟩, BK5.out, fun _ => rfl, fun r hr => (by omega), HO5.out, H54.out, B5.out⟩
    case round =>
      obtain ⟨p, s2, la, lb, lc, ld, le, hp, rfl, hq, hm2, hd2, hh2, ht2, hbk, hl0, hl1, ho, h4, hbr⟩ := hrel
      have HQ2 := Lib.hid hq
      have HT2 := Lib.hid ht2
      have HO := Lib.hid ho
      have H44 := Lib.hid h4
      have HBR := Lib.hid hbr
      have HBK := Lib.hid hbk
      have HD2 := Lib.hid hd2
      have HH2 := Lib.hid hh2
      have hsz := hbr.size
      by_cases hlt : p < Dd.length
      · have hpl : 0 < (dueE now s2.D).length := by rw [hd2, List.length_drop]; omega
        obtain ⟨i, hi, hin, hit, hie, hid⟩ := hq.inv.due_at (now := now) (p := 0) hpl
        have hmi : memE Dd p = i := by rw [hd2, memE_drop] at hi; exact hi
        have hit1 := ht2 i hin hit
        have hdp : Dd[p]? = some ⟨(s2.R i).d, (s2.R i).a, (i : Int)⟩ := by
          have e1 : (dueE now s2.D)[0]? = some ⟨(s2.R i).d, (s2.R i).a, (i : Int)⟩ := by rw [List.getElem?_eq_getElem hpl, hie]
          rw [hd2, List.getElem?_drop, Nat.add_zero] at e1
          exact e1
        have hhd : s2.H i = st.V (memE Dd p) := by rw [hmi, hh2]; exact (HQR.out.inv.vh i hin hit1.1).symm
        have hai := HA.out i hin hit1.1
        have hup : ∀ r e, p = r + 1 → Dd[r]? = some e → e.k < (s2.R i).d ∨ e.k = (s2.R i).d ∧ e.t < (s2.R i).a := by
          intro r e hr he
          have hpw : Dd.Pairwise ltE := by rw [← HDD.out]; exact due_up now HQR.out.up
          have hrl : r < Dd.length := by omega
          have h1 := List.pairwise_iff_getElem.1 hpw r p hrl hlt (by omega)
          have h2 : Dd[r] = e := by rw [List.getElem?_eq_getElem hrl] at he; exact Option.some.inj he
          have h3 : Dd[p] = ⟨(s2.R i).d, (s2.R i).a, (i : Int)⟩ := by rw [List.getElem?_eq_getElem hlt] at hdp; exact Option.some.inj hdp
          rw [h2, h3] at h1
          have hem : e ∈ st.D := by
            have : e ∈ dueE now st.D := by rw [HDD.out, ← h2]; exact List.getElem_mem hrl
            exact (due_mem.1 this).1
          obtain ⟨i', hi', hti', rfl⟩ := HQR.out.inv.ds e hem
          rcases h1 with h1 | ⟨h1, h4 | ⟨h4, h5⟩⟩
          · exact .inl h1
          · exact .inr ⟨h1, h4⟩
          · exfalso
            have h4' : (st.R i').a = (s2.R i).a := h4
            rw [hit1.2] at h4'
            have := HU.out i' i hi' hin hti' hit1.1 h4'
            subst this
            exact absurd h5 (Int.lt_irrefl _)
        rw [← hit1.2] at hai
        obtain ⟨⟨ra, rb, rc, rd, re⟩, hr⟩ : ∃ r, s2.R i = r := ⟨_, rfl⟩
        rw [hr] at hdp hai hup hid
        have hdp : Dd[p]? = some ⟨rd, ra, (i : Int)⟩ := hdp
        have hai : 0 ≤ ra ∧ ra < (n : Int) ∧ -9223372036854775808 ≤ rd := hai
        have hid : rd ≤ now := hid
        have hup : ∀ r e, p = r + 1 → Dd[r]? = some e → e.k < rd ∨ e.k = rd ∧ e.t < ra := hup
        have hord : ¬ rd < ld ∧ (0 < p → rd = ld → ¬ ra ≤ la) := by
          rcases Nat.eq_zero_or_pos p with c | c
          · have := hl0 c; omega
          · obtain ⟨e, h1, h2, h3⟩ := hl1 (p - 1) (by omega)
            have := hup (p - 1) e (by omega) h1
            omega
        have v0 := ho.at_ hlt
        have zg := klt v0
        have HR := Lib.hid hr
        have HHD := Lib.hid hhd
        have HDP := Lib.hid hdp
        have HMI := Lib.hid hmi
        obtain ⟨hv, hhv⟩ : ∃ z, st.V (memE Dd p) = z := ⟨_, rfl⟩
        replace v0 : wr.cell? ⟨gd, p, none⟩ = some (.int .u64 hv) := by rw [← hhv]; exact v0
        have HHV := Lib.hid hhv
        clear hq ht2 ho h4 hbr hbk hl0 hl1 hd2 hh2 hi hie hmi hit1 hdp hhd hup hr hhv hpl
        go_wp2_with fail
        refine (tq_take (g := hv) HQ2.out hin hit (by rw [HHD.out, HHV.out]) (by omega)).mono ?_
        rw [HR.out]
        rintro e w6 ⟨he, h6, hb6, hf6⟩
        have he : e = .returned (.tuple #[.agg #[.int .u64 ra, .int .i64 rb, .int .i64 rc, .int .i64 rd, .int .i64 re], .int .i64 0]) := he
        subst he
        have H6 := Lib.hid h6
        have B6 := Lib.hid (HBR.out.trans hb6)
        have s6 := B6.out.size
        have BK6 := Lib.hid (hf6.1 _ _ HBK.out)
        have Q46 := Lib.hid (hf6.2 _ H44.out).1
        have O6 := Lib.hid (HO.out.frame hf6 H44.out (by omega))
        clear h6 hb6 hf6 v0
        go_upto_region 23 with fail
        have a6 := (Below.refl w6.heap.size w6).alloc (Nat.le_refl _) (.cells #[.int .u64 ra, .int .i64 rb, .int .i64 rc, .int .i64 rd, .int .i64 re] 33)
        refine wp_worldx (fun wx => TqL wx wd.heap.size q 8 64 n (takS 8 s2 i) ∧ Blk wx w6.heap.size 33 #[.int .u64 ra, .int .i64 rb, .int .i64 rc, .int .i64 rd, .int .i64 re] ∧ Blk wx w3.heap.size 33 #[.int .u64 la, .int .i64 lb, .int .i64 lc, .int .i64 ld, .int .i64 le] ∧
          OwH wx w4.heap.size (.slice (some ⟨gd, 0, none⟩) Dd.length Dd.length) Dd.length (fun i => st.V (memE Dd i)) ∧ wx.cell? ⟨q, 4, none⟩ = some (.slice (some ⟨hs, 0, none⟩) 64 64) ∧ Below wd.heap.size wd wx) ⟨H6.out.below a6, Blk.made _ _ _, BK6.out.alloc_ _, O6.out.below a6, (a6.cell (klt Q46.out)).trans Q46.out, B6.out.alloc s6 _⟩ ?_
        clear a6 H6 B6 BK6 Q46 O6
        rintro w7 ⟨h7, bn, bl, o7, q47, hb7⟩
        have p0 := bn.val (i := 0) rfl
        have p1 := bn.val (i := 1) rfl
        have p2 := bn.val (i := 2) rfl
        have p3 := bn.val (i := 3) rfl
        have p4 := bn.val (i := 4) rfl
        have l0 := bl.val (i := 0) rfl
        have l1 := bl.val (i := 1) rfl
        have l2 := bl.val (i := 2) rfl
        have l3 := bl.val (i := 3) rfl
        have l4 := bl.val (i := 4) rfl
        have zl := bl.free
        have zs := bl.size
        have zs6 := bn.size
        have H7 := Lib.hid h7
        have BL := Lib.hid bl
        have O7 := Lib.hid o7
        have Q47 := Lib.hid q47
        have B7 := Lib.hid hb7
        clear h7 bn bl o7 q47 hb7
        have f1 : decide (now < rd) = false := by simp; omega
        have f2 : decide (rd < ld) = false := by simp; omega
        have FIN : Hid (∃ st' : Ts, st' = takS 8 s2 i ∧ st'.m = 64 - n + (p + 1) ∧ dueE now st'.D = Dd.drop (p + 1) ∧ st'.H = st.H ∧ (∀ j, j < 64 → st'.T j = true → st.T j = true ∧ st'.R j = st.R j)) := Lib.hid (by
          refine ⟨_, rfl, by show s2.m + 1 = _; omega, ?_, HH2.out, fun j hj hjt => ?_⟩
          · show dueE now (remK (i : Int) s2.D) = _
            rw [due_rem, HD2.out]
            have h3 : Dd[p] = ⟨rd, ra, (i : Int)⟩ := by have := HDP.out; rw [List.getElem?_eq_getElem hlt] at this; exact Option.some.inj this
            have h4 := rem_drop (D := Dd) (by rw [← HDD.out]; exact due_up now HQR.out.up) (fun e e' he he' hm => HQR.out.inv.one e e' (due_mem.1 (HDD.out ▸ he)).1 (due_mem.1 (HDD.out ▸ he')).1 hm) hlt
            rw [h3] at h4
            exact h4
          · have hjt' : (if j = i then false else s2.T j) = true := hjt
            show st.T j = true ∧ (if j = i then (⟨0, 0, 0, 0, 0⟩ : Rq) else s2.R j) = st.R j
            by_cases c : j = i
            · rw [if_pos c] at hjt'; cases hjt'
            · rw [if_neg c] at hjt' ⊢; exact HT2.out j hj hjt')
        have NXT : Hid (∀ r, p + 1 = r + 1 → ∃ e, Dd[r]? = some e ∧ rd = e.k ∧ ra = e.t) := Lib.hid (fun r hr => ⟨⟨rd, ra, (i : Int)⟩, by rw [show r = p from by omega]; exact HDP.out, rfl, rfl⟩)
        have p0' : decide ((0 : Int) < (p : Int)) = decide (0 < p) := by simp
        by_cases c : 0 < p
        · have e0 : decide ((0 : Int) < (p : Int)) = true := by simp; omega
          by_cases d : rd = ld
          · have e1 : decide (rd = ld) = true := by simp; exact d
            have e2 : decide (ra ≤ la) = false := by have := hord.2 c d; simp; omega
            have e0n : decide (0 < p) = true := by simp; omega
            clear p0' hord
            subst d
            go_wp2_with fail
            go_roundw
            case rel =>
              obtain ⟨st', hst, hm', hd', hh', ht'⟩ := FIN.out
              subst hst
              have hb := TqL.box5 (u0 := .int .u64 ra) (u1 := .int .i64 rb) (u2 := .int .i64 rc) (u3 := .int .i64 rd) (u4 := .int .i64 re) H7.out BL.out
              have hc := box_rest (u0 := .int .u64 ra) (u1 := .int .i64 rb) (u2 := .int .i64 rc) (u3 := .int .i64 rd) (u4 := .int .i64 re) BL.out O7.out Q47.out hqg B7.out s3
              exact ⟨p + 1, _, ra, rb, rc, rd, re, by omega, by go_num, hb.1, hm', hd', hh', ht', hb.2, fun h => absurd h (Nat.succ_ne_zero p), NXT.out, hc.1, hc.2.1, hc.2.2⟩
            case measure => simp [intOf]; omega
          · have e1 : decide (rd = ld) = false := by simp; exact d
            have e0n : decide (0 < p) = true := by simp; omega
            clear p0' hord
            skip
            go_wp2_with fail
            go_roundw
            case rel =>
              obtain ⟨st', hst, hm', hd', hh', ht'⟩ := FIN.out
              subst hst
              have hb := TqL.box5 (u0 := .int .u64 ra) (u1 := .int .i64 rb) (u2 := .int .i64 rc) (u3 := .int .i64 rd) (u4 := .int .i64 re) H7.out BL.out
              have hc := box_rest (u0 := .int .u64 ra) (u1 := .int .i64 rb) (u2 := .int .i64 rc) (u3 := .int .i64 rd) (u4 := .int .i64 re) BL.out O7.out Q47.out hqg B7.out s3
              exact ⟨p + 1, _, ra, rb, rc, rd, re, by omega, by go_num, hb.1, hm', hd', hh', ht', hb.2, fun h => absurd h (Nat.succ_ne_zero p), NXT.out, hc.1, hc.2.1, hc.2.2⟩
            case measure => simp [intOf]; omega
        · have e0 : decide ((0 : Int) < (p : Int)) = false := by simp; omega
          have e0n : decide (0 < p) = false := by simp; omega
          clear p0' hord
          go_wp2_with fail
          go_roundw
          case rel =>
            obtain ⟨st', hst, hm', hd', hh', ht'⟩ := FIN.out
            subst hst
            have hb := TqL.box5 (u0 := .int .u64 ra) (u1 := .int .i64 rb) (u2 := .int .i64 rc) (u3 := .int .i64 rd) (u4 := .int .i64 re) H7.out BL.out
            have hc := box_rest (u0 := .int .u64 ra) (u1 := .int .i64 rb) (u2 := .int .i64 rc) (u3 := .int .i64 rd) (u4 := .int .i64 re) BL.out O7.out Q47.out hqg B7.out s3
            exact ⟨p + 1, _, ra, rb, rc, rd, re, by omega, by go_num, hb.1, hm', hd', hh', ht', hb.2, fun h => absurd h (Nat.succ_ne_zero p), NXT.out, hc.1, hc.2.1, hc.2.2⟩
          case measure => simp [intOf]; omega
      · obtain rfl : p = Dd.length := by omega
        have hz2 : ((64 : Nat) : Int) - s2.m = (n : Int) - (Dd.length : Int) := by omega
        have hnil : dueE now s2.D = [] := by rw [hd2, List.drop_length]
        have wn : IntKind.i64.wrap ((n : Int) - (Dd.length : Int)) = (n : Int) - (Dd.length : Int) := IntWalk.i64_in _ (by omega)
        have HZ2 := Lib.hid hz2
        have HNIL := Lib.hid hnil
        clear hq ht2 ho h4 hbr hbk hl0 hl1 hd2 hh2 hz2 hnil hz hm hm2
        go_wp2_with fail
        refine (tq_len HQ2.out).mono ?_
        rw [HZ2.out]
        rintro e w8 ⟨rfl, hb8⟩
        have H8 := Lib.hid (HQ2.out.below hb8)
        have B8 := Lib.hid (HBR.out.trans (hb8.mono hsz))
        have s8 := B8.out.size
        clear hb8
        go_wp2_with fail
        refine (tq_due now H8.out).mono ?_
        rw [HNIL.out]
        rintro e w9 ⟨g9, rfl, -, hb9⟩
        have B9 := Lib.hid (B8.out.trans (hb9.mono s8))
        clear hb9
        go_wp2_with fail
        go_ret
        exact ⟨rfl, HB1.out.trans (B9.out.mono s1)⟩
set_option maxRecDepth 100000 in
theorem lifted (os : Os) (started : os.Started) (H : Type) (enc : TypeId × Value → H) :
    ReturnsInHanded {} Try.checked os 5 .any (Rows.tierqDuesSpec.pre6 enc Try.prog Try.f5 Rows.tierqDuesRow.domain false) (Rows.tierqDuesSpec.post enc Try.prog Try.f5 false true false false) := by
  refine returnsInHanded_of_change (C := Try.checked) own started (by kernel_rfl) Try.func5
    (ChangeSpec.witness6 (enc := enc) (C := Try.checked) false ⟨#[], #[.slice none 0 0, .int .i64 0], []⟩ 8 (by kernel_rfl) (by kernel_rfl) (by kernel_rfl) (by kernel_rfl)) ?_
  intro W base args ds gs before hval0 hW hcnd _
  have hval : ∀ (j : Nat) t v, Try.f5.params[j]? = some t → args[j]? = some v → Value.okWide Try.prog W .any base t v := hval0
  have hW' := hW
  obtain ⟨p, q, hA0, hV, rfl, hfz, hnd⟩ := hW
  have hA : DataW.TrodAll enc Try.prog W 0 (fun _ => true) true Try.f5.params.toList args.toList ds p := hA0
  rw [Try.params5] at hA hval
  obtain ⟨v0, vs0, d0, ds0, p0, q0, hargs, rfl, rfl, h0, r0⟩ := trodAll_cons hA
  obtain ⟨v1, vs1, d1, ds1, p1, q1, rfl, rfl, rfl, h1, r1⟩ := trodAll_cons r0
  obtain ⟨rfl, rfl, rfl⟩ := trodAll_nil r1
  obtain rfl : args = #[v0, v1] := by cases args; simp_all
  obtain ⟨rfl, rfl⟩ := trodVars_none hV
  obtain ⟨A0, len0, cap0, rfl⟩ := okWide_slice Try.underlying56 (hval 0 _ v0 rfl rfl)
  obtain ⟨fu0, g0⟩ := h0
  obtain ⟨s0, t0, Q0, u0, o0⟩ := open_reqs g0
  obtain ⟨a1, rfl, rfl, rfl, w1⟩ := open_int Try.underlying2 (hval 1 _ v1 rfl rfl) h1
  clear hA0 hval0
  obtain ⟨l1, m1⟩ := wf_i64 w1
  refine (walk A0 len0 cap0 Q0 a1 W s0 t0 u0 o0 l1 m1).mono fun e W' ⟨he, hg⟩ => ?_
  subst he
  exact ⟨_, rfl, post_of_law hW' rfl laidOut reads rfl Try.underlying4 rfl rfl rfl hg⟩
theorem over : Rows.tierqDuesRow.holds Try.pinned (OpenSpec.ofChange Rows.tierqDuesSpec) :=
  OpenClaim.holds_of_wide 5 Try.f5 rfl rfl rfl rfl rfl rfl rfl ⟨rfl, rfl, rfl, rfl, rfl⟩ rfl rfl rfl rfl rfl (by kernel_rfl) Try.func5 (by kernel_rfl)
    (of_decide_eq_true (by kernel_rfl)) (by unfold Func.isWrapper; first | (rw [if_pos (by decide +kernel)]; kernel_rfl) | (rw [if_neg (by decide +kernel)]; exact ⟨rfl, rfl⟩))
    (fun os started H enc _ => lifted os started H enc)
theorem proved : Rows.TierqDuesSaid := over
end Go.Proofs.Ythkkkcdiidflpaa.tierqDues
