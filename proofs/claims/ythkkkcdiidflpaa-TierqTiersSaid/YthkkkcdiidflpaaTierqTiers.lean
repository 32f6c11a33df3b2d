/- TierqTiers is true of every number of tiers and every list of tiers, and changes nothing that it was given. -/
import Derived.Test.YthkkkcdiidflpaaTqi
import Derived.Test.YthkkkcdiidflpaaBxs
import Derived.Test.YthkkkcdiidflpaaHelpc
import Derived.Test.YthkkkcdiidflpaaAny
import Derived.Test.YthkkkcdiidflpaaRowb
import Derived.Test.YthkkkcdiidflpaaRows
import Derived.WalkKit
import Derived.ProofKit
import Derived.OpenShut
import Derived.Deep.DeepCutAuto
import Derived.Deep.CutBlock
import Derived.BigQuiet
import Derived.Deep.QuietTactic
import Derived.Deep.RegionHeld3
namespace Go.Proofs.Ythkkkcdiidflpaa.tierqTiers
open Go.ChangeShapes Go.WideShapes Go.ChangeAt Go.RowKit
set_option linter.unusedVariables false
theorem own : ownKnob Try.prog.godebug = none := by kernel_rfl
theorem laidOut : laidOutB Try.prog = true := by kernel_rfl
theorem reads : (Try.f7.params.toList.all fun t => Try.prog.readableRec t && decide (t < Try.prog.types.size)) = true := by kernel_rfl
set_option linter.unusedSimpArgs false
theorem tmod_nn (k : Int) (n : Nat) (hk : 0 ≤ k) (hn : 0 < n) : ∃ m : Nat, k.tmod (n : Int) = (m : Int) ∧ m < n := by
  have a1 := Int.tmod_nonneg (n : Int) hk
  have a2 := Int.tmod_lt_of_pos k (b := (n : Int)) (by omega)
  exact ⟨(k.tmod (n : Int)).toNat, by omega, by omega⟩
set_option maxRecDepth 100000 in
set_option maxHeartbeats 8000000 in
theorem walk (x : Int) (A : Option Addr) (len cap : Nat) (Q : Nat → Int) (w : World) (hl : len ≤ cap) (hc : cap ≤ maxLen) (hQ : SeqAt w w.heap.size A len 1 (fun i => [.int .u8 (Q i)])) (hok : ∀ i, 0 ≤ Q i ∧ Q i ≤ 255) (x0 : 0 ≤ x) (x1 : x ≤ 255) :
    Calls Try.prog 7 #[.int .u8 x, .slice A len cap] w fun e w' => e = .returned (.bool true) ∧ Below w.heap.size w w' := by
  unfold maxLen at hc
  obtain ⟨X8, hX8⟩ : ∃ z, x.tmod 8 = z := ⟨_, rfl⟩
  have bX8 : 0 ≤ X8 ∧ X8 < 8 := by have a1 := Int.tmod_nonneg 8 x0; have a2 := Int.tmod_lt_of_pos x (b := 8) (by omega); omega
  have hX8' : x % 8 = X8 := by rw [← hX8, Int.tmod_eq_emod_of_nonneg x0]
  obtain ⟨N, hN⟩ : ∃ N : Nat, 1 + X8 = (N : Int) := ⟨(1 + X8).toNat, by omega⟩
  have n0 : 1 ≤ N := by omega
  have n1 : N ≤ 8 := by omega
  have wN : IntKind.i64.wrap (1 + X8) = (N : Int) := by rw [hN]; exact IntWalk.i64_in _ (by omega)
  obtain ⟨n, hn⟩ : ∃ n, min len 60 = n := ⟨_, rfl⟩
  have n2 : n ≤ len := by omega
  have n3 : n ≤ 60 := by omega
  have HN := Lib.hid hn
  have HQ := Lib.hid hQ
  have HOK := Lib.hid hok
  clear hn hQ hok
  go_enter Try.func7, Try.ntmps7
  go_upto_region 3 with (go_at_call 8; refine (awake9 _).mono ?_; rintro e w1 ⟨rfl, hb1⟩; have HB1 := Lib.hid hb1; have s1 := hb1.size; have HQ1 := Lib.hid (HQ.out.up hb1 s1); clear hb1)
  clear HQ
  go_upto_region 4 with fail
  go_cut [1] (fun s1 wx => s1 = .slice A n cap ∧ wx = w1)
  case first =>
    cases A with
    | none =>
      have h0 : len = 0 := by
        rcases Nat.eq_zero_or_pos len with h | h
        · exact h
        · obtain ⟨b, off, e, _⟩ := HQ1.out h; cases e
      subst h0
      obtain rfl : n = 0 := by omega
      go_wp2
      go_meet
      exact ⟨rfl, rfl⟩
    | some ad =>
      have hmin : min (len : Int) 60 = (n : Int) := by have := HN.out; omega
      go_wp2
      go_meet
      exact ⟨by simp, rfl⟩
  case rest =>
    obtain ⟨rfl, rfl⟩ := hcut
    go_wp2_with fail
    refine (tq_new N 64 _ n0 n1 (by omega) (by omega)).mono ?_
    rintro e w2 ⟨q, rfl, h2, hb2⟩
    have H2 := Lib.hid h2
    have B2 := Lib.hid hb2
    clear h2 hb2
    go_wp2_with fail
    go_loopw [8, 9, 10, 11, 38] (fun s8 s9 s10 s11 s38 wr => ∃ (k : Nat) (st : Ts), k ≤ n ∧ s38 = .int .i64 k ∧ TqL wr wc.heap.size q N 64 k st ∧ st.m = 64 - k ∧ SortR N st ∧ (∀ j, j < 64 → st.T j = true → 0 ≤ (st.R j).a ∧ (st.R j).a < (k : Int)) ∧ Below wc.heap.size wc wr) (fun _ _ _ _ i _ => n - (intOf i).toNat)
    case atStart => exact ⟨0, newS 64, Nat.zero_le _, rfl, H2.out, rfl, SortR.new_ N 64, fun j hj h => (by cases h), B2.out⟩
    case round =>
      obtain ⟨k, st, hk, rfl, hq, hm, hs, ha, hbr⟩ := hrel
      have HQR := Lib.hid hq
      have HS := Lib.hid hs
      have HA := Lib.hid ha
      have HBR := Lib.hid hbr
      have hsz := hbr.size
      by_cases hlt : k < n
      · obtain ⟨kb, ko, rfl, hkb, hkc⟩ := HQ1.out (by omega)
        have q0 : wr.cell? ⟨kb, ko + k, none⟩ = some (.int .u8 (Q k)) := by
          have := (hbr.cell hkb).trans (hkc k (by omega) 0 (by omega))
          simpa using this
        have hkr : kb < wr.heap.size := by omega
        have bQ := HOK.out k
        obtain ⟨T, hT, hTn⟩ := tmod_nn (Q k) N bQ.1 n0
        have hT' : Q k % (N : Int) = (T : Int) := by rw [← hT, Int.tmod_eq_emod_of_nonneg bQ.1]
        have nN : ¬ (N : Int) = 0 := by omega
        obtain ⟨i, hi⟩ : ∃ i, st.F (63 - k) = i := ⟨_, rfl⟩
        have HI := Lib.hid hi
        have kw : IntKind.u64.wrap (k : Int) = (k : Int) := IntWalk.u64_in _ (by omega)
        clear hq hs ha hbr hkc hi
        go_upto_region 10 with fail
        refine (tq_put ⟨k, T, 0, 0, 0⟩ HQR.out (m := 63 - k) (by omega) HI.out (by show (0 : Int) ≤ (T : Int); omega) (by show (T : Int) < (N : Int); omega) (by omega)).mono ?_
        rintro e w3 ⟨rfl, h3, hb3, -⟩
        have H3 := Lib.hid h3
        have B3 := Lib.hid (HBR.out.trans hb3)
        have S3 := Lib.hid (HS.out.put (r := ⟨k, T, 0, 0, 0⟩) HQR.out.inv (m := 63 - k) (by omega) HI.out (fun j hj ht => (HA.out j hj ht).2))
        clear h3 hb3
        go_wp2_with fail
        go_roundw
        case rel =>
          refine ⟨k + 1, _, by omega, by go_num, H3.out, by show 63 - k = _; omega, S3.out, fun j hj ht => ?_, B3.out⟩
          have ht' : (if j = i then true else st.T j) = true := ht
          show 0 ≤ (if j = i then (⟨k, T, 0, 0, 0⟩ : Rq) else st.R j).a ∧ (if j = i then (⟨k, T, 0, 0, 0⟩ : Rq) else st.R j).a < ((k + 1 : Nat) : Int)
          by_cases c : j = i
          · rw [if_pos c]; show 0 ≤ (k : Int) ∧ (k : Int) < _; omega
          · rw [if_neg c] at ht' ⊢; have := HA.out j hj ht'; omega
        case measure => simp [intOf]; omega
      · obtain rfl : k = n := by omega
        clear hq hs ha hbr
        go_wp2_with fail
        go_loopw [12, 13, 14, 15, 16, 17, 18, 19, 60] (fun s12 s13 s14 s15 s16 s17 s18 s19 s60 wr => ∃ (p : Nat) (st : Ts) (tr tk : Int), p ≤ k ∧ s60 = .int .i64 p ∧ s12 = .int .i64 tr ∧ s13 = .int .i64 tk ∧ TqL wr wc.heap.size q N 64 k st ∧ st.m = 64 - k + p ∧ SortR N st ∧ (∀ j, j < 64 → st.T j = true → (tr < (st.R j).b ∨ tr = (st.R j).b ∧ tk < (st.R j).a) ∧ 0 ≤ (st.R j).a ∧ (st.R j).a < (k : Int)) ∧ Below wc.heap.size wc wr) (fun _ _ _ _ _ _ _ _ i _ => k - (intOf i).toNat)
        case atStart => exact ⟨0, st, 0, -1, Nat.zero_le _, rfl, rfl, rfl, HQR.out, by omega, HS.out, fun j hj ht => by have h1 := HA.out j hj ht; have h2 := HQR.out.inv.tr j hj ht; omega, HBR.out⟩
        case round =>
          clear HQR HS HA HBR hm st hsz
          obtain ⟨p, st, tr, tk, hp, rfl, rfl, rfl, hq, hm, hs, ha, hbr⟩ := hrel
          have HQR := Lib.hid hq
          have HS := Lib.hid hs
          have HA := Lib.hid ha
          have HBR := Lib.hid hbr
          have hsz := hbr.size
          by_cases hlt : p < k
          · obtain ⟨t, ht, h0, hz⟩ := hq.inv.first (by omega)
            obtain ⟨i, hi, hin, hit, hib, hiv, hia⟩ := hs.head hq.inv ht h0
            have hai := ha i hin hit
            obtain ⟨⟨ra, rb, rc, rd, re⟩, hr⟩ : ∃ r, st.R i = r := ⟨_, rfl⟩
            rw [hr] at hib hai
            have hib : rb = (t : Int) := hib
            have hai : (tr < rb ∨ tr = rb ∧ tk < ra) ∧ 0 ≤ ra ∧ ra < (k : Int) := hai
            subst hib
            have HR := Lib.hid hr
            have HZ := Lib.hid hz
            have HIA := Lib.hid hia
            have HI := Lib.hid hi
            have HIV := Lib.hid hiv
            clear hq hs ha hbr hz hia hr hi hiv
            go_wp2_with fail
            refine (tq_first HQR.out ht h0 HZ.out (by omega)).mono ?_
            rintro e w3 ⟨rfl, rfl⟩
            go_wp2_with fail
            refine (tq_headat HQR.out ht h0 HI.out HIV.out).mono ?_
            rintro e w3 ⟨rfl, rfl⟩
            go_wp2_with fail
            refine (tq_take HQR.out hin hit rfl (by omega)).mono ?_
            rw [HR.out]
            rintro e w3 ⟨he, h3, hb3, -⟩
            have he : e = .returned (.tuple #[.agg #[.int .u64 ra, .int .i64 (t : Int), .int .i64 rc, .int .i64 rd, .int .i64 re], .int .i64 0]) := he
            subst he
            have H3 := Lib.hid h3
            have B3 := Lib.hid (HBR.out.trans hb3)
            have s3 := B3.out.size
            clear h3 hb3
            go_upto_region 19 with fail
            refine wp_worldx (fun wx => TqL wx wc.heap.size q N 64 k (takS N st i) ∧ Blk wx w3.heap.size 33 #[.int .u64 ra, .int .i64 (t : Int), .int .i64 rc, .int .i64 rd, .int .i64 re] ∧ Below wc.heap.size wc wx) ⟨H3.out.below ((Below.refl _ _).alloc (Nat.le_refl _) _), Blk.made _ _ _, B3.out.alloc s3 _⟩ ?_
            rintro wx ⟨h4, b4, hb4⟩
            have p0 := b4.val (i := 0) rfl
            have p1 := b4.val (i := 1) rfl
            have zb := b4.size
            have H4 := Lib.hid h4
            have B4 := Lib.hid hb4
            clear h4 b4 hb4 H3 B3
            have e1 : decide ((t : Int) < tr) = false := by simp; omega
            have cra : IntKind.i64.wrap ra = ra := IntWalk.i64_in _ (by omega)
            have fin : ∀ j, j < 64 → (takS N st i).T j = true → ((t : Int) < ((takS N st i).R j).b ∨ (t : Int) = ((takS N st i).R j).b ∧ ra < ((takS N st i).R j).a) ∧ 0 ≤ ((takS N st i).R j).a ∧ ((takS N st i).R j).a < (k : Int) := by
              intro j hj hjt
              have hjt' : (if j = i then false else st.T j) = true := hjt
              show ((t : Int) < (if j = i then (⟨0, 0, 0, 0, 0⟩ : Rq) else st.R j).b ∨ (t : Int) = (if j = i then (⟨0, 0, 0, 0, 0⟩ : Rq) else st.R j).b ∧ ra < (if j = i then (⟨0, 0, 0, 0, 0⟩ : Rq) else st.R j).a) ∧ 0 ≤ (if j = i then (⟨0, 0, 0, 0, 0⟩ : Rq) else st.R j).a ∧ (if j = i then (⟨0, 0, 0, 0, 0⟩ : Rq) else st.R j).a < (k : Int)
              by_cases c : j = i
              · rw [if_pos c] at hjt'; cases hjt'
              · rw [if_neg c] at hjt' ⊢
                have h1 := HA.out j hj hjt'
                have h2 := HQR.out.inv.tr j hj hjt'
                refine ⟨?_, h1.2⟩
                have h3 : t ≤ (st.R j).b.toNat := by
                  rcases Nat.lt_or_ge (st.R j).b.toNat t with d | d
                  · have := HZ.out _ d
                    have := List.length_pos_of_mem h2.2.2
                    omega
                  · exact d
                by_cases d : (st.R j).b.toNat = t
                · have h4 := HIA.out j (d ▸ h2.2.2) c
                  rw [HR.out] at h4
                  exact .inr ⟨by omega, h4⟩
                · exact .inl (by omega)
            have FIN := Lib.hid fin
            have S4 := Lib.hid (SortR.tak (i := i) HS.out)
            have hm4 : (takS N st i).m = 64 - k + (p + 1) := by show st.m + 1 = _; omega
            have M4 := Lib.hid hm4
            clear fin hm4
            by_cases c : (t : Int) = tr
            · have e2 : decide ((t : Int) = tr) = true := by simp; exact c
              have e3 : decide (ra ≤ tk) = false := by simp; omega
              subst c
              go_wp2_with (go_quiet (fail))
              go_roundw
              case rel => exact ⟨p + 1, _, (t : Int), ra, by omega, by go_num, rfl, rfl, H4.out.below (below_drewN_ (Below.refl _ _) _), M4.out, S4.out, FIN.out, below_drewN_ B4.out _⟩
              case measure => simp [intOf]; omega
            · have e2 : decide ((t : Int) = tr) = false := by simp; exact c
              go_wp2_with (go_quiet (fail))
              go_roundw
              case rel => exact ⟨p + 1, _, (t : Int), ra, by omega, by go_num, rfl, rfl, H4.out.below (below_drewN_ (Below.refl _ _) _), M4.out, S4.out, FIN.out, below_drewN_ B4.out _⟩
              case measure => simp [intOf]; omega
          · obtain rfl : p = k := by omega
            have hz : ((64 : Nat) : Int) - st.m = 0 := by omega
            clear hq hs ha hbr
            go_wp2_with fail
            refine (tq_len HQR.out).mono ?_
            rw [hz]
            rintro e w3 ⟨rfl, hb3⟩
            have B3 := Lib.hid (HBR.out.trans (hb3.mono hsz))
            clear hb3
            go_wp2_with fail
            go_ret
            exact ⟨rfl, HB1.out.trans (B3.out.mono s1)⟩
set_option maxRecDepth 100000 in
theorem lifted (os : Os) (started : os.Started) (H : Type) (enc : TypeId × Value → H) :
    ReturnsInHanded {} Try.checked os 7 .any (Rows.tierqTiersSpec.pre6 enc Try.prog Try.f7 Rows.tierqTiersRow.domain false) (Rows.tierqTiersSpec.post enc Try.prog Try.f7 false true false false) := by
  refine returnsInHanded_of_change (C := Try.checked) own started (by kernel_rfl) Try.func7
    (ChangeSpec.witness6 (enc := enc) (C := Try.checked) false ⟨#[], #[.int .u8 0, .slice none 0 0], []⟩ 8 (by kernel_rfl) (by kernel_rfl) (by kernel_rfl) (by kernel_rfl)) ?_
  intro W base args ds gs before hval0 hW hcnd _
  have hval : ∀ (j : Nat) t v, Try.f7.params[j]? = some t → args[j]? = some v → Value.okWide Try.prog W .any base t v := hval0
  have hW' := hW
  obtain ⟨p, q, hA0, hV, rfl, hfz, hnd⟩ := hW
  have hA : DataW.TrodAll enc Try.prog W 0 (fun _ => true) true Try.f7.params.toList args.toList ds p := hA0
  rw [Try.params7] at hA hval
  obtain ⟨v0, vs0, d0, ds0, p0, q0, hargs, rfl, rfl, h0, r0⟩ := trodAll_cons hA
  obtain ⟨v1, vs1, d1, ds1, p1, q1, rfl, rfl, rfl, h1, r1⟩ := trodAll_cons r0
  obtain ⟨rfl, rfl, rfl⟩ := trodAll_nil r1
  obtain rfl : args = #[v0, v1] := by cases args; simp_all
  obtain ⟨rfl, rfl⟩ := trodVars_none hV
  obtain ⟨a0, rfl, rfl, rfl, w0⟩ := open_int Try.underlying5 (hval 0 _ v0 rfl rfl) h0
  obtain ⟨A1, len1, cap1, rfl⟩ := okWide_slice Try.underlying70 (hval 1 _ v1 rfl rfl)
  obtain ⟨fu1, g1⟩ := h1
  obtain ⟨s1, t1, Q1, u1, o1⟩ := open_u8s g1
  clear hA0 hval0
  obtain ⟨l0, m0⟩ := wf_u8 w0
  refine (walk a0 A1 len1 cap1 Q1 W s1 t1 u1 o1 l0 m0).mono fun e W' ⟨he, hg⟩ => ?_
  subst he
  exact ⟨_, rfl, post_of_law hW' rfl laidOut reads rfl Try.underlying4 rfl rfl rfl hg⟩
theorem over : Rows.tierqTiersRow.holds Try.pinned (OpenSpec.ofChange Rows.tierqTiersSpec) :=
  OpenClaim.holds_of_wide 7 Try.f7 rfl rfl rfl rfl rfl rfl rfl ⟨rfl, rfl, rfl, rfl, rfl⟩ rfl rfl rfl rfl rfl (by kernel_rfl) Try.func7 (by kernel_rfl)
    (of_decide_eq_true (by kernel_rfl)) (by unfold Func.isWrapper; first | (rw [if_pos (by decide +kernel)]; kernel_rfl) | (rw [if_neg (by decide +kernel)]; exact ⟨rfl, rfl⟩))
    (fun os started H enc _ => lifted os started H enc)
theorem proved : Rows.TierqTiersSaid := over
end Go.Proofs.Ythkkkcdiidflpaa.tierqTiers
