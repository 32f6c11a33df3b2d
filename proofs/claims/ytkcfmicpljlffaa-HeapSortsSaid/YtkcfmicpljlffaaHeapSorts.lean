/- HeapSorts is true of every list of keys and every list of ties, and changes nothing that it was given. -/
import Derived.Test.YtkcfmicpljlffaaHqa
import Derived.Test.YtkcfmicpljlffaaHelpb
import Derived.Test.YtkcfmicpljlffaaHelpc
import Derived.Test.YtkcfmicpljlffaaRowb
import Derived.Test.YtkcfmicpljlffaaRows
import Derived.WalkKit
import Derived.ProofKit
import Derived.OpenShut
import Derived.Deep.DeepCutAuto
namespace Go.Proofs.Ytkcfmicpljlffaa.heapSorts
open Go.ChangeShapes Go.WideShapes Go.ChangeAt Go.RowKit
set_option linter.unusedVariables false
theorem own : ownKnob Try.prog.godebug = none := by kernel_rfl
theorem laidOut : laidOutB Try.prog = true := by kernel_rfl
theorem reads : (Try.f4.params.toList.all fun t => Try.prog.readableRec t && decide (t < Try.prog.types.size)) = true := by kernel_rfl
set_option linter.unusedSimpArgs false
set_option maxRecDepth 100000 in
set_option maxHeartbeats 8000000 in
theorem walk (A : Option Addr) (len cap : Nat) (K : Nat → Int) (AT : Option Addr) (lenT capT : Nat) (T : Nat → Int) (w : World) (hl : len ≤ cap) (hc : cap ≤ maxLen) (hK : SeqAt w w.heap.size A len 1 (fun i => [.int .i64 (K i)])) (hK5 : ∀ i, -9223372036854775808 ≤ K i ∧ K i ≤ 9223372036854775807) (hlT : lenT ≤ capT) (hcT : capT ≤ maxLen) (hT : SeqAt w w.heap.size AT lenT 1 (fun i => [.int .u64 (T i)])) (hT5 : ∀ i, 0 ≤ T i ∧ T i ≤ 18446744073709551615) :
    Calls Try.prog 4 #[.slice A len cap, .slice AT lenT capT] w fun e w' => e = .returned (.bool true) ∧ Below w.heap.size w w' := by
  unfold maxLen at hc hcT
  have HK := Lib.hid hK
  have HT := Lib.hid hT
  clear hK hK5 hT hT5
  obtain ⟨n, hn⟩ : ∃ n, min len 60 = n := ⟨_, rfl⟩
  have n1 : n ≤ len := by omega
  have n2 : n ≤ 60 := by omega
  have HN := Lib.hid hn
  clear hn
  go_enter Try.func4, Try.ntmps4
  go_wp2_with fail
  refine (awake07 _).mono ?_
  rintro e w1 ⟨rfl, hb1⟩
  have B1 := Lib.hid hb1
  clear hb1
  go_upto_region 3 with fail
  go_cut [0] (fun s0 wx => (∃ A', s0 = .slice A' n cap ∧ (0 < n → ∃ kb ko, A' = some ⟨kb, ko, none⟩ ∧ kb < w.heap.size ∧ ∀ i, i < n → w.cell? ⟨kb, ko + i, none⟩ = some (.int .i64 (K i)))) ∧ Below w.heap.size w wx)
  case first =>
    by_cases hz : len = 0
    · have hn0 : n = 0 := by omega
      subst hz hn0
      go_wp2
      go_meet
      exact ⟨⟨_, rfl, fun h => absurd h (by omega)⟩, B1.out⟩
    · obtain ⟨kb, ko, rfl, hkb, hkc⟩ := HK.out (by omega)
      have hq : ∀ i, i < n → w.cell? ⟨kb, ko + i, none⟩ = some (.int .i64 (K i)) := fun i hi => by
        have := hkc i (by omega) 0 (by omega)
        rw [Nat.mul_one] at this
        exact this
      have HQ := Lib.hid hq
      clear hkc hq
      by_cases h60 : len ≤ 60
      · obtain rfl : len = n := by have := HN.out; omega
        go_wp2
        go_meet
        exact ⟨⟨_, by rw [show (min (len : Int) 60).toNat = len from by omega], fun h => ⟨kb, ko, rfl, hkb, HQ.out⟩⟩, B1.out⟩
      · obtain rfl : n = 60 := by have := HN.out; omega
        go_wp2
        go_meet
        exact ⟨⟨_, by rw [show (min (len : Int) 60).toNat = 60 from by omega], fun h => ⟨kb, ko, rfl, hkb, HQ.out⟩⟩, B1.out⟩
  case rest =>
    clear B1 HK HN
    obtain ⟨⟨A', rfl, hq⟩, hb1⟩ := hcut
    have HQ := Lib.hid hq
    have B1 := Lib.hid hb1
    clear hq hb1
    by_cases hn0 : n = 0
    · subst hn0
      go_wp2_with fail
      go_ret
      exact ⟨rfl, B1.out⟩
    have hn1 : ¬ (n : Int) = 0 := by omega
    go_wp2_with fail
    refine (lnew_yes (base := w.heap.size) n (by omega) (by omega) _ B1.out.size).mono ?_
    rintro e w2 ⟨p, rfl, hp, h2, b2⟩
    have H2 := Lib.hid h2
    have B2 := Lib.hid (B1.out.trans (b2.mono B1.out.size))
    clear h2 b2 B1
    obtain ⟨U, hU⟩ : ∃ U : Nat → Int, U = fun i => if i < lenT then T i else 0 := ⟨_, rfl⟩
    have HU := Lib.hid hU
    clear hU
    go_upto_region 8 with fail
    refine wp_worldh (fun wx => HeapL w.heap.size wx p n (buildE K U 0) ∧ DocL w.heap.size wx w2.heap.size n (buildE K U 0) ∧ Below w.heap.size w wx) ⟨H2.out.below ((Below.refl _ _).alloc (Nat.le_refl _) _), ⟨_, Blk.made _ _ _, World.ownsRow_nil _ _ _ _⟩, B2.out.alloc B2.out.size _⟩ ?_
    have hx2 := B2.out.size
    obtain ⟨x, hx⟩ : ∃ x, w2.heap.size = x := ⟨_, rfl⟩
    rw [hx] at hx2 ⊢
    clear H2 B2
    rintro w3 ⟨h3, d3, b3⟩
    have H3 := Lib.hid h3
    have D3 := Lib.hid d3
    have B3 := Lib.hid b3
    clear h3 d3 b3
    go_wp2_with fail
    go_loopw [37] (fun s37 wr => ∃ k : Nat, k ≤ n ∧ s37 = .int .i64 (k : Int) ∧ HeapL w.heap.size wr p n (buildE K U k) ∧ DocL w.heap.size wr x n (buildE K U k) ∧ Below w.heap.size w wr) (fun i _ => n - (intOf i).toNat)
    case atStart => exact ⟨0, Nat.zero_le _, rfl, H3.out, D3.out, B3.out⟩
    case round =>
      clear H3 D3 B3
      obtain ⟨k, hk, rfl, h4, d4, b4⟩ := hrel
      have H4 := Lib.hid h4
      have D4 := Lib.hid d4
      have B4 := Lib.hid b4
      clear h4 d4 b4
      by_cases hlt : k < n
      · obtain ⟨kb, ko, rfl, hkb, hkc⟩ := HQ.out (by omega)
        have q0 := (B4.out.cell (p := ⟨kb, ko + k, none⟩) hkb).trans (hkc k hlt)
        have k0 : (0 : Int) ≤ (k : Int) := by omega
        have k1 : (k : Int) < (n : Int) := by omega
        clear hkc
        have hnx : buildE K U (k + 1) = insE ⟨K k, U k, (k : Int)⟩ (buildE K U k) := rfl
        have HNX := Lib.hid hnx
        clear hnx
        obtain ⟨d, hd⟩ : ∃ d, decide (k < lenT) = d := ⟨_, rfl⟩
        have hu : U k = bif d then T k else 0 := by
          rw [HU.out, ← hd]
          by_cases ht : k < lenT <;> simp [ht]
        have HUK := Lib.hid hu
        clear hu
        go_upto_if 45 with fail
        go_cut [10] from 46 to 62 (fun s10 wx => s10 = .int .u64 (U k) ∧ wx = wr)
        case first =>
          cases d
          · have ht : ¬ k < lenT := of_decide_eq_false hd
            clear hd
            go_wp2_with fail
            go_meet
            exact ⟨by rw [HUK.out]; rfl, by trivial⟩
          · have ht : k < lenT := of_decide_eq_true hd
            obtain ⟨tb, tof, rfl, htb, htc⟩ := HT.out (by omega)
            have t0 := htc k ht 0 (by omega)
            rw [Nat.mul_one] at t0
            have t1 := (B4.out.cell (p := ⟨tb, tof + k, none⟩) htb).trans t0
            have ti : (k : Int) < (lenT : Int) := by omega
            clear htc t0 hd
            go_wp2_with fail
            go_meet
            exact ⟨by rw [HUK.out]; rfl, by trivial⟩
        case rest =>
          clear hd
          obtain ⟨rfl, rfl⟩ := hcut
          obtain ⟨uk, huk⟩ : ∃ u, U k = u := ⟨_, rfl⟩
          obtain ⟨kk, hkk⟩ : ∃ u, K k = u := ⟨_, rfl⟩
          have hnx := HNX.out
          rw [huk, hkk] at hnx
          rw [hkk] at q0
          rw [huk, hkk]
          have HN2 := Lib.hid hnx
          clear hnx HNX huk hkk
          go_wp2_with fail
          refine (lput_new2 (i := k) kk uk (by omega) (build_no k) _ H4.out).mono ?_
          rintro e w5 ⟨rfl, h5, b5, t5⟩
          have H5 := Lib.hid h5
          have D5 := Lib.hid (D4.out.tkept t5 okH_x okH_e)
          have B5 := Lib.hid (B4.out.trans b5)
          clear h5 b5 t5
          go_wp2_with fail
          refine (rput_new ⟨kk, uk, k⟩ (i := k) rfl (by omega) _ D5.out B5.out.size (by rw [build_len]; omega) (build_no k)).mono ?_
          rintro e w6 ⟨rfl, d6, k6⟩
          obtain ⟨vx, bx, _⟩ := D5.out.ex
          have H6 := Lib.hid (H5.out.keptx bx okH_x k6)
          have D6 := Lib.hid d6
          have B6 := Lib.hid (B5.out.trans (k6.below (fun g hg => by rw [hg]; exact hx2) B5.out.size))
          clear bx d6 k6
          go_wp2_with fail
          go_roundw
          case rel => exact ⟨k + 1, by omega, by go_num, by rw [HN2.out]; exact H6.out, by rw [HN2.out]; exact D6.out, B6.out⟩
          case measure => simp [intOf]; omega
      · obtain rfl : k = n := by omega
        obtain ⟨L, hL⟩ : ∃ L, buildE K U k = L := ⟨_, rfl⟩
        have hLl : L.length = k := by rw [← hL]; exact build_len k
        have h4 := H4.out
        have d4 := D4.out
        rw [hL] at h4 d4
        have hdd := h4.distinct
        have hrg := h4.range
        obtain ⟨vx, bx, ox⟩ := d4.ex
        rw [hLl] at ox
        obtain ⟨Ax, cx, rfl⟩ := own_form ox
        have q0 := bx.val (i := 0) rfl
        have H5 := Lib.hid h4
        have O5 := Lib.hid ox
        have HLl := Lib.hid hLl
        have HDD := Lib.hid hdd
        have HRG := Lib.hid hrg
        clear h4 d4 hL hLl hdd hrg bx ox H4 D4
        go_wp2_with fail
        go_loopw [68] (fun s68 wr => ∃ i : Nat, i ≤ k ∧ s68 = .int .i64 (i : Int) ∧ HeapL w.heap.size wr p k (L.drop i) ∧ wr.ownsRow w.heap.size 46 3 (.slice Ax k cx) k (flatR L) ∧ Below w.heap.size w wr) (fun i _ => k - (intOf i).toNat)
        case atStart => exact ⟨0, Nat.zero_le _, rfl, H5.out, O5.out, B4.out⟩
        case round =>
          clear H5 O5 B4 q0
          obtain ⟨i, hi, rfl, h6, o6, b6⟩ := hrel
          by_cases hil : i < k
          · have hiL : i < L.length := by rw [HLl.out]; exact hil
            rw [drop_cons hiL] at h6
            obtain ⟨g, c', hv, _, hg, r0, r1, r2⟩ := own_enr o6 hil
            injection hv with hv1 hv2 hv3
            subst hv1 hv3
            have hrm := HRG.out L[i]! (by rw [getElem!_pos L i hiL]; exact List.getElem_mem hiL)
            have hdr : (L[i]! :: L.drop (i + 1)).Pairwise fun a b => a.m ≠ b.m := by rw [← drop_cons hiL]; exact HDD.out.sublist (List.drop_sublist _ _)
            obtain ⟨⟨ek, et, em⟩, he⟩ : ∃ e, L[i]! = e := ⟨_, rfl⟩
            rw [he] at h6 r0 r1 r2 hrm hdr
            have hrm : 0 ≤ em ∧ em < (k : Int) := hrm
            obtain ⟨j, rfl⟩ : ∃ j : Nat, em = j := ⟨em.toNat, by omega⟩
            have hj : j < k := by omega
            have HDR := Lib.hid hdr
            have H6 := Lib.hid h6
            have O6 := Lib.hid o6
            have B6 := Lib.hid b6
            have i0 : (0 : Int) ≤ (i : Int) := by omega
            have i1 : (i : Int) < (k : Int) := by omega
            clear he hrm hdr h6 o6 b6 hv2
            go_upto_region 21 with fail
            refine wp_worldh (fun wx => wx.cell? ⟨wr.heap.size, 0, none⟩ = some (.int .i64 (j : Int)) ∧ HeapL w.heap.size wx p k (⟨ek, et, (j : Int)⟩ :: L.drop (i + 1)) ∧ wx.ownsRow w.heap.size 46 3 (.slice (some ⟨g, 0, none⟩) k cx) k (flatR L) ∧ Below w.heap.size w wx) ⟨(Blk.made _ _ _).val rfl, H6.out.below ((Below.refl _ _).alloc (Nat.le_refl _) _), O6.out.alloc _, B6.out.alloc B6.out.size _⟩ ?_
            clear r0 r1 r2 H6 O6 B6
            rintro w7 ⟨c7, h7, o7, b7⟩
            have H7 := Lib.hid h7
            have O7 := Lib.hid o7
            have B7 := Lib.hid b7
            clear h7 o7 b7
            go_wp2_with fail
            refine (lmin_some _ H7.out).mono ?_
            rintro e w8 ⟨rfl, rfl⟩
            go_wp2_with fail
            refine (lrem_yes2 (i := j) hj (hasE_iff.2 ⟨_, List.mem_cons_self .., rfl⟩) _ H7.out).mono ?_
            rw [rem_head HDR.out]
            rintro e w9 ⟨rfl, h9, b9, t9⟩
            have H9 := Lib.hid h9
            have O9 := Lib.hid (own_tkept O7.out t9 okH_e)
            have B9 := Lib.hid (B7.out.trans b9)
            clear h9 b9 t9 H7 O7 B7
            go_wp2_with fail
            refine (lrem_none (i := j) hj (has_tail HDR.out) _ H9.out).mono ?_
            rintro e w10 ⟨rfl, b10⟩
            have H10 := Lib.hid (H9.out.below b10)
            have O10 := Lib.hid (own_below O9.out b10)
            have B10 := Lib.hid (B9.out.trans (b10.mono B9.out.size))
            clear b10
            go_wp2_with fail
            go_roundw
            case rel => exact ⟨i + 1, by omega, by go_num, H10.out, O10.out, B10.out⟩
            case measure => simp [intOf]; omega
          · obtain rfl : i = k := by omega
            have hdz : L.drop i = [] := List.drop_of_length_le (by rw [HLl.out]; exact Nat.le_refl _)
            rw [hdz] at h6
            have H6 := Lib.hid h6
            have B6 := Lib.hid b6
            clear h6 o6 b6 hdz
            go_wp2_with fail
            refine (llen _ H6.out).mono ?_
            rintro e w11 ⟨rfl, rfl⟩
            go_wp2_with fail
            go_ret
            exact ⟨rfl, B6.out⟩
set_option maxRecDepth 100000 in
theorem lifted (os : Os) (started : os.Started) (H : Type) (enc : TypeId × Value → H) :
    ReturnsInHanded {} Try.checked os 4 .any (Rows.heapSortsSpec.pre6 enc Try.prog Try.f4 Rows.heapSortsRow.domain false) (Rows.heapSortsSpec.post enc Try.prog Try.f4 false true false false) := by
  refine returnsInHanded_of_change (C := Try.checked) own started (by kernel_rfl) Try.func4
    (ChangeSpec.witness6 (enc := enc) (C := Try.checked) false ⟨#[], #[.slice none 0 0, .slice none 0 0], []⟩ 8 (by kernel_rfl) (by kernel_rfl) (by kernel_rfl) (by kernel_rfl)) ?_
  intro W base args ds gs before hval0 hW hcnd _
  have hval : ∀ (j : Nat) t v, Try.f4.params[j]? = some t → args[j]? = some v → Value.okWide Try.prog W .any base t v := hval0
  have hW' := hW
  obtain ⟨p, q, hA0, hV, rfl, hfz, hnd⟩ := hW
  have hA : DataW.TrodAll enc Try.prog W 0 (fun _ => true) true Try.f4.params.toList args.toList ds p := hA0
  rw [Try.params4] at hA hval
  obtain ⟨v0, vs0, d0, ds0, p0, q0, hargs, rfl, rfl, h0, r0⟩ := trodAll_cons hA
  obtain ⟨v1, vs1, d1, ds1, p1, q1, rfl, rfl, rfl, h1, r1⟩ := trodAll_cons r0
  obtain ⟨rfl, rfl, rfl⟩ := trodAll_nil r1
  obtain rfl : args = #[v0, v1] := by cases args; simp_all
  obtain ⟨rfl, rfl⟩ := trodVars_none hV
  obtain ⟨A0, len0, cap0, rfl⟩ := okWide_slice Try.underlying51 (hval 0 _ v0 rfl rfl)
  obtain ⟨fu0, g0⟩ := h0
  obtain ⟨s0, t0, Q0, u0, o0⟩ := open_i64s g0
  obtain ⟨A1, len1, cap1, rfl⟩ := okWide_slice Try.underlying52 (hval 1 _ v1 rfl rfl)
  obtain ⟨fu1, g1⟩ := h1
  obtain ⟨s1, t1, Q1, u1, o1⟩ := open_u64s g1
  clear hA0 hval0
  refine (walk A0 len0 cap0 Q0 A1 len1 cap1 Q1 W s0 t0 u0 o0 s1 t1 u1 o1).mono fun e W' ⟨he, hg⟩ => ?_
  subst he
  exact ⟨_, rfl, post_of_law hW' rfl laidOut reads rfl Try.underlying4 rfl rfl rfl hg⟩
theorem over : Rows.heapSortsRow.holds Try.pinned (OpenSpec.ofChange Rows.heapSortsSpec) :=
  OpenClaim.holds_of_wide 4 Try.f4 rfl rfl rfl rfl rfl rfl rfl ⟨rfl, rfl, rfl, rfl, rfl⟩ rfl rfl rfl rfl rfl (by kernel_rfl) Try.func4 (by kernel_rfl)
    (of_decide_eq_true (by kernel_rfl)) (by unfold Func.isWrapper; first | (rw [if_pos (by decide +kernel)]; kernel_rfl) | (rw [if_neg (by decide +kernel)]; exact ⟨rfl, rfl⟩))
    (fun os started H enc _ => lifted os started H enc)
theorem proved : Rows.HeapSortsSaid := over
end Go.Proofs.Ytkcfmicpljlffaa.heapSorts
