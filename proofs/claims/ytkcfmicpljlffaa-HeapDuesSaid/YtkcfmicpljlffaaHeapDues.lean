/- HeapDues is true of every list of keys and any two times, and changes nothing that it was given. -/
import Derived.Test.YtkcfmicpljlffaaHpw
import Derived.Test.YtkcfmicpljlffaaHelpb
import Derived.Test.YtkcfmicpljlffaaHelpc
import Derived.Test.YtkcfmicpljlffaaRowb
import Derived.Test.YtkcfmicpljlffaaRows
import Derived.WalkKit
import Derived.ProofKit
import Derived.OpenShut
import Derived.Deep.DeepCutAuto
namespace Go.Proofs.Ytkcfmicpljlffaa.heapDues
open Go.ChangeShapes Go.WideShapes Go.ChangeAt Go.RowKit
set_option linter.unusedVariables false
theorem own : ownKnob Try.prog.godebug = none := by kernel_rfl
theorem laidOut : laidOutB Try.prog = true := by kernel_rfl
theorem reads : (Try.f5.params.toList.all fun t => Try.prog.readableRec t && decide (t < Try.prog.types.size)) = true := by kernel_rfl
set_option linter.unusedSimpArgs false
set_option maxRecDepth 100000 in
set_option maxHeartbeats 8000000 in
theorem walk (A : Option Addr) (len cap : Nat) (K : Nat → Int) (a b : Int) (w : World) (hl : len ≤ cap) (hc : cap ≤ maxLen) (hK : SeqAt w w.heap.size A len 1 (fun i => [.int .i64 (K i)])) (hK5 : ∀ i, -9223372036854775808 ≤ K i ∧ K i ≤ 9223372036854775807) (a0 : -9223372036854775808 ≤ a) (a1 : a ≤ 9223372036854775807) (b0 : -9223372036854775808 ≤ b) (b1 : b ≤ 9223372036854775807) :
    Calls Try.prog 5 #[.slice A len cap, .int .i64 a, .int .i64 b] w fun e w' => e = .returned (.bool true) ∧ Below w.heap.size w w' := by
  unfold maxLen at hc
  have HK := Lib.hid hK
  have HK5 := Lib.hid hK5
  clear hK hK5
  obtain ⟨n, hn⟩ : ∃ n, min len 60 = n := ⟨_, rfl⟩
  have n1 : n ≤ len := by omega
  have n2 : n ≤ 60 := by omega
  have HN := Lib.hid hn
  clear hn
  go_enter Try.func5, Try.ntmps5
  go_wp2_with fail
  refine (awake07 _).mono ?_
  rintro e w1 ⟨rfl, hb1⟩
  have B1 := Lib.hid hb1
  clear hb1
  go_upto_region 3 with fail
  go_cut [0] (fun s0 wx => (∃ A', s0 = .slice A' n cap ∧ (0 < n → ∃ kb ko, A' = some ⟨kb, ko, none⟩ ∧ kb < w.heap.size ∧ ∀ i, i < n → w.cell? ⟨kb, ko + i, none⟩ = some (.int .i64 (K i)))) ∧ Below w.heap.size w wx)
  case first =>
    by_cases hz : len = 0
    · have hn0 : n = 0 := by omega
      subst hz hn0
      go_wp2
      go_meet
      exact ⟨⟨_, rfl, fun h => absurd h (by omega)⟩, B1.out⟩
    · obtain ⟨kb, ko, rfl, hkb, hkc⟩ := HK.out (by omega)
      have hq : ∀ i, i < n → w.cell? ⟨kb, ko + i, none⟩ = some (.int .i64 (K i)) := fun i hi => by
        have := hkc i (by omega) 0 (by omega)
        rw [Nat.mul_one] at this
        exact this
      have HQ := Lib.hid hq
      clear hkc hq
      by_cases h60 : len ≤ 60
      · obtain rfl : len = n := by have := HN.out; omega
        go_wp2
        go_meet
        exact ⟨⟨_, by rw [show (min (len : Int) 60).toNat = len from by omega], fun h => ⟨kb, ko, rfl, hkb, HQ.out⟩⟩, B1.out⟩
      · obtain rfl : n = 60 := by have := HN.out; omega
        go_wp2
        go_meet
        exact ⟨⟨_, by rw [show (min (len : Int) 60).toNat = 60 from by omega], fun h => ⟨kb, ko, rfl, hkb, HQ.out⟩⟩, B1.out⟩
  case rest =>
    clear B1 HK HN
    obtain ⟨⟨A', rfl, hq⟩, hb1⟩ := hcut
    have HQ := Lib.hid hq
    have B1 := Lib.hid hb1
    clear hq hb1
    obtain ⟨lo, hlo⟩ : ∃ x, min a b = x := ⟨_, rfl⟩
    obtain ⟨hi, hhi⟩ : ∃ x, max a b = x := ⟨_, rfl⟩
    have hlh : lo ≤ hi := by omega
    have hhi1 : hi ≤ 9223372036854775807 := by omega
    have HLO := Lib.hid hlo
    have HHI := Lib.hid hhi
    clear hlo hhi
    go_upto_if 25 with fail
    go_cut [1, 2] from 26 to 126 (fun s1 s2 wx => s1 = .int .i64 lo ∧ s2 = .int .i64 hi ∧ Below w.heap.size w wx)
    case first =>
      by_cases hab : b < a
      · have e1 : lo = b := by have := HLO.out; omega
        have e2 : hi = a := by have := HHI.out; omega
        clear HLO HHI hlh hhi1
        subst e1 e2
        go_wp2
        go_meet
        exact ⟨rfl, rfl, B1.out⟩
      · have e1 : lo = a := by have := HLO.out; omega
        have e2 : hi = b := by have := HHI.out; omega
        clear HLO HHI hlh hhi1
        subst e1 e2
        go_wp2
        go_meet
        exact ⟨rfl, rfl, B1.out⟩
    case rest =>
      clear B1 HLO HHI a0 a1 b0 b1
      obtain ⟨rfl, rfl, hb1⟩ := hcut
      have B1 := Lib.hid hb1
      clear hb1
      go_wp2_with fail
      refine (lnew_yes (base := w.heap.size) 60 (by omega) (by omega) _ B1.out.size).mono ?_
      rintro e w2 ⟨p, rfl, hp, h2, b2⟩
      have H2 := Lib.hid h2
      have B2 := Lib.hid (B1.out.trans (b2.mono B1.out.size))
      clear h2 b2 B1
      go_wp2_with fail
      go_loopw [34] (fun s34 wr => ∃ k : Nat, k ≤ n ∧ s34 = .int .i64 (k : Int) ∧ HeapL w.heap.size wr p 60 (buildE K (fun _ => 0) k) ∧ Below w.heap.size w wr) (fun i _ => n - (intOf i).toNat)
      case atStart => exact ⟨0, Nat.zero_le _, rfl, H2.out, B2.out⟩
      case round =>
        clear H2 B2
        obtain ⟨k, hk, rfl, h3, b3⟩ := hrel
        have H3 := Lib.hid h3
        have B3 := Lib.hid b3
        clear h3 b3
        by_cases hlt : k < n
        · obtain ⟨kb, ko, rfl, hkb, hkc⟩ := HQ.out (by omega)
          have q0 := (B3.out.cell (p := ⟨kb, ko + k, none⟩) hkb).trans (hkc k hlt)
          have k0 : (0 : Int) ≤ (k : Int) := by omega
          have k1 : (k : Int) < (n : Int) := by omega
          clear hkc
          go_wp2_with fail
          refine (lput_new (i := k) (K k) 0 (by omega) (build_no k) _ H3.out).mono ?_
          rintro e w4 ⟨rfl, h4, b4⟩
          have H4 := Lib.hid h4
          have B4 := Lib.hid (B3.out.trans b4)
          clear h4 b4
          go_wp2_with fail
          go_roundw
          case rel => exact ⟨k + 1, by omega, by go_num, H4.out, B4.out⟩
          case measure => simp [intOf]; omega
        · obtain rfl : k = n := by omega
          obtain ⟨L, hL⟩ : ∃ L, buildE K (fun _ => 0) k = L := ⟨_, rfl⟩
          have hLl : L.length = k := by rw [← hL]; exact build_len k
          have hLm : ∀ e, e ∈ L → ∃ i, i < k ∧ e = ⟨K i, 0, i⟩ := fun e he => (build_mem k).1 (by rw [hL]; exact he)
          have hLs : L.Pairwise ltE := by rw [← hL]; exact H3.out.up
          have h3 := H3.out
          rw [hL] at h3
          have H5 := Lib.hid h3
          have HLl := Lib.hid hLl
          have HLm := Lib.hid hLm
          have HLs := Lib.hid hLs
          have hall : dueE 9223372036854775807 L = L := due_all fun e he => by obtain ⟨i, _, rfl⟩ := HLm.out e he; exact (HK5.out i).2
          have HALL := Lib.hid hall
          clear h3 hL hLl hLm hLs H3 hall
          go_wp2_with fail
          refine (ldue _ _ H5.out).mono ?_
          rintro e w6 ⟨g1, rfl, o1, b6⟩
          have H6 := Lib.hid (H5.out.below b6)
          have B6 := Lib.hid (B3.out.trans (b6.mono B3.out.size))
          rw [due_intL] at o1
          have O1 := Lib.hid o1
          clear o1 b6 H5 B3
          go_wp2_with fail
          refine (ldue _ _ H6.out).mono ?_
          rintro e w7 ⟨g2, rfl, o2, b7⟩
          have H7 := Lib.hid (H6.out.below b7)
          have B7 := Lib.hid (B6.out.trans (b7.mono B6.out.size))
          have O1' := Lib.hid (own_below O1.out b7)
          rw [due_intL] at o2
          have O2 := Lib.hid o2
          clear o2 b7 H6 B6 O1
          go_wp2_with fail
          refine (ldue _ _ H7.out).mono ?_
          rw [HALL.out]
          rintro e w8 ⟨g3, rfl, o3, b8⟩
          have H8 := Lib.hid (H7.out.below b8)
          have B8 := Lib.hid (B7.out.trans (b8.mono B7.out.size))
          have O1 := Lib.hid (own_below O1'.out b8)
          have O2' := Lib.hid (own_below O2.out b8)
          rw [due_intL] at o3
          have O3 := Lib.hid o3
          have B7S := Lib.hid B7.out.size
          clear o3 b8 H7 B7 O1' O2
          obtain ⟨la, hla⟩ : ∃ x, (dueE lo L).length = x := ⟨_, rfl⟩
          obtain ⟨lb, hlb⟩ : ∃ x, (dueE hi L).length = x := ⟨_, rfl⟩
          have f1 : la ≤ lb := by rw [← hla, ← hlb]; exact due_le hlh
          have f2 : lb ≤ k := by rw [← hlb, ← HLl.out]; exact due_len
          have t1 : ((dueE hi L).map fun e => e.m).take la = (dueE lo L).map fun e => e.m := by rw [← List.map_take, ← hla, due_take HLs.out hlh]
          have t2 : (L.map fun e => e.m).take lb = (dueE hi L).map fun e => e.m := by
            have := due_take HLs.out (a := hi) (b := 9223372036854775807) hhi1
            rw [HALL.out, hlb] at this
            rw [← List.map_take, this]
          rw [HLl.out] at O3 ⊢
          rw [hla] at O1 ⊢
          rw [hlb] at O2' ⊢
          have HLA := Lib.hid hla
          have HLB := Lib.hid hlb
          have T1 := Lib.hid t1
          have T2 := Lib.hid t2
          clear hla hlb t1 t2
          have x1 : ¬ (lb : Int) < (la : Int) := by omega
          have x2 : ¬ (k : Int) < (lb : Int) := by omega
          have x3 : (la : Int) ≤ (lb : Int) := by omega
          have x4 : (lb : Int) ≤ (k : Int) := by omega
          have x5 : decide ((lb : Int) < (la : Int)) = false := decide_eq_false x1
          have x6 : decide ((k : Int) < (lb : Int)) = false := decide_eq_false x2
          go_wp2_with fail
          refine (eq_own O1.out (own_take O2'.out f1)).mono ?_
          rw [T1.out, decide_eq_true rfl]
          rintro e w9 ⟨rfl, q9, rfl⟩
          go_wp2_with fail
          refine (eq_own (own_drewN O2'.out _) (own_take (own_drewN O3.out _) f2)).mono ?_
          rw [T2.out, decide_eq_true rfl]
          rintro e w10 ⟨rfl, q10, rfl⟩
          go_upto_region 16 with fail
          refine wp_worldh (fun wx => wx.ownsRow w.heap.size 3 1 (.slice (some ⟨g3, 0, none⟩) k k) k (intL (L.map fun e => e.m)) ∧ HeapL w.heap.size wx p 60 L ∧ Below w.heap.size w wx) (by first | exact ⟨own_le (own_drewN (own_drewN O3.out _) _) B7S.out, (H8.out.below (below_drewN_ (Below.refl _ _) _)).below (below_drewN_ (Below.refl _ _) _), below_drewN_ (below_drewN_ B8.out _) _⟩ | exact ⟨own_le (own_drewN O3.out _) B7S.out, H8.out.below (below_drewN_ (Below.refl _ _) _), below_drewN_ B8.out _⟩) ?_
          clear O1 O2' O3 H8 B8 T1 T2 B7S
          rintro wz ⟨oz, hz, bz⟩
          have OZ := Lib.hid oz
          have HZ := Lib.hid hz
          have BZ := Lib.hid bz
          clear oz hz bz
          go_wp2_with fail
          go_loopw [92] (fun s92 wr => ∃ i : Nat, i ≤ k ∧ s92 = .int .i64 (i : Int) ∧ wr = wz) (fun i _ => k - (intOf i).toNat)
          case atStart => exact ⟨0, Nat.zero_le _, rfl, rfl⟩
          case round =>
            obtain ⟨i, hik, rfl, rfl⟩ := hrel
            by_cases hilt : i < k
            · obtain ⟨g', c', hv, _, _, _, hcz⟩ := own_int OZ.out (by omega)
              injection hv with hv1 hv2 hv3
              injection hv1 with hv1
              injection hv1 with hv1
              subst hv1
              have c0 := hcz i (by rw [List.length_map, HLl.out]; exact hilt)
              have hiL : i < L.length := by rw [HLl.out]; exact hilt
              obtain ⟨j, hj, he⟩ := HLm.out L[i]! (by rw [getElem!_pos L i hiL]; exact List.getElem_mem hiL)
              have e1 : (L.map fun e => e.m).getD i 0 = (j : Int) := by
                rw [List.getD_eq_getElem?_getD, List.getElem?_map, List.getElem?_eq_getElem hiL, ← getElem!_pos L i hiL, he]; rfl
              rw [e1, Nat.zero_add] at c0
              have d1 : i < la ↔ K j ≤ lo := by have := due_at HLs.out i hiL (a := lo); rw [HLA.out, he] at this; exact this
              have d2 : i < lb ↔ K j ≤ hi := by have := due_at HLs.out i hiL (a := hi); rw [HLB.out, he] at this; exact this
              obtain ⟨kb, ko, rfl, hkb, hkc⟩ := HQ.out (by omega)
              have q0 := (BZ.out.cell (p := ⟨kb, ko + j, none⟩) hkb).trans (hkc j hj)
              have i0 : (0 : Int) ≤ (i : Int) := by omega
              have i1 : (i : Int) < (k : Int) := by omega
              have j0 : (0 : Int) ≤ (j : Int) := by omega
              have j1 : (j : Int) < (k : Int) := by omega
              clear hcz he e1 hkc hv2 hv3
              obtain ⟨kj, hkj⟩ : ∃ x, K j = x := ⟨_, rfl⟩
              rw [hkj] at q0 d1 d2
              clear hkj
              by_cases h1 : i < la
              · have h2 : i < lb := by omega
                have y1 : kj ≤ lo := d1.1 h1
                have y2 : kj ≤ hi := d2.1 h2
                have y3 : (i : Int) < (la : Int) := by omega
                have y4 : (i : Int) < (lb : Int) := by omega
                clear d1 d2
                go_wp2_with fail
                go_roundw
                case rel => exact ⟨i + 1, by omega, by go_num, by trivial⟩
                case measure => simp [intOf]; omega
              · have y1 : ¬ kj ≤ lo := fun h => h1 (d1.2 h)
                have y3 : ¬ (i : Int) < (la : Int) := by omega
                have z1 : decide (kj ≤ lo) = false := decide_eq_false y1
                have z3 : decide ((i : Int) < (la : Int)) = false := decide_eq_false y3
                by_cases h2 : i < lb
                · have y2 : kj ≤ hi := d2.1 h2
                  have y4 : (i : Int) < (lb : Int) := by omega
                  clear d1 d2
                  go_wp2_with fail
                  go_roundw
                  case rel => exact ⟨i + 1, by omega, by go_num, by trivial⟩
                  case measure => simp [intOf]; omega
                · have y2 : ¬ kj ≤ hi := fun h => h2 (d2.2 h)
                  have y4 : ¬ (i : Int) < (lb : Int) := by omega
                  have z2 : decide (kj ≤ hi) = false := decide_eq_false y2
                  have z4 : decide ((i : Int) < (lb : Int)) = false := decide_eq_false y4
                  clear d1 d2
                  go_wp2_with fail
                  go_roundw
                  case rel => exact ⟨i + 1, by omega, by go_num, by trivial⟩
                  case measure => simp [intOf]; omega
            · obtain rfl : i = k := by omega
              go_wp2_with fail
              refine (llen _ HZ.out).mono ?_
              rw [HLl.out]
              rintro e w11 ⟨rfl, rfl⟩
              go_wp2_with fail
              go_ret
              exact ⟨rfl, BZ.out⟩
set_option maxRecDepth 100000 in
theorem lifted (os : Os) (started : os.Started) (H : Type) (enc : TypeId × Value → H) :
    ReturnsInHanded {} Try.checked os 5 .any (Rows.heapDuesSpec.pre6 enc Try.prog Try.f5 Rows.heapDuesRow.domain false) (Rows.heapDuesSpec.post enc Try.prog Try.f5 false true false false) := by
  refine returnsInHanded_of_change (C := Try.checked) own started (by kernel_rfl) Try.func5
    (ChangeSpec.witness6 (enc := enc) (C := Try.checked) false ⟨#[], #[.slice none 0 0, .int .i64 0, .int .i64 0], []⟩ 8 (by kernel_rfl) (by kernel_rfl) (by kernel_rfl) (by kernel_rfl)) ?_
  intro W base args ds gs before hval0 hW hcnd _
  have hval : ∀ (j : Nat) t v, Try.f5.params[j]? = some t → args[j]? = some v → Value.okWide Try.prog W .any base t v := hval0
  have hW' := hW
  obtain ⟨p, q, hA0, hV, rfl, hfz, hnd⟩ := hW
  have hA : DataW.TrodAll enc Try.prog W 0 (fun _ => true) true Try.f5.params.toList args.toList ds p := hA0
  rw [Try.params5] at hA hval
  obtain ⟨v0, vs0, d0, ds0, p0, q0, hargs, rfl, rfl, h0, r0⟩ := trodAll_cons hA
  obtain ⟨v1, vs1, d1, ds1, p1, q1, rfl, rfl, rfl, h1, r1⟩ := trodAll_cons r0
  obtain ⟨v2, vs2, d2, ds2, p2, q2, rfl, rfl, rfl, h2, r2⟩ := trodAll_cons r1
  obtain ⟨rfl, rfl, rfl⟩ := trodAll_nil r2
  obtain rfl : args = #[v0, v1, v2] := by cases args; simp_all
  obtain ⟨rfl, rfl⟩ := trodVars_none hV
  obtain ⟨A0, len0, cap0, rfl⟩ := okWide_slice Try.underlying51 (hval 0 _ v0 rfl rfl)
  obtain ⟨fu0, g0⟩ := h0
  obtain ⟨s0, t0, Q0, u0, o0⟩ := open_i64s g0
  obtain ⟨a1, rfl, rfl, rfl, w1⟩ := open_int Try.underlying2 (hval 1 _ v1 rfl rfl) h1
  obtain ⟨a2, rfl, rfl, rfl, w2⟩ := open_int Try.underlying2 (hval 2 _ v2 rfl rfl) h2
  clear hA0 hval0
  obtain ⟨l1, m1⟩ := wf_i64 w1
  obtain ⟨l2, m2⟩ := wf_i64 w2
  refine (walk A0 len0 cap0 Q0 a1 a2 W s0 t0 u0 o0 l1 m1 l2 m2).mono fun e W' ⟨he, hg⟩ => ?_
  subst he
  exact ⟨_, rfl, post_of_law hW' rfl laidOut reads rfl Try.underlying4 rfl rfl rfl hg⟩
theorem over : Rows.heapDuesRow.holds Try.pinned (OpenSpec.ofChange Rows.heapDuesSpec) :=
  OpenClaim.holds_of_wide 5 Try.f5 rfl rfl rfl rfl rfl rfl rfl ⟨rfl, rfl, rfl, rfl, rfl⟩ rfl rfl rfl rfl rfl (by kernel_rfl) Try.func5 (by kernel_rfl)
    (of_decide_eq_true (by kernel_rfl)) (by unfold Func.isWrapper; first | (rw [if_pos (by decide +kernel)]; kernel_rfl) | (rw [if_neg (by decide +kernel)]; exact ⟨rfl, rfl⟩))
    (fun os started H enc _ => lifted os started H enc)
theorem proved : Rows.HeapDuesSaid := over
end Go.Proofs.Ytkcfmicpljlffaa.heapDues
