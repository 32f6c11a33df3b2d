/- DequeParts is true of every number of rows and every script of calls, and changes nothing that it was given. -/
import Derived.Test.YtgjfigjebojjdaaDsum
import Derived.Test.YtgjfigjebojjdaaDact
import Derived.Test.YtgjfigjebojjdaaRowb
import Derived.Test.YtgjfigjebojjdaaRows
import Derived.WalkKit
import Derived.ProofKit
import Derived.OpenShut
import Derived.Deep.DeepCutAuto
import Derived.Deep.CutBlock
namespace Go.Proofs.Ytgjfigjebojjdaa.dequeParts
open Go.ChangeShapes Go.WideShapes Go.ChangeAt Go.RowKit
set_option linter.unusedVariables false
theorem own : ownKnob Try.prog.godebug = none := by kernel_rfl
theorem laidOut : laidOutB Try.prog = true := by kernel_rfl
theorem reads : (Try.f12.params.toList.all fun t => Try.prog.readableRec t && decide (t < Try.prog.types.size)) = true := by kernel_rfl
set_option maxRecDepth 100000 in
set_option maxHeartbeats 4000000 in
theorem walk (x : Int) (A : Option Addr) (len cap : Nat) (Q : Nat → Dq) (w : World) (hl : len ≤ cap) (hc : cap ≤ maxLen) (hQ : SeqAt w w.heap.size A len 3 (fun i => dqRow (Q i))) (hok : ∀ i, i < len → (Q i).ok) (x0 : 0 ≤ x) (x1 : x ≤ 255) :
    Calls Try.prog 12 #[.int .u8 x, .slice A len cap] w fun e w' => e = .returned (.bool true) ∧ Below w.heap.size w w' := by
  unfold maxLen at hc
  obtain ⟨N, hN⟩ : ∃ N : Nat, x % 8 + 1 = (N : Int) := ⟨(x % 8 + 1).toNat, by omega⟩
  have hN2 : 1 + x % 8 = (N : Int) := by omega
  have n0 : 1 ≤ N := by omega
  have n1 : N ≤ 8 := by omega
  have HN := Lib.hid hN2
  have HQ := Lib.hid hQ
  have HOK := Lib.hid hok
  clear hN hN2 hQ hok
  go_enter Try.func12, Try.ntmps12
  go_wp2_with (go_at_call 32; refine (awaked _).mono ?_; rintro e w0 ⟨rfl, hb0⟩)
  rw [HN.out]
  refine (dnew_yes N 20 _ n0 n1 (by omega) (by omega)).mono ?_
  rintro e w1 ⟨p, a, b, rfl, hp, ha, hb, h1, hbw⟩
  have h2 : RowsL w1 p a b N 20 (fun _ => []) 0 := ⟨_, _, _, _, _, _, _, h1, Rep.start N 20, fun _ => ⟨by simp, by simp⟩⟩
  have hb1 := hb0.trans (hbw.mono hb0.size)
  have hz := hb0.size
  have H2 := Lib.hid h2
  clear h1 h2 hbw hb0
  go_upto_block 0 with fail
  go_cut [32] (fun _ wx => ∃ L, RowsL wx p a b N 20 L 60 ∧ Below w.heap.size w wx)
  case first =>
    go_wp2
    go_loopw [32] (fun s32 wr => ∃ (k : Nat) (L : Nat → List Nat), k ≤ len ∧ k ≤ 60 ∧ s32 = .int .i64 k ∧ RowsL wr p a b N 20 L (k : Int) ∧ Below w.heap.size w wr) (fun i _ => len - (intOf i).toNat)
    case atStart => exact ⟨0, _, Nat.zero_le _, Nat.zero_le _, rfl, H2.out, hb1⟩
    case round =>
      obtain ⟨k, L, hk, hk60, rfl, hr, hbr⟩ := hrel
      have HR := Lib.hid hr
      have ⟨hp1, hp2, hp3⟩ := hr.lts
      clear hr
      by_cases hlt : k < len
      · obtain ⟨kb, ko, rfl, hkb, hkc⟩ := HQ.out (by omega)
        have hq : ∀ j, j < 3 → wr.cell? ⟨kb, ko + k * 3 + j, none⟩ = (dqRow (Q k))[j]? := fun j hj => (hbr.cell hkb).trans (hkc k hlt j hj)
        have hqk := HOK.out k hlt
        obtain ⟨⟨d, r, i⟩, hqe⟩ : ∃ q, Q k = q := ⟨_, rfl⟩
        rw [hqe] at hq hqk
        obtain ⟨⟨d0, d1⟩, ⟨r0, r1⟩, ⟨i0, i1⟩⟩ := hqk
        have q0 : wr.cell? ⟨kb, ko + k * 3, none⟩ = some (.int .u8 d) := hq 0 (by omega)
        have q1 : wr.cell? ⟨kb, ko + k * 3 + 1, none⟩ = some (.int .i64 r) := hq 1 (by omega)
        have q2 : wr.cell? ⟨kb, ko + k * 3 + 2, none⟩ = some (.int .i64 i) := hq 2 (by omega)
        have hkr : kb < wr.heap.size := by have := hbr.size; omega
        clear hq hkc hqe
        have ht : d.tmod 5 = d % 5 := Int.tmod_eq_emod_of_nonneg d0
        by_cases h60 : k < 60
        · by_cases hd : d % 5 < 3
          · have hdt : decide (d.tmod 5 < 3) = true := by rw [ht]; exact decide_eq_true hd
            clear ht
            go_wp2_with (go_at_call 35; refine (push_any _ _ _ (HR.out.kept (own := fun _ => False) ((Kept.refl _ _).alloc_ _) id id id) (by omega) (by omega)).mono ?_; rintro e w5 ⟨rfl, h5, k5⟩; have H5 := Lib.hid h5; have K5 := Lib.hid k5; clear h5 k5)
            go_roundw
            case rel => exact ⟨k + 1, _, by omega, by omega, by go_num, H5.out, (hbr.alloc hbr.size _).trans (K5.out.below (fun g hg => by omega) (by have := hbr.size; simp; omega))⟩
            case measure => simp [intOf]; omega
          · have hdt : decide (d.tmod 5 < 3) = false := by rw [ht]; exact decide_eq_false hd
            clear ht
            go_wp2_with fail
            refine (rem_any _ _ (HR.out.kept (own := fun _ => False) ((Kept.refl _ _).alloc_ _) id id id) (by omega)).mono ?_
            rintro e w5 ⟨rfl, h5, k5⟩
            have H5 := Lib.hid h5
            have K5 := Lib.hid k5
            clear h5 k5
            go_wp2
            go_roundw
            case rel => exact ⟨k + 1, _, by omega, by omega, by go_num, RowsAt.more H5.out (by omega), (hbr.alloc hbr.size _).trans (K5.out.below (fun g hg => by omega) (by have := hbr.size; simp; omega))⟩
            case measure => simp [intOf]; omega
        · go_wp2
          go_meet
          exact ⟨L, RowsAt.more (HR.out.kept (own := fun _ => False) ((Kept.refl _ _).alloc_ _) id id id) (by omega), hbr.alloc hbr.size _⟩
      · go_wp2
        go_meet
        exact ⟨L, RowsAt.more HR.out (by omega), hbr⟩
  case rest =>
    clear hb1 H2
    obtain ⟨L, hr, hb2⟩ := hcut
    have hL := Lib.hid hr.lists
    have HR := Lib.hid hr
    have ⟨hp1, hp2, hp3⟩ := hr.lts
    clear hr
    have HR2 := HR
    go_wp2
    go_loopw [11, 55] (fun s11 s55 wr => ∃ r : Nat, r ≤ N ∧ s55 = .int .i64 r ∧ s11 = .int .i64 (sumL L r : Nat) ∧ Below wc.heap.size wc wr) (fun _ i _ => N - (intOf i).toNat)
    case atStart => exact ⟨0, Nat.zero_le _, rfl, rfl, Below.refl _ _⟩
    case round =>
      obtain ⟨r, hrN, rfl, rfl, hbr⟩ := hrel
      have hs1 := sumL_le hL.out r hrN
      have hs2 : sumL L r ≤ 160 := Nat.le_trans hs1 (by have := Nat.mul_le_mul_right 20 (show r ≤ 8 by omega); omega)
      have H3 := Lib.hid (RowsAt.below HR.out hbr hp1 hp2 hp3)
      have hzr := hbr.size
      clear hs1
      by_cases hlt : r < N
      · have hlen := hL.out.len hlt
        have HROW := Lib.hid (show rowE N L (r : Int) = L r by unfold rowE; rw [if_neg (by omega)]; rfl)
        go_wp2_with (first
          | (go_at_call 46; refine (len_any _ _ H3.out).mono ?_; rintro e w5 ⟨rfl, rfl⟩; rw [HROW.out])
          | (go_at_call 47; refine (all_made _ _ _ _).mono ?_; rintro e w4 ⟨rfl, hA, hb4, hz4⟩; have HA := Lib.hid hA; have HB4 := Lib.hid hb4; have HZ4 := Lib.hid hz4; clear hA hb4 hz4)
          | (go_at_call 49; refine (collect_any_ (r : Int) (back := false) _ (RowsAt.below H3.out HB4.out (by omega) (by omega) (by omega)) (by omega) (by rw [HZ4.out]; omega) HA.out).mono ?_; rintro e w6 ⟨v6, rfl, hown, hb6⟩; rw [HROW.out] at hown; obtain ⟨Al, cl, rfl⟩ := own_form hown; have HO := Lib.hid hown; have HB6 := Lib.hid hb6; clear hown hb6))
        have hb7 : Below wc.heap.size wc w6 := (hbr.trans (HB4.out.mono hzr)).trans (HB6.out.mono (by have := HZ4.out; omega))
        have H7 := Lib.hid (RowsAt.below HR.out hb7 hp1 hp2 hp3)
        go_loop [68] (fun s68 => ∃ k : Nat, k ≤ (L r).length ∧ s68 = .int .i64 k) (fun i => (L r).length - (intOf i).toNat)
        case atStart => exact ⟨0, Nat.zero_le _, rfl⟩
        case round =>
          obtain ⟨k, hk, rfl⟩ := hrel
          by_cases hkl : k < (L r).length
          · obtain ⟨g, rfl, hgb, hg, y, hy, hcy⟩ := ints_at HO.out hkl
            have hyL : y ∈ L r := List.mem_of_getElem? hy
            have HW := Lib.hid (show whE N 20 L (y : Int) = (r : Int) by
              unfold whE
              have := hL.out.lt r hlt y hyL
              rw [if_neg (by omega), Int.toNat_natCast]; exact hL.out.whF hlt hyL)
            clear hy hyL
            go_wp2_with (go_at_call 40; refine (where_any _ _ H7.out).mono ?_; rintro e w8 ⟨rfl, rfl⟩; rw [HW.out])
            go_round
            case rel => exact ⟨k + 1, by omega, by go_num⟩
            case measure => simp [intOf]; omega
          · go_wp2
            go_roundw
            case rel => exact ⟨r + 1, by omega, by go_num, by show _ = Value.int .i64 ((sumL L r + (L r).length : Nat) : Int); go_num, hb7⟩
            case measure => simp [intOf]; omega
      · obtain rfl : r = N := by omega
        obtain ⟨wo, rfl⟩ : ∃ wo, wo = wr := ⟨wr, rfl⟩
        have HP := Lib.hid hL.out.parts
        go_wp2
        go_loopw [12, 80] (fun s12 s80 wr => ∃ i : Nat, i ≤ 20 ∧ s80 = .int .i64 i ∧ s12 = .int .i64 (innL L r i : Nat) ∧ Below wc.heap.size wc wr) (fun _ i _ => 20 - (intOf i).toNat)
        case atStart => exact ⟨0, Nat.zero_le _, rfl, rfl, hbr⟩
        case round =>
          obtain ⟨i, hi, rfl, rfl, hbi⟩ := hrel
          have hi1 := innL_le L r i
          have H8 := Lib.hid (RowsAt.below HR.out hbi hp1 hp2 hp3)
          have hzi := hbi.size
          by_cases hi20 : i < 20
          · have HWE := Lib.hid (show whE r 20 L (i : Int) = whF L i r by unfold whE; rw [if_neg (by omega), Int.toNat_natCast])
            rcases whF_cases (L := L) i r with ⟨hw, hno⟩ | ⟨q, hq, hiq, hw⟩
            · have HW := Lib.hid hw
              have hin : innL L r (i + 1) = innL L r i := by show innL L r i + _ = _; rw [HW.out]; rfl
              have HIN := Lib.hid hin
              clear hw hno hin
              go_wp2_with (go_at_call 40; refine (where_any _ _ H8.out).mono ?_; rintro e w8 ⟨rfl, rfl⟩; rw [HWE.out, HW.out])
              go_roundw
              case rel => exact ⟨i + 1, by omega, by go_num, by rw [HIN.out], hbi⟩
              case measure => simp [intOf]; omega
            · have HW := Lib.hid hw
              have hin : innL L r (i + 1) = innL L r i + 1 := by show innL L r i + _ = _; rw [HW.out, if_pos (by omega)]
              have HIN := Lib.hid hin
              have hlen := hL.out.len hq
              have HROW := Lib.hid (show rowE r L (q : Int) = L q by unfold rowE; rw [if_neg (by omega)]; rfl)
              have HMEM := Lib.hid (show decide (i ∈ fromE true (L q)) = true from decide_eq_true (by unfold fromE; rw [if_pos rfl]; exact List.mem_reverse.2 hiq))
              clear hw hiq hin
              go_wp2_with (first
                | (go_at_call 40; refine (where_any _ _ H8.out).mono ?_; rintro e w8 ⟨rfl, rfl⟩; rw [HWE.out, HW.out])
                | (go_at_call 47; refine (all_made _ _ _ _).mono ?_; rintro e w4 ⟨rfl, hA, hb4, hz4⟩; have HA := Lib.hid hA; have HB4 := Lib.hid hb4; have HZ4 := Lib.hid hz4; clear hA hb4 hz4)
                | (go_at_call 49; refine (collect_any_ (q : Int) (back := true) _ (RowsAt.below H8.out HB4.out (by omega) (by omega) (by omega)) (by omega) (by rw [HZ4.out]; omega) HA.out).mono ?_; rintro e w6 ⟨v6, rfl, hown, hb6⟩; rw [HROW.out] at hown; obtain ⟨Al, cl, rfl⟩ := own_form hown; have HO := Lib.hid hown; have HB6 := Lib.hid hb6; clear hown hb6)
                | (go_at_call 42; refine (contains_any i _ HO.out (by omega)).mono ?_; rintro e w9 ⟨rfl, rfl⟩; rw [HMEM.out]))
              go_roundw
              case rel => exact ⟨i + 1, by omega, by go_num, by rw [HIN.out]; go_num, (hbi.trans (HB4.out.mono hzi)).trans (HB6.out.mono (by have := HZ4.out; omega))⟩
              case measure => simp [intOf]; omega
          · obtain rfl : i = 20 := by omega
            have hbq : ((sumL L r : Int) == (innL L r 20 : Int)) = true := by rw [HP.out]; simp
            go_wp2
            go_ret
            refine ⟨?_, hb2.trans (hbi.mono hb2.size)⟩
            first | rfl | (rw [HP.out]; simp)
set_option maxRecDepth 100000 in
theorem lifted (os : Os) (started : os.Started) (H : Type) (enc : TypeId × Value → H) :
    ReturnsInHanded {} Try.checked os 12 .any (Rows.dequePartsSpec.pre6 enc Try.prog Try.f12 Rows.dequePartsRow.domain false) (Rows.dequePartsSpec.post enc Try.prog Try.f12 false true false false) := by
  refine returnsInHanded_of_change (C := Try.checked) own started (by kernel_rfl) Try.func12
    (ChangeSpec.witness6 (enc := enc) (C := Try.checked) false ⟨#[], #[.int .u8 0, .slice none 0 0], []⟩ 8 (by kernel_rfl) (by kernel_rfl) (by kernel_rfl) (by kernel_rfl)) ?_
  intro W base args ds gs before hval0 hW hcnd _
  have hval : ∀ (j : Nat) t v, Try.f12.params[j]? = some t → args[j]? = some v → Value.okWide Try.prog W .any base t v := hval0
  have hW' := hW
  obtain ⟨p, q, hA0, hV, rfl, hfz, hnd⟩ := hW
  have hA : DataW.TrodAll enc Try.prog W 0 (fun _ => true) true Try.f12.params.toList args.toList ds p := hA0
  rw [Try.params12] at hA hval
  obtain ⟨v0, vs0, d0, ds0, p0, q0, hargs, rfl, rfl, h0, r0⟩ := trodAll_cons hA
  obtain ⟨v1, vs1, d1, ds1, p1, q1, rfl, rfl, rfl, h1, r1⟩ := trodAll_cons r0
  obtain ⟨rfl, rfl, rfl⟩ := trodAll_nil r1
  obtain rfl : args = #[v0, v1] := by cases args; simp_all
  obtain ⟨rfl, rfl⟩ := trodVars_none hV
  obtain ⟨a0, rfl, rfl, rfl, w0⟩ := open_int Try.underlying5 (hval 0 _ v0 rfl rfl) h0
  obtain ⟨A1, len1, cap1, rfl⟩ := okWide_slice Try.underlying72 (hval 1 _ v1 rfl rfl)
  obtain ⟨fu1, g1⟩ := h1
  obtain ⟨s1, t1, Q1, u1, o1⟩ := open_dqs g1
  clear hA0 hval0
  obtain ⟨l0, m0⟩ := wf_u8 w0
  refine (walk a0 A1 len1 cap1 Q1 W s1 t1 u1 o1 l0 m0).mono fun e W' ⟨he, hg⟩ => ?_
  subst he
  exact ⟨_, rfl, post_of_law hW' rfl laidOut reads rfl Try.underlying4 rfl rfl rfl hg⟩
theorem over : Rows.dequePartsRow.holds Try.pinned (OpenSpec.ofChange Rows.dequePartsSpec) :=
  OpenClaim.holds_of_wide 12 Try.f12 rfl rfl rfl rfl rfl rfl rfl ⟨rfl, rfl, rfl, rfl, rfl⟩ rfl rfl rfl rfl rfl (by kernel_rfl) Try.func12 (by kernel_rfl)
    (of_decide_eq_true (by kernel_rfl)) (by unfold Func.isWrapper; first | (rw [if_pos (by decide +kernel)]; kernel_rfl) | (rw [if_neg (by decide +kernel)]; exact ⟨rfl, rfl⟩))
    (fun os started H enc _ => lifted os started H enc)
theorem proved : Rows.DequePartsSaid := over
end Go.Proofs.Ytgjfigjebojjdaa.dequeParts
