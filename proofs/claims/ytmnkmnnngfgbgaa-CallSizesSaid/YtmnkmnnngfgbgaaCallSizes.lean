/- CallSizes is true of every two numbers, and changes nothing that it was given. -/
import Derived.Test.YtmnkmnnngfgbgaaClk
import Derived.Test.YtmnkmnnngfgbgaaRowb
import Derived.Test.YtmnkmnnngfgbgaaRows
import Derived.WalkKit
import Derived.ProofKit
import Derived.OpenShut
import Derived.Deep.DeepCutAuto
namespace Go.Proofs.Ytmnkmnnngfgbgaa.callSizes
open Go.ChangeShapes Go.WideShapes Go.ChangeAt Go.RowKit
set_option linter.unusedVariables false
theorem own : ownKnob Try.prog.godebug = none := by kernel_rfl
theorem laidOut : laidOutB Try.prog = true := by kernel_rfl
theorem reads : (Try.f6.params.toList.all fun t => Try.prog.readableRec t && decide (t < Try.prog.types.size)) = true := by kernel_rfl
theorem encU_mono : ∀ (u v : Nat), u ≤ v → (encU u).length ≤ (encU v).length := by
  intro u
  induction u using Nat.strongRecOn with
  | _ u ih =>
    intro v h
    by_cases hu : u < 128
    · rw [encU_small hu]; exact encU_pos v
    · have hv : ¬ v < 128 := by omega
      rw [encU_big hu, encU_big hv, List.length_cons, List.length_cons]
      have := ih (u / 128) (by omega) (v / 128) (Nat.div_le_div_right h)
      omega
theorem encU_pos10 {n : Int} (h0 : -9223372036854775808 ≤ n) (h1 : n ≤ 9223372036854775807) : (encN n).length ≤ 10 := encN_len h0 h1
set_option maxRecDepth 100000 in
set_option maxHeartbeats 8000000 in
theorem walk (a b : Int) (w : World) (a0 : -9223372036854775808 ≤ a) (a1 : a ≤ 9223372036854775807) (b0 : -9223372036854775808 ≤ b) (b1 : b ≤ 9223372036854775807) :
    Calls Try.prog 6 #[.int .i64 a, .int .i64 b] w fun e w' => e = .returned (.bool true) ∧ Below w.heap.size w w' := by
  obtain ⟨d, hd⟩ : ∃ d, (!(decide (a < 0) == decide (b < 0))) = d := ⟨_, rfl⟩
  obtain ⟨c, hc⟩ : ∃ c : Int, (if d = true then -(b + 1) else b) = c := ⟨_, rfl⟩
  have hc0 : -9223372036854775808 ≤ c ∧ c ≤ 9223372036854775807 := by rw [← hc]; split <;> omega
  obtain ⟨c0, c1⟩ := hc0
  have HC := Lib.hid hc
  clear hc
  go_enter Try.func6, Try.ntmps6
  go_wp2_with fail
  refine (lawake _).mono ?_
  rintro e w1 ⟨rfl, hb1⟩
  have HB1 := Lib.hid hb1
  clear hb1
  go_upto_if 15 with fail
  have HD := Lib.hid hd
  clear hd
  go_cut [1] (fun s1 wc => s1 = .int .i64 c ∧ wc = w1)
  case first =>
    cases d with
    | true =>
      have h3 : wrap64 (-wrap64 (b + 1)) = c := by
        have h := HC.out
        rw [if_pos rfl] at h
        rw [← h]; unfold wrap64; omega
      go_wp2
      go_meet
      exact ⟨rfl, rfl⟩
    | false =>
      have h3 : b = c := by have h := HC.out; rwa [if_neg (by decide)] at h
      subst h3
      go_wp2
      go_meet
      exact ⟨rfl, rfl⟩
  case rest =>
    obtain ⟨rfl, rfl⟩ := hcut
    obtain ⟨ua, hua⟩ : ∃ ua, unz a = ua := ⟨_, rfl⟩
    obtain ⟨uc, huc⟩ : ∃ uc, unz c = uc := ⟨_, rfl⟩
    have HUA := Lib.hid hua
    have HUC := Lib.hid huc
    obtain ⟨f, hf⟩ : ∃ f, decide (uc < ua) = f := ⟨_, rfl⟩
    clear hua huc HD
    go_upto_if 23 with (first | (go_at_call 21; (with_reducible refine (plain_any a _ a0 a1).mono ?_); rintro e w' ⟨rfl, rfl⟩; rw [HUA.out]) | (go_at_call 21; (with_reducible refine (plain_any c _ c0 c1).mono ?_); rintro e w' ⟨rfl, rfl⟩; rw [HUC.out]))
    have HF := Lib.hid hf
    clear hf
    have HB := Lib.hid HB1.out
    go_cut [0, 1] (fun s0 s1 wd => ∃ p q : Int, s0 = .int .i64 p ∧ s1 = .int .i64 q ∧ I64 p ∧ I64 q ∧ unz p ≤ unz q ∧ wd = wc)
    case first =>
      cases f with
      | true =>
        have hlt : uc < ua := of_decide_eq_true HF.out
        go_wp2
        go_meet
        exact ⟨c, a, rfl, rfl, ⟨c0, c1⟩, ⟨a0, a1⟩, by rw [HUA.out, HUC.out]; omega, rfl⟩
      | false =>
        have hlt : ¬ uc < ua := of_decide_eq_false HF.out
        go_wp2
        go_meet
        exact ⟨a, c, rfl, rfl, ⟨a0, a1⟩, ⟨c0, c1⟩, by rw [HUA.out, HUC.out]; omega, rfl⟩
    case rest =>
      clear HC HF HUA HUC c0 c1 a0 a1 b0 b1
      obtain ⟨p, q, rfl, rfl, ⟨p0, p1⟩, ⟨q0, q1⟩, hle, rfl⟩ := hcut
      have hm := encU_mono _ _ hle
      have hp10 := encN_len p0 p1
      have hq10 := encN_len q0 q1
      obtain ⟨X, hX⟩ : ∃ X, encN p = X := ⟨_, rfl⟩
      obtain ⟨Y, hY⟩ : ∃ Y, encN q = Y := ⟨_, rfl⟩
      have hxy : X.length ≤ Y.length := by rw [← hX, ← hY]; exact hm
      rw [hX] at hp10
      rw [hY] at hq10
      obtain ⟨x, hx⟩ : ∃ x, X.length = x := ⟨_, rfl⟩
      obtain ⟨y, hy⟩ : ∃ y, Y.length = y := ⟨_, rfl⟩
      rw [hx] at hp10 hxy
      rw [hy] at hq10 hxy
      have HX := Lib.hid hX
      have HY := Lib.hid hY
      have HXL := Lib.hid hx
      have HYL := Lib.hid hy
      obtain ⟨u, hu⟩ : ∃ u, unz p = u := ⟨_, rfl⟩
      have HU := Lib.hid hu
      have hul : u < 18446744073709551616 := by rw [← hu]; exact unz_lt p0 p1
      have hxe : (encU u).length = x := by rw [← hx, ← hX, ← hu]; rfl
      have HXE := Lib.hid hxe
      clear hm hX hY hx hy hu hxe hle
      go_wp2_with fail
      refine (number_nil p _ p0 p1).mono ?_
      rintro e w2 ⟨v2, rfl, ho2, hb2⟩
      obtain ⟨A2, c2, rfl, _, _, _, _⟩ := ho2.rd
      rw [HX.out, HXL.out]
      have HB2 := Lib.hid (HB.out.trans (hb2.mono HB.out.size))
      clear ho2 hb2
      go_wp2_with fail
      refine (number_nil q _ q0 q1).mono ?_
      rintro e w3 ⟨v3, rfl, ho3, hb3⟩
      obtain ⟨A3, c3, rfl, _, _, _, _⟩ := ho3.rd
      rw [HY.out, HYL.out]
      have HB3 := Lib.hid (HB2.out.trans (hb3.mono HB2.out.size))
      clear ho3 hb3
      go_wp2_with (go_at_call 21; (with_reducible refine (plain_any p _ p0 p1).mono ?_); rintro e w' ⟨rfl, rfl⟩; rw [HU.out])
      go_loop [7, 8] (fun s7 s8 => ∃ (m r : Nat), s7 = .int .i64 (m : Int) ∧ s8 = .int .u64 (r : Int) ∧ m + (encU r).length = x + 1 ∧ r < 18446744073709551616) (fun _ s => (intOf s).toNat)
      case atStart => exact ⟨1, u, rfl, rfl, by rw [HXE.out]; omega, hul⟩
      case round =>
        obtain ⟨m, r, rfl, rfl, hmr, hrl⟩ := hrel
        have hep := encU_pos r
        by_cases hr : r < 128
        · have hmx : m = x := by rw [encU_small hr] at hmr; simp only [List.length_cons, List.length_nil] at hmr; omega
          subst hmx
          have h1 : (r : Int) < 128 := by omega
          clear hmr
          go_wp2
          go_ret
          exact ⟨by first | rfl | (simp; omega), HB3.out⟩
        · have hmr2 : (m + 1) + (encU (r / 128)).length = x + 1 := by rw [encU_big hr, List.length_cons] at hmr; omega
          have h1 : 128 ≤ (r : Int) := by omega
          have h2 : (r : Int) ≤ 18446744073709551615 := by omega
          have hm11 : m ≤ 11 := by omega
          have HMR := Lib.hid hmr2
          clear hmr hmr2
          go_wp2
          have e2 : (r : Int) / 128 = ((r / 128 : Nat) : Int) := by omega
          rw [e2]
          clear e2
          go_round
          case rel => exact ⟨m + 1, r / 128, by go_num, rfl, HMR.out, by omega⟩
          case measure => simp [intOf]; omega
set_option maxRecDepth 100000 in
theorem lifted (os : Os) (started : os.Started) (H : Type) (enc : TypeId × Value → H) :
    ReturnsInHanded {} Try.checked os 6 .any (Rows.callSizesSpec.pre6 enc Try.prog Try.f6 Rows.callSizesRow.domain false) (Rows.callSizesSpec.post enc Try.prog Try.f6 false true false false) := by
  refine returnsInHanded_of_change (C := Try.checked) own started (by kernel_rfl) Try.func6
    (ChangeSpec.witness6 (enc := enc) (C := Try.checked) false ⟨#[], #[.int .i64 0, .int .i64 0], []⟩ 8 (by kernel_rfl) (by kernel_rfl) (by kernel_rfl) (by kernel_rfl)) ?_
  intro W base args ds gs before hval0 hW hcnd _
  have hval : ∀ (j : Nat) t v, Try.f6.params[j]? = some t → args[j]? = some v → Value.okWide Try.prog W .any base t v := hval0
  have hW' := hW
  obtain ⟨p, q, hA0, hV, rfl, hfz, hnd⟩ := hW
  have hA : DataW.TrodAll enc Try.prog W 0 (fun _ => true) true Try.f6.params.toList args.toList ds p := hA0
  rw [Try.params6] at hA hval
  obtain ⟨v0, vs0, d0, ds0, p0, q0, hargs, rfl, rfl, h0, r0⟩ := trodAll_cons hA
  obtain ⟨v1, vs1, d1, ds1, p1, q1, rfl, rfl, rfl, h1, r1⟩ := trodAll_cons r0
  obtain ⟨rfl, rfl, rfl⟩ := trodAll_nil r1
  obtain rfl : args = #[v0, v1] := by cases args; simp_all
  obtain ⟨rfl, rfl⟩ := trodVars_none hV
  obtain ⟨a0, rfl, rfl, rfl, w0⟩ := open_int Try.underlying2 (hval 0 _ v0 rfl rfl) h0
  obtain ⟨a1, rfl, rfl, rfl, w1⟩ := open_int Try.underlying2 (hval 1 _ v1 rfl rfl) h1
  clear hA0 hval0
  obtain ⟨l0, m0⟩ := wf_i64 w0
  obtain ⟨l1, m1⟩ := wf_i64 w1
  refine (walk a0 a1 W l0 m0 l1 m1).mono fun e W' ⟨he, hg⟩ => ?_
  subst he
  exact ⟨_, rfl, post_of_law hW' rfl laidOut reads rfl Try.underlying4 rfl rfl rfl hg⟩
theorem over : Rows.callSizesRow.holds Try.pinned (OpenSpec.ofChange Rows.callSizesSpec) :=
  OpenClaim.holds_of_wide 6 Try.f6 rfl rfl rfl rfl rfl rfl rfl ⟨rfl, rfl, rfl, rfl, rfl⟩ rfl rfl rfl rfl rfl (by kernel_rfl) Try.func6 (by kernel_rfl)
    (of_decide_eq_true (by kernel_rfl)) (by unfold Func.isWrapper; first | (rw [if_pos (by decide +kernel)]; kernel_rfl) | (rw [if_neg (by decide +kernel)]; exact ⟨rfl, rfl⟩))
    (fun os started H enc _ => lifted os started H enc)
theorem proved : Rows.CallSizesSaid := over
end Go.Proofs.Ytmnkmnnngfgbgaa.callSizes
