/- FixOrders is true of every a, b and c of 64 bits, and changes nothing that it was given. -/
import Derived.Test.YtbmbapklbnhnpabAwakeb
import Derived.Test.YtbmbapklbnhnpabSatb
import Derived.Test.YtbmbapklbnhnpabRow
import Derived.Test.YtbmbapklbnhnpabRows
import Derived.WalkKit
import Derived.ProofKit
import Derived.OpenShut
namespace Go.Proofs.Ytbmbapklbnhnpab.fixOrders
open Go.ChangeShapes Go.WideShapes Go.ChangeAt Go.RowKit Kn
set_option linter.unusedVariables false
theorem own : ownKnob Try.prog.godebug = none := by kernel_rfl
set_option maxHeartbeats 1000000 in
theorem walk (a b c : Int) (w : World) (a0 : -9223372036854775808 ≤ a) (a1 : a ≤ 9223372036854775807) (b0 : -9223372036854775808 ≤ b) (b1 : b ≤ 9223372036854775807) (c0 : -9223372036854775808 ≤ c) (c1 : c ≤ 9223372036854775807) :
    Calls Try.prog 3 #[.int .i64 a, .int .i64 b, .int .i64 c] w fun e w' => e = .returned (.bool true) ∧ Below w.heap.size w w' := by
  by_cases hab : b < a
  · have s1 := sat_mono (b + c) (a + c) (by omega)
    have s2 := sat_mono (b - c) (a - c) (by omega)
    have s3 := sat_mono (-a) (-b) (by omega)
    by_cases hc : c < 0
    · have hb := Below.refl w.heap.size w
      go_enter Try.func3, Try.ntmps3
      go_wp2_with (first
        | (go_at_call 6; refine (awakeb _).mono ?_; rintro e wn ⟨rfl, hbn⟩; replace hb := hb.trans (hbn.mono hb.size); clear hbn)
        | (go_at_call 7; refine (fadd_any _ _ _ (by omega) (by omega) (by omega) (by omega)).mono ?_; rintro e w2 ⟨rfl, rfl⟩)
        | (go_at_call 8; refine (fsub_any _ _ _ (by omega) (by omega) (by omega) (by omega)).mono ?_; rintro e w2 ⟨rfl, rfl⟩)
        | (go_at_call 9; refine (fneg_any _ _ (by omega) (by omega)).mono ?_; rintro e w2 ⟨rfl, rfl⟩)
        | (go_at_call 10; refine (fmul_any _ _ _ (by omega) (by omega) (by omega) (by omega)).mono ?_; rintro e wn ⟨rfl, hbn⟩; replace hb := hb.trans (hbn.mono hb.size); clear hbn)
        | (go_at_call 11; refine (qof_any _ _ _ (by omega) (by omega) (by omega) (by omega)).mono ?_; rintro e wn ⟨rfl, hbn⟩; replace hb := hb.trans (hbn.mono hb.size); clear hbn))
      go_ret
      exact ⟨rfl, hb⟩
    · have s4 := sat_mono (b * c) (a * c) (Int.mul_le_mul_of_nonneg_right (by omega) (by omega))
      have s5 := sat_mono (prodN c b) (prodN c a) (prod_mono c b a (by omega) (by omega))
      have hb := Below.refl w.heap.size w
      go_enter Try.func3, Try.ntmps3
      go_wp2_with (first
        | (go_at_call 6; refine (awakeb _).mono ?_; rintro e wn ⟨rfl, hbn⟩; replace hb := hb.trans (hbn.mono hb.size); clear hbn)
        | (go_at_call 7; refine (fadd_any _ _ _ (by omega) (by omega) (by omega) (by omega)).mono ?_; rintro e w2 ⟨rfl, rfl⟩)
        | (go_at_call 8; refine (fsub_any _ _ _ (by omega) (by omega) (by omega) (by omega)).mono ?_; rintro e w2 ⟨rfl, rfl⟩)
        | (go_at_call 9; refine (fneg_any _ _ (by omega) (by omega)).mono ?_; rintro e w2 ⟨rfl, rfl⟩)
        | (go_at_call 10; refine (fmul_any _ _ _ (by omega) (by omega) (by omega) (by omega)).mono ?_; rintro e wn ⟨rfl, hbn⟩; replace hb := hb.trans (hbn.mono hb.size); clear hbn)
        | (go_at_call 11; refine (qof_any _ _ _ (by omega) (by omega) (by omega) (by omega)).mono ?_; rintro e wn ⟨rfl, hbn⟩; replace hb := hb.trans (hbn.mono hb.size); clear hbn))
      go_ret
      exact ⟨rfl, hb⟩
  · have s1 := sat_mono (a + c) (b + c) (by omega)
    have s2 := sat_mono (a - c) (b - c) (by omega)
    have s3 := sat_mono (-b) (-a) (by omega)
    by_cases hc : c < 0
    · have hb := Below.refl w.heap.size w
      go_enter Try.func3, Try.ntmps3
      go_wp2_with (first
        | (go_at_call 6; refine (awakeb _).mono ?_; rintro e wn ⟨rfl, hbn⟩; replace hb := hb.trans (hbn.mono hb.size); clear hbn)
        | (go_at_call 7; refine (fadd_any _ _ _ (by omega) (by omega) (by omega) (by omega)).mono ?_; rintro e w2 ⟨rfl, rfl⟩)
        | (go_at_call 8; refine (fsub_any _ _ _ (by omega) (by omega) (by omega) (by omega)).mono ?_; rintro e w2 ⟨rfl, rfl⟩)
        | (go_at_call 9; refine (fneg_any _ _ (by omega) (by omega)).mono ?_; rintro e w2 ⟨rfl, rfl⟩)
        | (go_at_call 10; refine (fmul_any _ _ _ (by omega) (by omega) (by omega) (by omega)).mono ?_; rintro e wn ⟨rfl, hbn⟩; replace hb := hb.trans (hbn.mono hb.size); clear hbn)
        | (go_at_call 11; refine (qof_any _ _ _ (by omega) (by omega) (by omega) (by omega)).mono ?_; rintro e wn ⟨rfl, hbn⟩; replace hb := hb.trans (hbn.mono hb.size); clear hbn))
      go_ret
      exact ⟨rfl, hb⟩
    · have s4 := sat_mono (a * c) (b * c) (Int.mul_le_mul_of_nonneg_right (by omega) (by omega))
      have s5 := sat_mono (prodN c a) (prodN c b) (prod_mono c a b (by omega) (by omega))
      have hb := Below.refl w.heap.size w
      go_enter Try.func3, Try.ntmps3
      go_wp2_with (first
        | (go_at_call 6; refine (awakeb _).mono ?_; rintro e wn ⟨rfl, hbn⟩; replace hb := hb.trans (hbn.mono hb.size); clear hbn)
        | (go_at_call 7; refine (fadd_any _ _ _ (by omega) (by omega) (by omega) (by omega)).mono ?_; rintro e w2 ⟨rfl, rfl⟩)
        | (go_at_call 8; refine (fsub_any _ _ _ (by omega) (by omega) (by omega) (by omega)).mono ?_; rintro e w2 ⟨rfl, rfl⟩)
        | (go_at_call 9; refine (fneg_any _ _ (by omega) (by omega)).mono ?_; rintro e w2 ⟨rfl, rfl⟩)
        | (go_at_call 10; refine (fmul_any _ _ _ (by omega) (by omega) (by omega) (by omega)).mono ?_; rintro e wn ⟨rfl, hbn⟩; replace hb := hb.trans (hbn.mono hb.size); clear hbn)
        | (go_at_call 11; refine (qof_any _ _ _ (by omega) (by omega) (by omega) (by omega)).mono ?_; rintro e wn ⟨rfl, hbn⟩; replace hb := hb.trans (hbn.mono hb.size); clear hbn))
      go_ret
      exact ⟨rfl, hb⟩
set_option maxRecDepth 100000 in
theorem lifted (os : Os) (started : os.Started) (H : Type) (enc : TypeId × Value → H) :
    ReturnsInHanded {} Try.checked os 3 .any (Rows.fixOrdersSpec.pre6 enc Try.prog Try.f3 Rows.fixOrdersRow.domain false) (Rows.fixOrdersSpec.post enc Try.prog Try.f3 false true false false) := by
  refine returnsInHanded_of_change (C := Try.checked) own started (by kernel_rfl) Try.func3
    (ChangeSpec.witness6 (enc := enc) (C := Try.checked) false ⟨#[], #[.int .i64 0, .int .i64 0, .int .i64 0], []⟩ 8 (by kernel_rfl) (by kernel_rfl) (by kernel_rfl) (by kernel_rfl)) ?_
  intro W base args ds gs before hval0 hW hcnd _
  have hval : ∀ (j : Nat) t v, Try.f3.params[j]? = some t → args[j]? = some v → Value.okWide Try.prog W .any base t v := hval0
  have hW' := hW
  obtain ⟨p, q, hA0, hV, rfl, hfz, hnd⟩ := hW
  have hA : DataW.TrodAll enc Try.prog W 0 (fun _ => true) true Try.f3.params.toList args.toList ds p := hA0
  rw [Try.params3] at hA hval
  obtain ⟨v0, vs0, d0, ds0, p0, q0, hargs, rfl, rfl, h0, r0⟩ := trodAll_cons hA
  obtain ⟨v1, vs1, d1, ds1, p1, q1, rfl, rfl, rfl, h1, r1⟩ := trodAll_cons r0
  obtain ⟨v2, vs2, d2, ds2, p2, q2, rfl, rfl, rfl, h2, r2⟩ := trodAll_cons r1
  obtain ⟨rfl, rfl, rfl⟩ := trodAll_nil r2
  obtain rfl : args = #[v0, v1, v2] := by cases args; simp_all
  obtain ⟨rfl, rfl⟩ := trodVars_none hV
  obtain ⟨a0, rfl, rfl, rfl, w0⟩ := open_int Try.underlying2 (hval 0 _ v0 rfl rfl) h0
  obtain ⟨a1, rfl, rfl, rfl, w1⟩ := open_int Try.underlying2 (hval 1 _ v1 rfl rfl) h1
  obtain ⟨a2, rfl, rfl, rfl, w2⟩ := open_int Try.underlying2 (hval 2 _ v2 rfl rfl) h2
  clear hA0 hval0
  simp only [List.append_nil] at hW'
  obtain ⟨l0, m0⟩ := wf_i64 w0
  obtain ⟨l1, m1⟩ := wf_i64 w1
  obtain ⟨l2, m2⟩ := wf_i64 w2
  refine (walk a0 a1 a2 W l0 m0 l1 m1 l2 m2).mono fun e W' ⟨he, hg⟩ => ?_
  subst he
  exact ⟨_, rfl, post_of_under (pa := []) (pv := []) hW' (fun _ _ _ => (trodAll_cons_mk (shut_bool Try.underlying4 _) trodAll_mk0)) (fun sp _ => (trodAll_cons_mk (shut_int Try.underlying2 w0) (trodAll_cons_mk (shut_int Try.underlying2 w1) (trodAll_cons_mk (shut_int Try.underlying2 w2) trodAll_mk0)))) (fun _ _ => rfl) rfl
    hg (ok_one (by kernel_rfl) rfl (okWide_bool_mk Try.underlying4 _))⟩
theorem over : Rows.fixOrdersRow.holds Try.pinned (OpenSpec.ofChange Rows.fixOrdersSpec) :=
  OpenClaim.holds_of_wide 3 Try.f3 rfl rfl rfl rfl rfl rfl rfl ⟨rfl, rfl, rfl, rfl, rfl⟩ rfl rfl rfl rfl rfl (by kernel_rfl) Try.func3 (by kernel_rfl)
    (of_decide_eq_true (by kernel_rfl)) (by unfold Func.isWrapper; first | (rw [if_pos (by decide +kernel)]; kernel_rfl) | (rw [if_neg (by decide +kernel)]; exact ⟨rfl, rfl⟩))
    (fun os started H enc _ => lifted os started H enc)
theorem proved : Rows.FixOrdersSaid := over
end Go.Proofs.Ytbmbapklbnhnpab.fixOrders
