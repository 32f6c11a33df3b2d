/- DequeNil is true of every number of rows, every room, every row and every member, and changes nothing that it was given. -/
import Derived.Test.YtgjfigjebojjdaaDall
import Derived.Test.YtgjfigjebojjdaaRowb
import Derived.Test.YtgjfigjebojjdaaRows
import Derived.WalkKit
import Derived.ProofKit
import Derived.OpenShut
import Derived.Deep.DeepCutAuto
namespace Go.Proofs.Ytgjfigjebojjdaa.dequeNil
open Go.ChangeShapes Go.WideShapes Go.ChangeAt Go.RowKit
set_option linter.unusedVariables false
theorem own : ownKnob Try.prog.godebug = none := by kernel_rfl
theorem laidOut : laidOutB Try.prog = true := by kernel_rfl
theorem reads : (Try.f11.params.toList.all fun t => Try.prog.readableRec t && decide (t < Try.prog.types.size)) = true := by kernel_rfl
def Fit (n m : Int) : Prop := (1 ≤ n ∧ n ≤ 8) ∧ 1 ≤ m ∧ m ≤ 1024
theorem fit_cases (n m : Int) : (n ≤ 0 ∧ ¬ Fit n m) ∨ (0 < n ∧ 8 < n ∧ ¬ Fit n m) ∨ (0 < n ∧ n ≤ 8 ∧ m ≤ 0 ∧ ¬ Fit n m) ∨ (0 < n ∧ n ≤ 8 ∧ 0 < m ∧ 1024 < m ∧ ¬ Fit n m) ∨ (0 < n ∧ n ≤ 8 ∧ 0 < m ∧ m ≤ 1024 ∧ Fit n m) := by
  unfold Fit; omega
instance (n m : Int) : Decidable (Fit n m) := by unfold Fit; infer_instance
theorem right_any (n m : Int) (w : World) (n0 : -9223372036854775808 ≤ n) (n1 : n ≤ 9223372036854775807) (m0 : -9223372036854775808 ≤ m) (m1 : m ≤ 9223372036854775807) :
    Calls Try.prog 48 #[.int .i64 n, .int .i64 m] w fun e w' => e = .returned (.bool (decide (Fit n m))) ∧ w = w' := by
  rcases fit_cases n m with ⟨h1, hF⟩ | ⟨h1, h2, hF⟩ | ⟨h1, h2, h3, hF⟩ | ⟨h1, h2, h3, h4, hF⟩ | ⟨h1, h2, h3, h4, hF⟩
  all_goals
    first | rw [decide_eq_false hF] | rw [decide_eq_true hF]
    clear hF
    go_enter Try.func48, Try.ntmps48
    go_wp2
    go_ret
    first | exact ⟨rfl, rfl⟩ | (refine ⟨?_, rfl⟩; simp; omega)
theorem dnew_no (n m : Int) (w : World) (hn : ¬ Fit n m) (n0 : -9223372036854775808 ≤ n) (n1 : n ≤ 9223372036854775807) (m0 : -9223372036854775808 ≤ m) (m1 : m ≤ 9223372036854775807) :
    Calls Try.prog 33 #[.int .i64 n, .int .i64 m] w fun e w' => e = .returned (.tuple #[.pointer none, .int .i64 1]) ∧ w = w' := by
  rcases fit_cases n m with ⟨h1, hF⟩ | ⟨h1, h2, hF⟩ | ⟨h1, h2, h3, hF⟩ | ⟨h1, h2, h3, h4, hF⟩ | ⟨h1, h2, h3, h4, hF⟩
  all_goals first
    | exact absurd hF hn
    | (clear hF hn
       go_enter Try.func33, Try.ntmps33
       go_wp2
       go_ret2
       exact ⟨rfl, rfl⟩)
set_option maxHeartbeats 4000000 in
theorem walk (n m r i : Int) (w : World) (n0 : -9223372036854775808 ≤ n) (n1 : n ≤ 9223372036854775807) (m0 : -9223372036854775808 ≤ m) (m1 : m ≤ 9223372036854775807)
    (r0 : -9223372036854775808 ≤ r) (r1 : r ≤ 9223372036854775807) (i0 : -9223372036854775808 ≤ i) (i1 : i ≤ 9223372036854775807) :
    Calls Try.prog 11 #[.int .i64 n, .int .i64 m, .int .i64 r, .int .i64 i] w fun e w' => e = .returned (.bool true) ∧ Below w.heap.size w w' := by
  have hb := Below.refl w.heap.size w
  by_cases hF : Fit n m
  · have hr := decide_eq_true hF
    have HR := Lib.hid hr
    clear hr
    unfold Fit at hF
    obtain ⟨N, rfl⟩ : ∃ k : Nat, n = (k : Int) := ⟨n.toNat, by omega⟩
    obtain ⟨M, rfl⟩ : ∃ k : Nat, m = (k : Int) := ⟨m.toNat, by omega⟩
    have k0 : 1 ≤ N := by omega
    have k1 : N ≤ 8 := by omega
    have k2 : 1 ≤ M := by omega
    have k3 : M ≤ 1024 := by omega
    clear hF
    go_enter Try.func11, Try.ntmps11
    go_wp2_with (first
      | (go_at_call 32; refine (awaked _).mono ?_; rintro e w1 ⟨rfl, hb1⟩)
      | (go_at_call 33; refine (dnew_yes N M _ k0 k1 k2 k3).mono ?_; rintro e w1' ⟨p, a, b, rfl, _, _, _, _, hb1'⟩; replace hb1 := hb1.trans (hb1'.mono hb1.size); clear hb1')
      | (go_at_call 44; refine (dfront_nil _ _).mono ?_; rintro e wn ⟨rfl, rfl⟩)
      | (go_at_call 45; refine (dback_nil _ _).mono ?_; rintro e wn ⟨rfl, rfl⟩)
      | (go_at_call 48; refine (right_any _ _ _ n0 n1 m0 m1).mono ?_; rintro e wn ⟨rfl, rfl⟩; rw [HR.out])
      | (go_at_call 35; refine (push_nil _ _ _).mono ?_; rintro e wn ⟨rfl, rfl⟩)
      | (go_at_call 37; refine (rem_nil _ _).mono ?_; rintro e wn ⟨rfl, rfl⟩)
      | (go_at_call 40; refine (dwhere_nil _ _).mono ?_; rintro e wn ⟨rfl, rfl⟩)
      | (go_at_call 46; refine (dlen_nil _ _).mono ?_; rintro e wn ⟨rfl, rfl⟩)
      | (go_at_call 47; refine (all_made none r true _).mono ?_; rintro e w2 ⟨rfl, hA, hb2, hs2⟩; have HA := Lib.hid hA; have HS := Lib.hid hs2; have HB2 := Lib.hid hb2; clear hA hs2 hb2)
      | (go_at_call 49; refine (nil_collect (back := true) _ (by rw [HS.out]; omega) HA.out).mono ?_; rintro e w3 ⟨v, rfl, ho, hb3⟩; obtain ⟨Av, cv, rfl⟩ := own_form ho; have HB3 := Lib.hid hb3; clear hb3 ho))
    go_ret
    exact ⟨rfl, (hb1.trans (HB2.out.mono hb1.size)).trans (HB3.out.mono (by have := hb1.size; have := HB2.out.size; omega))⟩
  · have hr := decide_eq_false hF
    have HR := Lib.hid hr
    have HN := Lib.hid hF
    clear hr hF
    go_enter Try.func11, Try.ntmps11
    go_wp2_with (first
      | (go_at_call 32; refine (awaked _).mono ?_; rintro e w1 ⟨rfl, hb1⟩)
      | (go_at_call 33; refine (dnew_no _ _ _ HN.out n0 n1 m0 m1).mono ?_; rintro e wn ⟨rfl, rfl⟩)
      | (go_at_call 44; refine (dfront_nil _ _).mono ?_; rintro e wn ⟨rfl, rfl⟩)
      | (go_at_call 45; refine (dback_nil _ _).mono ?_; rintro e wn ⟨rfl, rfl⟩)
      | (go_at_call 48; refine (right_any _ _ _ n0 n1 m0 m1).mono ?_; rintro e wn ⟨rfl, rfl⟩; rw [HR.out])
      | (go_at_call 35; refine (push_nil _ _ _).mono ?_; rintro e wn ⟨rfl, rfl⟩)
      | (go_at_call 37; refine (rem_nil _ _).mono ?_; rintro e wn ⟨rfl, rfl⟩)
      | (go_at_call 40; refine (dwhere_nil _ _).mono ?_; rintro e wn ⟨rfl, rfl⟩)
      | (go_at_call 46; refine (dlen_nil _ _).mono ?_; rintro e wn ⟨rfl, rfl⟩)
      | (go_at_call 47; refine (all_made none r true _).mono ?_; rintro e w2 ⟨rfl, hA, hb2, hs2⟩; have HA := Lib.hid hA; have HS := Lib.hid hs2; have HB2 := Lib.hid hb2; clear hA hs2 hb2)
      | (go_at_call 49; refine (nil_collect (back := true) _ (by rw [HS.out]; omega) HA.out).mono ?_; rintro e w3 ⟨v, rfl, ho, hb3⟩; obtain ⟨Av, cv, rfl⟩ := own_form ho; have HB3 := Lib.hid hb3; clear hb3 ho))
    go_ret
    exact ⟨rfl, (hb1.trans (HB2.out.mono hb1.size)).trans (HB3.out.mono (by have := hb1.size; have := HB2.out.size; omega))⟩
set_option maxRecDepth 100000 in
theorem lifted (os : Os) (started : os.Started) (H : Type) (enc : TypeId × Value → H) :
    ReturnsInHanded {} Try.checked os 11 .any (Rows.dequeNilSpec.pre6 enc Try.prog Try.f11 Rows.dequeNilRow.domain false) (Rows.dequeNilSpec.post enc Try.prog Try.f11 false true false false) := by
  refine returnsInHanded_of_change (C := Try.checked) own started (by kernel_rfl) Try.func11
    (ChangeSpec.witness6 (enc := enc) (C := Try.checked) false ⟨#[], #[.int .i64 0, .int .i64 0, .int .i64 0, .int .i64 0], []⟩ 8 (by kernel_rfl) (by kernel_rfl) (by kernel_rfl) (by kernel_rfl)) ?_
  intro W base args ds gs before hval0 hW hcnd _
  have hval : ∀ (j : Nat) t v, Try.f11.params[j]? = some t → args[j]? = some v → Value.okWide Try.prog W .any base t v := hval0
  have hW' := hW
  obtain ⟨p, q, hA0, hV, rfl, hfz, hnd⟩ := hW
  have hA : DataW.TrodAll enc Try.prog W 0 (fun _ => true) true Try.f11.params.toList args.toList ds p := hA0
  rw [Try.params11] at hA hval
  obtain ⟨v0, vs0, d0, ds0, p0, q0, hargs, rfl, rfl, h0, r0⟩ := trodAll_cons hA
  obtain ⟨v1, vs1, d1, ds1, p1, q1, rfl, rfl, rfl, h1, r1⟩ := trodAll_cons r0
  obtain ⟨v2, vs2, d2, ds2, p2, q2, rfl, rfl, rfl, h2, r2⟩ := trodAll_cons r1
  obtain ⟨v3, vs3, d3, ds3, p3, q3, rfl, rfl, rfl, h3, r3⟩ := trodAll_cons r2
  obtain ⟨rfl, rfl, rfl⟩ := trodAll_nil r3
  obtain rfl : args = #[v0, v1, v2, v3] := by cases args; simp_all
  obtain ⟨rfl, rfl⟩ := trodVars_none hV
  obtain ⟨a0, rfl, rfl, rfl, w0⟩ := open_int Try.underlying3 (hval 0 _ v0 rfl rfl) h0
  obtain ⟨a1, rfl, rfl, rfl, w1⟩ := open_int Try.underlying3 (hval 1 _ v1 rfl rfl) h1
  obtain ⟨a2, rfl, rfl, rfl, w2⟩ := open_int Try.underlying3 (hval 2 _ v2 rfl rfl) h2
  obtain ⟨a3, rfl, rfl, rfl, w3⟩ := open_int Try.underlying3 (hval 3 _ v3 rfl rfl) h3
  clear hA0 hval0
  obtain ⟨l0, m0⟩ := wf_i64 w0
  obtain ⟨l1, m1⟩ := wf_i64 w1
  obtain ⟨l2, m2⟩ := wf_i64 w2
  obtain ⟨l3, m3⟩ := wf_i64 w3
  refine (walk a0 a1 a2 a3 W l0 m0 l1 m1 l2 m2 l3 m3).mono fun e W' ⟨he, hg⟩ => ?_
  subst he
  exact ⟨_, rfl, post_of_law hW' rfl laidOut reads rfl Try.underlying4 rfl rfl rfl hg⟩
theorem over : Rows.dequeNilRow.holds Try.pinned (OpenSpec.ofChange Rows.dequeNilSpec) :=
  OpenClaim.holds_of_wide 11 Try.f11 rfl rfl rfl rfl rfl rfl rfl ⟨rfl, rfl, rfl, rfl, rfl⟩ rfl rfl rfl rfl rfl (by kernel_rfl) Try.func11 (by kernel_rfl)
    (of_decide_eq_true (by kernel_rfl)) (by unfold Func.isWrapper; first | (rw [if_pos (by decide +kernel)]; kernel_rfl) | (rw [if_neg (by decide +kernel)]; exact ⟨rfl, rfl⟩))
    (fun os started H enc _ => lifted os started H enc)
theorem proved : Rows.DequeNilSaid := over
end Go.Proofs.Ytgjfigjebojjdaa.dequeNil
