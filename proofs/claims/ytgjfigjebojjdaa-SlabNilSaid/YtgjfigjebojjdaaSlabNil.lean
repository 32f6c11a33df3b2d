/- SlabNil is true of every room, every handle and every request, and changes nothing that it was given. -/
import Derived.Test.YtgjfigjebojjdaaSlabc
import Derived.Test.YtgjfigjebojjdaaRowb
import Derived.Test.YtgjfigjebojjdaaRows
import Derived.WalkKit
import Derived.ProofKit
import Derived.OpenShut
import Derived.Deep.DeepCutAuto
namespace Go.Proofs.Ytgjfigjebojjdaa.slabNil
open Go.ChangeShapes Go.WideShapes Go.ChangeAt Go.RowKit
set_option linter.unusedVariables false
theorem own : ownKnob Try.prog.godebug = none := by kernel_rfl
theorem laidOut : laidOutB Try.prog = true := by kernel_rfl
theorem reads : (Try.f7.params.toList.all fun t => Try.prog.readableRec t && decide (t < Try.prog.types.size)) = true := by kernel_rfl
theorem right_any (n : Int) (w : World) (n0 : -9223372036854775808 ≤ n) (n1 : n ≤ 9223372036854775807) :
    Calls Try.prog 31 #[.int .i64 n] w fun e w' => e = .returned (.bool (decide (1 ≤ n ∧ n ≤ 1024))) ∧ w = w' := by
  by_cases h : 0 < n
  · by_cases h2 : n ≤ 1024
    · rw [decide_eq_true (show 1 ≤ n ∧ n ≤ 1024 by omega)]
      go_enter Try.func31, Try.ntmps31
      go_wp2
      go_ret
      exact ⟨rfl, rfl⟩
    · rw [decide_eq_false (show ¬ (1 ≤ n ∧ n ≤ 1024) by omega)]
      go_enter Try.func31, Try.ntmps31
      go_wp2
      go_ret
      exact ⟨rfl, rfl⟩
  · rw [decide_eq_false (show ¬ (1 ≤ n ∧ n ≤ 1024) by omega)]
    go_enter Try.func31, Try.ntmps31
    go_wp2
    go_ret
    exact ⟨rfl, rfl⟩
set_option maxHeartbeats 4000000 in
theorem walk (n h a b c d e : Int) (w : World) (n0 : -9223372036854775808 ≤ n) (n1 : n ≤ 9223372036854775807) (h0 : 0 ≤ h) (h1 : h ≤ 18446744073709551615)
    (a0 : 0 ≤ a) (a1 : a ≤ 18446744073709551615) (b0 : -9223372036854775808 ≤ b) (b1 : b ≤ 9223372036854775807) (c0 : -9223372036854775808 ≤ c) (c1 : c ≤ 9223372036854775807) (d0 : -9223372036854775808 ≤ d) (d1 : d ≤ 9223372036854775807) (e0 : -9223372036854775808 ≤ e) (e1 : e ≤ 9223372036854775807) :
    Calls Try.prog 7 #[.int .i64 n, .int .u64 h, .agg #[.int .u64 a, .int .i64 b, .int .i64 c, .int .i64 d, .int .i64 e]] w fun e w' => e = .returned (.bool true) ∧ Below w.heap.size w w' := by
  have hb := Below.refl w.heap.size w
  have bx := Blk.made w 44 #[.int .u64 a, .int .i64 b, .int .i64 c, .int .i64 d, .int .i64 e]
  by_cases hn : n < 1 ∨ 1024 < n
  · have hr := decide_eq_false (show ¬ (1 ≤ n ∧ n ≤ 1024) by omega)
    have HR := Lib.hid hr
    have HN := Lib.hid hn
    clear hr hn
    go_enter Try.func7, Try.ntmps7
    go_wp2_with (first
      | (go_at_call 18; refine (awakes _).mono ?_; rintro e wn ⟨rfl, hbn⟩; replace bx := bx.below_ hbn bx.size; have q0 : wn.cell? ⟨w.heap.size, 0, none⟩ = some (.int .u64 a) := bx.val (i := 0) rfl; have q1 : wn.cell? ⟨w.heap.size, 1, none⟩ = some (.int .i64 b) := bx.val (i := 1) rfl; have q2 : wn.cell? ⟨w.heap.size, 2, none⟩ = some (.int .i64 c) := bx.val (i := 2) rfl; have q3 : wn.cell? ⟨w.heap.size, 3, none⟩ = some (.int .i64 d) := bx.val (i := 3) rfl; have q4 : wn.cell? ⟨w.heap.size, 4, none⟩ = some (.int .i64 e) := bx.val (i := 4) rfl; replace hb := (show Below w.heap.size w _ from by (repeat (first | exact hb | apply Below.drew | refine Below.setCell ?_ (by have := hb.size; (try simp at this); (try simp); (try omega)) _ | refine Below.alloc ?_ (by have := hb.size; (try simp at this); (try simp); (try omega)) _))).trans (hbn.mono (by have := hb.size; (try simp at this); (try simp); (try omega))); clear hbn)
      | (go_at_call 19; refine (slnew_no _ _ HN.out n0 n1).mono ?_; rintro e wn ⟨rfl, rfl⟩)
      | (go_at_call 21; refine (sltake_nil _ _ _ _ _ _).mono ?_; rintro e wn ⟨rfl, hbn⟩; replace hb := (show Below w.heap.size w _ from by (repeat (first | exact hb | apply Below.drew | refine Below.setCell ?_ (by have := hb.size; (try simp at this); (try simp); (try omega)) _ | refine Below.alloc ?_ (by have := hb.size; (try simp at this); (try simp); (try omega)) _))).trans (hbn.mono (by have := hb.size; (try simp at this); (try simp); (try omega))); clear hbn)
      | (go_at_call 25; refine (slget_nil _ _).mono ?_; rintro e wn ⟨rfl, hbn⟩; simp only [rqv]; replace hb := (show Below w.heap.size w _ from by (repeat (first | exact hb | apply Below.drew | refine Below.setCell ?_ (by have := hb.size; (try simp at this); (try simp); (try omega)) _ | refine Below.alloc ?_ (by have := hb.size; (try simp at this); (try simp); (try omega)) _))).trans (hbn.mono (by have := hb.size; (try simp at this); (try simp); (try omega))); clear hbn)
      | (go_at_call 31; refine (right_any _ _ n0 n1).mono ?_; rintro e wn ⟨rfl, rfl⟩; rw [HR.out])
      | (go_at_call 23; refine (slfree_nil _ _).mono ?_; rintro e wn ⟨rfl, rfl⟩)
      | (go_at_call 27; refine (sllen_nil _).mono ?_; rintro e wn ⟨rfl, rfl⟩)
      | (go_at_call 29; refine (slroom_nil _).mono ?_; rintro e wn ⟨rfl, rfl⟩)
      | (go_at_call 30; refine (slcell_any _ _ h0 h1).mono ?_; rintro e wn ⟨rfl, rfl⟩))
    go_ret
    exact ⟨rfl, (by (repeat (first | exact hb | apply Below.drew | refine Below.setCell ?_ (by have := hb.size; (try simp at this); (try simp); (try omega)) _ | refine Below.alloc ?_ (by have := hb.size; (try simp at this); (try simp); (try omega)) _)))⟩
  · have hr := decide_eq_true (show 1 ≤ n ∧ n ≤ 1024 by omega)
    have HR := Lib.hid hr
    clear hr
    obtain ⟨k, rfl⟩ : ∃ k : Nat, n = (k : Int) := ⟨n.toNat, by omega⟩
    have k0 : 1 ≤ k := by omega
    have k1 : k ≤ 1024 := by omega
    clear hn
    go_enter Try.func7, Try.ntmps7
    go_wp2_with (first
      | (go_at_call 18; refine (awakes _).mono ?_; rintro e wn ⟨rfl, hbn⟩; replace bx := bx.below_ hbn bx.size; have q0 : wn.cell? ⟨w.heap.size, 0, none⟩ = some (.int .u64 a) := bx.val (i := 0) rfl; have q1 : wn.cell? ⟨w.heap.size, 1, none⟩ = some (.int .i64 b) := bx.val (i := 1) rfl; have q2 : wn.cell? ⟨w.heap.size, 2, none⟩ = some (.int .i64 c) := bx.val (i := 2) rfl; have q3 : wn.cell? ⟨w.heap.size, 3, none⟩ = some (.int .i64 d) := bx.val (i := 3) rfl; have q4 : wn.cell? ⟨w.heap.size, 4, none⟩ = some (.int .i64 e) := bx.val (i := 4) rfl; replace hb := (show Below w.heap.size w _ from by (repeat (first | exact hb | apply Below.drew | refine Below.setCell ?_ (by have := hb.size; (try simp at this); (try simp); (try omega)) _ | refine Below.alloc ?_ (by have := hb.size; (try simp at this); (try simp); (try omega)) _))).trans (hbn.mono (by have := hb.size; (try simp at this); (try simp); (try omega))); clear hbn)
      | (go_at_call 19; refine (slnew_yes k _ k0 k1).mono ?_; rintro e wn ⟨p, c9, f, rfl, _, _, _, _, hbn⟩; replace bx := bx.below_ hbn bx.size; have q0 : wn.cell? ⟨w.heap.size, 0, none⟩ = some (.int .u64 a) := bx.val (i := 0) rfl; have q1 : wn.cell? ⟨w.heap.size, 1, none⟩ = some (.int .i64 b) := bx.val (i := 1) rfl; have q2 : wn.cell? ⟨w.heap.size, 2, none⟩ = some (.int .i64 c) := bx.val (i := 2) rfl; have q3 : wn.cell? ⟨w.heap.size, 3, none⟩ = some (.int .i64 d) := bx.val (i := 3) rfl; have q4 : wn.cell? ⟨w.heap.size, 4, none⟩ = some (.int .i64 e) := bx.val (i := 4) rfl; replace hb := (show Below w.heap.size w _ from by (repeat (first | exact hb | apply Below.drew | refine Below.setCell ?_ (by have := hb.size; (try simp at this); (try simp); (try omega)) _ | refine Below.alloc ?_ (by have := hb.size; (try simp at this); (try simp); (try omega)) _))).trans (hbn.mono (by have := hb.size; (try simp at this); (try simp); (try omega))); clear hbn)
      | (go_at_call 21; refine (sltake_nil _ _ _ _ _ _).mono ?_; rintro e wn ⟨rfl, hbn⟩; replace hb := (show Below w.heap.size w _ from by (repeat (first | exact hb | apply Below.drew | refine Below.setCell ?_ (by have := hb.size; (try simp at this); (try simp); (try omega)) _ | refine Below.alloc ?_ (by have := hb.size; (try simp at this); (try simp); (try omega)) _))).trans (hbn.mono (by have := hb.size; (try simp at this); (try simp); (try omega))); clear hbn)
      | (go_at_call 25; refine (slget_nil _ _).mono ?_; rintro e wn ⟨rfl, hbn⟩; simp only [rqv]; replace hb := (show Below w.heap.size w _ from by (repeat (first | exact hb | apply Below.drew | refine Below.setCell ?_ (by have := hb.size; (try simp at this); (try simp); (try omega)) _ | refine Below.alloc ?_ (by have := hb.size; (try simp at this); (try simp); (try omega)) _))).trans (hbn.mono (by have := hb.size; (try simp at this); (try simp); (try omega))); clear hbn)
      | (go_at_call 31; refine (right_any _ _ n0 n1).mono ?_; rintro e wn ⟨rfl, rfl⟩; rw [HR.out])
      | (go_at_call 23; refine (slfree_nil _ _).mono ?_; rintro e wn ⟨rfl, rfl⟩)
      | (go_at_call 27; refine (sllen_nil _).mono ?_; rintro e wn ⟨rfl, rfl⟩)
      | (go_at_call 29; refine (slroom_nil _).mono ?_; rintro e wn ⟨rfl, rfl⟩)
      | (go_at_call 30; refine (slcell_any _ _ h0 h1).mono ?_; rintro e wn ⟨rfl, rfl⟩))
    go_ret
    exact ⟨rfl, (by (repeat (first | exact hb | apply Below.drew | refine Below.setCell ?_ (by have := hb.size; (try simp at this); (try simp); (try omega)) _ | refine Below.alloc ?_ (by have := hb.size; (try simp at this); (try simp); (try omega)) _)))⟩
set_option maxRecDepth 100000 in
theorem lifted (os : Os) (started : os.Started) (H : Type) (enc : TypeId × Value → H) :
    ReturnsInHanded {} Try.checked os 7 .any (Rows.slabNilSpec.pre6 enc Try.prog Try.f7 Rows.slabNilRow.domain false) (Rows.slabNilSpec.post enc Try.prog Try.f7 false true false false) := by
  refine returnsInHanded_of_change (C := Try.checked) own started (by kernel_rfl) Try.func7
    (ChangeSpec.witness6 (enc := enc) (C := Try.checked) false ⟨#[], #[.int .i64 0, .int .u64 0, .agg #[.int .u64 0, .int .i64 0, .int .i64 0, .int .i64 0, .int .i64 0]], []⟩ 8 (by kernel_rfl) (by kernel_rfl) (by kernel_rfl) (by kernel_rfl)) ?_
  intro W base args ds gs before hval0 hW hcnd _
  have hval : ∀ (j : Nat) t v, Try.f7.params[j]? = some t → args[j]? = some v → Value.okWide Try.prog W .any base t v := hval0
  have hW' := hW
  obtain ⟨p, q, hA0, hV, rfl, hfz, hnd⟩ := hW
  have hA : DataW.TrodAll enc Try.prog W 0 (fun _ => true) true Try.f7.params.toList args.toList ds p := hA0
  rw [Try.params7] at hA hval
  obtain ⟨v0, vs0, d0, ds0, p0, q0, hargs, rfl, rfl, h0, r0⟩ := trodAll_cons hA
  obtain ⟨v1, vs1, d1, ds1, p1, q1, rfl, rfl, rfl, h1, r1⟩ := trodAll_cons r0
  obtain ⟨v2, vs2, d2, ds2, p2, q2, rfl, rfl, rfl, h2, r2⟩ := trodAll_cons r1
  obtain ⟨rfl, rfl, rfl⟩ := trodAll_nil r2
  obtain rfl : args = #[v0, v1, v2] := by cases args; simp_all
  obtain ⟨rfl, rfl⟩ := trodVars_none hV
  obtain ⟨a0, rfl, rfl, rfl, w0⟩ := open_int Try.underlying3 (hval 0 _ v0 rfl rfl) h0
  obtain ⟨a1, rfl, rfl, rfl, w1⟩ := open_int Try.underlying23 (hval 1 _ v1 rfl rfl) h1
  obtain ⟨x20, x21, x22, x23, x24, y20, y21, y22, y23, y24, n2, rfl, g20, g21, g22, g23, g24⟩ := open_five Try.underlying44 (by kernel_rfl) (by kernel_rfl) (hval 2 _ v2 rfl rfl) h2
  obtain ⟨a20, e20, ez20, w20⟩ := DataW.trod_int Try.underlying23 g20
  simp at e20
  subst e20
  obtain ⟨a21, e21, ez21, w21⟩ := DataW.trod_int Try.underlying3 g21
  simp at e21
  subst e21
  obtain ⟨a22, e22, ez22, w22⟩ := DataW.trod_int Try.underlying3 g22
  simp at e22
  subst e22
  obtain ⟨a23, e23, ez23, w23⟩ := DataW.trod_int Try.underlying2 g23
  simp at e23
  subst e23
  obtain ⟨a24, e24, ez24, w24⟩ := DataW.trod_int Try.underlying2 g24
  simp at e24
  subst e24
  clear hA0 hval0
  obtain ⟨l0, m0⟩ := wf_i64 w0
  obtain ⟨l1, m1⟩ := wf_u64 w1
  obtain ⟨l20, m20⟩ := wf_u64 w20
  obtain ⟨l21, m21⟩ := wf_i64 w21
  obtain ⟨l22, m22⟩ := wf_i64 w22
  obtain ⟨l23, m23⟩ := wf_i64 w23
  obtain ⟨l24, m24⟩ := wf_i64 w24
  refine (walk a0 a1 a20 a21 a22 a23 a24 W l0 m0 l1 m1 l20 m20 l21 m21 l22 m22 l23 m23 l24 m24).mono fun e W' ⟨he, hg⟩ => ?_
  subst he
  exact ⟨_, rfl, post_of_law hW' rfl laidOut reads rfl Try.underlying4 rfl rfl rfl hg⟩
theorem over : Rows.slabNilRow.holds Try.pinned (OpenSpec.ofChange Rows.slabNilSpec) :=
  OpenClaim.holds_of_wide 7 Try.f7 rfl rfl rfl rfl rfl rfl rfl ⟨rfl, rfl, rfl, rfl, rfl⟩ rfl rfl rfl rfl rfl (by kernel_rfl) Try.func7 (by kernel_rfl)
    (of_decide_eq_true (by kernel_rfl)) (by unfold Func.isWrapper; first | (rw [if_pos (by decide +kernel)]; kernel_rfl) | (rw [if_neg (by decide +kernel)]; exact ⟨rfl, rfl⟩))
    (fun os started H enc _ => lifted os started H enc)
theorem proved : Rows.SlabNilSaid := over
end Go.Proofs.Ytgjfigjebojjdaa.slabNil
