/- LockNil is true of every number, every call and every answer, and changes nothing that it was given. -/
import Derived.Test.YtocgflhecnkcfaaLkd
import Derived.Test.YtocgflhecnkcfaaLke
import Derived.Test.YtocgflhecnkcfaaRowb
import Derived.Test.YtocgflhecnkcfaaRows
import Derived.WalkKit
import Derived.ProofKit
import Derived.OpenShut
import Derived.Deep.DeepCutAuto
namespace Go.Proofs.Ytocgflhecnkcfaa.lockNil
open Go.ChangeShapes Go.WideShapes Go.ChangeAt Go.RowKit
set_option linter.unusedVariables false
theorem own : ownKnob Try.prog.godebug = none := by kernel_rfl
theorem laidOut : laidOutB Try.prog = true := by kernel_rfl
theorem reads : (Try.f6.params.toList.all fun t => Try.prog.readableRec t && decide (t < Try.prog.types.size)) = true := by kernel_rfl
set_option maxRecDepth 100000 in
set_option maxHeartbeats 8000000 in
theorem walk (id k t c n a tk t2 c2 s : Int) (w : World) (i0 : -9223372036854775808 ≤ id) (i1 : id ≤ 9223372036854775807)
    (k0 : 0 ≤ k) (k1 : k ≤ 255) (t0 : -9223372036854775808 ≤ t) (t1 : t ≤ 9223372036854775807) (c0 : -9223372036854775808 ≤ c) (c1 : c ≤ 9223372036854775807) (n0 : -9223372036854775808 ≤ n) (n1 : n ≤ 9223372036854775807)
    (a0 : 0 ≤ a) (a1 : a ≤ 255) (tk0 : 0 ≤ tk) (tk1 : tk ≤ 18446744073709551615) (t20 : -9223372036854775808 ≤ t2) (t21 : t2 ≤ 9223372036854775807) (c20 : -9223372036854775808 ≤ c2) (c21 : c2 ≤ 9223372036854775807) (s0 : -9223372036854775808 ≤ s) (s1 : s ≤ 9223372036854775807) :
    Calls Try.prog 6 #[.int .i64 id, .agg #[.int .u8 k, .int .i64 t, .int .i64 c, .int .i64 n], .agg #[.int .u8 a, .int .u64 tk, .int .i64 t2, .int .i64 c2, .int .i64 s]] w fun e w' => e = .returned (.bool true) ∧ Below w.heap.size w w' := by
  clear k0 k1 t0 t1 c0 c1 n0 n1 a0 a1 tk0 tk1 t20 t21 c20 c21 s0 s1
  go_enter Try.func6, Try.ntmps6
  go_upto_region 1 with fail
  refine wp_worldx (fun wx => Blk wx w.heap.size 46 (opRow ⟨k, t, c, n⟩).toArray ∧ Blk wx (w.heap.size + 1) 47 (reRow ⟨a, tk, t2, c2, s⟩).toArray ∧ Below w.heap.size w wx) ⟨Blk.alloc_ (Blk.made _ _ _) _, Blk.new_ (by simp), by repeat (first | with_reducible exact Below.refl _ _ | refine Below.alloc ?_ (by simp) _)⟩ ?_
  obtain ⟨g, hg⟩ : ∃ g, w.heap.size = g := ⟨_, rfl⟩
  rw [hg]
  rintro w0 ⟨h1, h2, h3⟩
  have H1 := Lib.hid h1
  have H2 := Lib.hid h2
  have H3 := Lib.hid (show Below w.heap.size w w0 from by rw [hg]; exact h3)
  clear h1 h2 h3
  go_wp2_with fail
  refine (awake19 _).mono ?_
  rintro e w1 ⟨rfl, hb⟩
  have H1' := Lib.hid (H1.out.below_ hb H1.out.size)
  have H2' := Lib.hid (H2.out.below_ hb H2.out.size)
  have H3' := Lib.hid (H3.out.trans (hb.mono H3.out.size))
  clear hb H1 H2 H3
  go_upto_region 8 with (first | (go_at_call 13; refine (ln_owner _).mono ?_; rintro e w2 ⟨rfl, rfl⟩) | (go_at_call 17; refine (bn_op _).mono ?_; rintro e w2 ⟨rfl, hb2⟩) | (go_at_call 20; refine (bn_col _).mono ?_; rintro e w3 ⟨rfl, hb3⟩))
  refine wp_worldx (fun wx => Blk wx g 46 (opRow ⟨k, t, c, n⟩).toArray ∧ Blk wx (g + 1) 47 (reRow ⟨a, tk, t2, c2, s⟩).toArray ∧ Below w.heap.size w wx) ⟨Blk.alloc_ (((Blk.alloc_ (H1'.out.below_ hb2 H1'.out.size) _)).below_ hb3 (by have := hb2.size; have := H1'.out.size; simp; omega)) _, Blk.alloc_ (((Blk.alloc_ (H2'.out.below_ hb2 H2'.out.size) _)).below_ hb3 (by have := hb2.size; have := H2'.out.size; simp; omega)) _, ?_⟩ ?_
  · have h2 := (H3'.out.trans (hb2.mono H3'.out.size))
    have h2' := h2.alloc (h2.size) (.cells #[.int .u8 op0.k, .int .i64 op0.t, .int .i64 op0.c, .int .i64 op0.n] 46)
    have h3 := h2'.trans (hb3.mono h2'.size)
    exact h3.alloc h3.size _
  clear hb2 hb3 H1' H2' H3'
  rintro w4 ⟨h1, h2, h3⟩
  have H2 := Lib.hid h2
  have H3 := Lib.hid h3
  have y0 : w4.cell? ⟨g, 0, none⟩ = some (.int .u8 k) := h1.val (i := 0) rfl
  have y1 : w4.cell? ⟨g, 1, none⟩ = some (.int .i64 t) := h1.val (i := 1) rfl
  have y2 : w4.cell? ⟨g, 2, none⟩ = some (.int .i64 c) := h1.val (i := 2) rfl
  have y3 : w4.cell? ⟨g, 3, none⟩ = some (.int .i64 n) := h1.val (i := 3) rfl
  clear h1 h2 h3
  go_wp2_with (first | (go_at_call 9; refine (ln_try _ _).mono ?_; rintro e w2 ⟨rfl, rfl⟩) | (go_at_call 11; refine (ln_free _ _).mono ?_; rintro e w2 ⟨rfl, rfl⟩))
  refine (bn_post ⟨k, t, c, n⟩ _).mono ?_
  rintro e w5 ⟨rfl, hb5⟩
  have h5 := H2.out.below_ hb5 H2.out.size
  have z0 : w5.cell? ⟨g + 1, 0, none⟩ = some (.int .u8 a) := h5.val (i := 0) rfl
  have z1 : w5.cell? ⟨g + 1, 1, none⟩ = some (.int .u64 tk) := h5.val (i := 1) rfl
  have z2 : w5.cell? ⟨g + 1, 2, none⟩ = some (.int .i64 t2) := h5.val (i := 2) rfl
  have z3 : w5.cell? ⟨g + 1, 3, none⟩ = some (.int .i64 c2) := h5.val (i := 3) rfl
  have z4 : w5.cell? ⟨g + 1, 4, none⟩ = some (.int .i64 s) := h5.val (i := 4) rfl
  have H5 := Lib.hid (H3.out.trans (hb5.mono H3.out.size))
  clear h5 hb5 H3 H2 y0 y1 y2 y3
  go_wp2_with fail
  refine (bn_fin ⟨a, tk, t2, c2, s⟩ _).mono ?_
  rintro e w6 ⟨rfl, hb6⟩
  have H6 := Lib.hid (H5.out.trans (hb6.mono H5.out.size))
  clear hb6 H5 z0 z1 z2 z3 z4
  go_wp2_with (go_at_call 22; refine (bn_state _).mono ?_; rintro e w2 ⟨rfl, rfl⟩)
  go_ret
  exact ⟨rfl, H6.out⟩
set_option maxRecDepth 100000 in
theorem lifted (os : Os) (started : os.Started) (H : Type) (enc : TypeId × Value → H) :
    ReturnsInHanded {} Try.checked os 6 .any (Rows.lockNilSpec.pre6 enc Try.prog Try.f6 Rows.lockNilRow.domain false) (Rows.lockNilSpec.post enc Try.prog Try.f6 false true false false) := by
  refine returnsInHanded_of_change (C := Try.checked) own started (by kernel_rfl) Try.func6
    (ChangeSpec.witness6 (enc := enc) (C := Try.checked) false ⟨#[], #[.int .i64 0, .agg #[.int .u8 0, .int .i64 0, .int .i64 0, .int .i64 0], .agg #[.int .u8 0, .int .u64 0, .int .i64 0, .int .i64 0, .int .i64 0]], []⟩ 8 (by kernel_rfl) (by kernel_rfl) (by kernel_rfl) (by kernel_rfl)) ?_
  intro W base args ds gs before hval0 hW hcnd _
  have hval : ∀ (j : Nat) t v, Try.f6.params[j]? = some t → args[j]? = some v → Value.okWide Try.prog W .any base t v := hval0
  have hW' := hW
  obtain ⟨p, q, hA0, hV, rfl, hfz, hnd⟩ := hW
  have hA : DataW.TrodAll enc Try.prog W 0 (fun _ => true) true Try.f6.params.toList args.toList ds p := hA0
  rw [Try.params6] at hA hval
  obtain ⟨v0, vs0, d0, ds0, p0, q0, hargs, rfl, rfl, h0, r0⟩ := trodAll_cons hA
  obtain ⟨v1, vs1, d1, ds1, p1, q1, rfl, rfl, rfl, h1, r1⟩ := trodAll_cons r0
  obtain ⟨v2, vs2, d2, ds2, p2, q2, rfl, rfl, rfl, h2, r2⟩ := trodAll_cons r1
  obtain ⟨rfl, rfl, rfl⟩ := trodAll_nil r2
  obtain rfl : args = #[v0, v1, v2] := by cases args; simp_all
  obtain ⟨rfl, rfl⟩ := trodVars_none hV
  obtain ⟨a0, rfl, rfl, rfl, w0⟩ := open_int Try.underlying3 (hval 0 _ v0 rfl rfl) h0
  obtain ⟨x10, x11, x12, x13, y10, y11, y12, y13, n1, rfl, g10, g11, g12, g13⟩ := open_four Try.underlying46 (by kernel_rfl) (by kernel_rfl) (hval 1 _ v1 rfl rfl) h1
  obtain ⟨a10, e10, ez10, w10⟩ := DataW.trod_int Try.underlying5 g10
  simp at e10
  subst e10
  obtain ⟨a11, e11, ez11, w11⟩ := DataW.trod_int Try.underlying3 g11
  simp at e11
  subst e11
  obtain ⟨a12, e12, ez12, w12⟩ := DataW.trod_int Try.underlying3 g12
  simp at e12
  subst e12
  obtain ⟨a13, e13, ez13, w13⟩ := DataW.trod_int Try.underlying2 g13
  simp at e13
  subst e13
  obtain ⟨x20, x21, x22, x23, x24, y20, y21, y22, y23, y24, n2, rfl, g20, g21, g22, g23, g24⟩ := open_five Try.underlying47 (by kernel_rfl) (by kernel_rfl) (hval 2 _ v2 rfl rfl) h2
  obtain ⟨a20, e20, ez20, w20⟩ := DataW.trod_int Try.underlying5 g20
  simp at e20
  subst e20
  obtain ⟨a21, e21, ez21, w21⟩ := DataW.trod_int Try.underlying41 g21
  simp at e21
  subst e21
  obtain ⟨a22, e22, ez22, w22⟩ := DataW.trod_int Try.underlying3 g22
  simp at e22
  subst e22
  obtain ⟨a23, e23, ez23, w23⟩ := DataW.trod_int Try.underlying3 g23
  simp at e23
  subst e23
  obtain ⟨a24, e24, ez24, w24⟩ := DataW.trod_int Try.underlying2 g24
  simp at e24
  subst e24
  clear hA0 hval0
  obtain ⟨l0, m0⟩ := wf_i64 w0
  obtain ⟨l10, m10⟩ := wf_u8 w10
  obtain ⟨l11, m11⟩ := wf_i64 w11
  obtain ⟨l12, m12⟩ := wf_i64 w12
  obtain ⟨l13, m13⟩ := wf_i64 w13
  obtain ⟨l20, m20⟩ := wf_u8 w20
  obtain ⟨l21, m21⟩ := wf_u64 w21
  obtain ⟨l22, m22⟩ := wf_i64 w22
  obtain ⟨l23, m23⟩ := wf_i64 w23
  obtain ⟨l24, m24⟩ := wf_i64 w24
  refine (walk a0 a10 a11 a12 a13 a20 a21 a22 a23 a24 W l0 m0 l10 m10 l11 m11 l12 m12 l13 m13 l20 m20 l21 m21 l22 m22 l23 m23 l24 m24).mono fun e W' ⟨he, hg⟩ => ?_
  subst he
  exact ⟨_, rfl, post_of_law hW' rfl laidOut reads rfl Try.underlying4 rfl rfl rfl hg⟩
theorem over : Rows.lockNilRow.holds Try.pinned (OpenSpec.ofChange Rows.lockNilSpec) :=
  OpenClaim.holds_of_wide 6 Try.f6 rfl rfl rfl rfl rfl rfl rfl ⟨rfl, rfl, rfl, rfl, rfl⟩ rfl rfl rfl rfl rfl (by kernel_rfl) Try.func6 (by kernel_rfl)
    (of_decide_eq_true (by kernel_rfl)) (by unfold Func.isWrapper; first | (rw [if_pos (by decide +kernel)]; kernel_rfl) | (rw [if_neg (by decide +kernel)]; exact ⟨rfl, rfl⟩))
    (fun os started H enc _ => lifted os started H enc)
theorem proved : Rows.LockNilSaid := over
end Go.Proofs.Ytocgflhecnkcfaa.lockNil
