/- FrontNil is true of every config, every number of a thread, every call and every time, and changes nothing that it was given. -/
import Derived.Test.YtcffeokbipjaoaaGreatMuca
import Derived.Test.YtcffeokbipjaoaaGreatMubz
import Derived.Test.YtcffeokbipjaoaaGreatMual
import Derived.Test.YtcffeokbipjaoaaGreatMuau
import Derived.Test.YtcffeokbipjaoaaGreatMubp
import Derived.Test.YtcffeokbipjaoaaGreatRows
import Derived.WalkKit
import Derived.ProofKit
import Derived.OpenShut
import Derived.Deep.DeepCutAuto
namespace Go.Proofs.YtcffeokbipjaoaaGreat.frontNil
open Go.ChangeShapes Go.WideShapes Go.ChangeAt Go.RowKit
set_option linter.unusedVariables false
theorem own : ownKnob Tryz.prog.godebug = none := by kernel_rfl
theorem laidOut : laidOutB Tryz.prog = true := by kernel_rfl
theorem reads : (Tryz.f4.params.toList.all fun t => Tryz.prog.readableRec t && decide (t < Tryz.prog.types.size)) = true := by kernel_rfl
set_option linter.unusedSimpArgs false
set_option maxRecDepth 100000 in
theorem lifted (os : Os) (started : os.Started) (H : Type) (enc : TypeId × Value → H) :
   ReturnsInHanded {} Tryz.checked os 4 .any (Rows.frontNilSpec.pre6 enc Tryz.prog Tryz.f4 Rows.frontNilRow.domain false) (Rows.frontNilSpec.post enc Tryz.prog Tryz.f4 false true false false) := by
 refine returnsInHanded_of_change (C := Tryz.checked) own started (by kernel_rfl) Tryz.func4
   (ChangeSpec.witness6 (enc := enc) (C := Tryz.checked) false ⟨#[], #[.agg #[.int .i64 0, .int .i64 0, .int .i64 0, .int .i64 0, .int .i64 0, .int .i64 0, .int .i64 0, .int .i64 0, .int .i64 0, .int .i64 0, .int .i64 0, .int .i64 0, .int .i64 0, .int .i64 0, .int .i64 0, .int .i64 0], .int .i64 0, .agg #[.int .u8 0, .int .i64 0, .int .i64 0, .int .i64 0], .int .i64 0], []⟩ 8 (by kernel_rfl) (by kernel_rfl) (by kernel_rfl) (by kernel_rfl)) ?_
 intro W base args ds gs before hval0 hW hcnd _
 have hval : ∀ (j : Nat) t v, Tryz.f4.params[j]? = some t → args[j]? = some v → Value.okWide Tryz.prog W .any base t v := hval0
 have hW' := hW
 obtain ⟨p, q, hA0, hV, rfl, hfz, hnd⟩ := hW
 have hA : DataW.TrodAll enc Tryz.prog W 0 (fun _ => true) true Tryz.f4.params.toList args.toList ds p := hA0
 rw [Tryz.params4] at hA hval
 obtain ⟨v0, vs0, d0, ds0, p0, q0, hargs, rfl, rfl, h0, r0⟩ := trodAll_cons hA
 obtain ⟨v1, vs1, d1, ds1, p1, q1, rfl, rfl, rfl, h1, r1⟩ := trodAll_cons r0
 obtain ⟨v2, vs2, d2, ds2, p2, q2, rfl, rfl, rfl, h2, r2⟩ := trodAll_cons r1
 obtain ⟨v3, vs3, d3, ds3, p3, q3, rfl, rfl, rfl, h3, r3⟩ := trodAll_cons r2
 obtain ⟨rfl, rfl, rfl⟩ := trodAll_nil r3
 obtain rfl : args = #[v0, v1, v2, v3] := by cases args; simp_all
 obtain ⟨rfl, rfl⟩ := trodVars_none hV
 obtain ⟨x00, x01, x02, x03, x04, x05, x06, x07, x08, x09, x010, x011, x012, x013, x014, x015, y00, y01, y02, y03, y04, y05, y06, y07, y08, y09, y010, y011, y012, y013, y014, y015, n0, rfl, g00, g01, g02, g03, g04, g05, g06, g07, g08, g09, g010, g011, g012, g013, g014, g015⟩ := open_16 Tryz.underlying24 (by kernel_rfl) (by kernel_rfl) (hval 0 _ v0 rfl rfl) h0
 obtain ⟨a00, e00, ez00, w00⟩ := DataW.trod_int Tryz.underlying3 g00
 simp at e00
 subst e00
 obtain ⟨a01, e01, ez01, w01⟩ := DataW.trod_int Tryz.underlying3 g01
 simp at e01
 subst e01
 obtain ⟨a02, e02, ez02, w02⟩ := DataW.trod_int Tryz.underlying2 g02
 simp at e02
 subst e02
 obtain ⟨a03, e03, ez03, w03⟩ := DataW.trod_int Tryz.underlying2 g03
 simp at e03
 subst e03
 obtain ⟨a04, e04, ez04, w04⟩ := DataW.trod_int Tryz.underlying2 g04
 simp at e04
 subst e04
 obtain ⟨a05, e05, ez05, w05⟩ := DataW.trod_int Tryz.underlying2 g05
 simp at e05
 subst e05
 obtain ⟨a06, e06, ez06, w06⟩ := DataW.trod_int Tryz.underlying2 g06
 simp at e06
 subst e06
 obtain ⟨a07, e07, ez07, w07⟩ := DataW.trod_int Tryz.underlying2 g07
 simp at e07
 subst e07
 obtain ⟨a08, e08, ez08, w08⟩ := DataW.trod_int Tryz.underlying22 g08
 simp at e08
 subst e08
 obtain ⟨a09, e09, ez09, w09⟩ := DataW.trod_int Tryz.underlying22 g09
 simp at e09
 subst e09
 obtain ⟨a010, e010, ez010, w010⟩ := DataW.trod_int Tryz.underlying22 g010
 simp at e010
 subst e010
 obtain ⟨a011, e011, ez011, w011⟩ := DataW.trod_int Tryz.underlying22 g011
 simp at e011
 subst e011
 obtain ⟨a012, e012, ez012, w012⟩ := DataW.trod_int Tryz.underlying22 g012
 simp at e012
 subst e012
 obtain ⟨a013, e013, ez013, w013⟩ := DataW.trod_int Tryz.underlying2 g013
 simp at e013
 subst e013
 obtain ⟨a014, e014, ez014, w014⟩ := DataW.trod_int Tryz.underlying3 g014
 simp at e014
 subst e014
 obtain ⟨a015, e015, ez015, w015⟩ := DataW.trod_int Tryz.underlying3 g015
 simp at e015
 subst e015
 obtain ⟨a1, rfl, rfl, rfl, w1⟩ := open_int Tryz.underlying3 (hval 1 _ v1 rfl rfl) h1
 obtain ⟨x20, x21, x22, x23, y20, y21, y22, y23, n2, rfl, g20, g21, g22, g23⟩ := open_four Tryz.underlying33 (by kernel_rfl) (by kernel_rfl) (hval 2 _ v2 rfl rfl) h2
 obtain ⟨a20, e20, ez20, w20⟩ := DataW.trod_int Tryz.underlying5 g20
 simp at e20
 subst e20
 obtain ⟨a21, e21, ez21, w21⟩ := DataW.trod_int Tryz.underlying3 g21
 simp at e21
 subst e21
 obtain ⟨a22, e22, ez22, w22⟩ := DataW.trod_int Tryz.underlying3 g22
 simp at e22
 subst e22
 obtain ⟨a23, e23, ez23, w23⟩ := DataW.trod_int Tryz.underlying2 g23
 simp at e23
 subst e23
 obtain ⟨a3, rfl, rfl, rfl, w3⟩ := open_int Tryz.underlying2 (hval 3 _ v3 rfl rfl) h3
 clear hA0 hval0
 obtain ⟨l00, m00⟩ := wf_i64 w00
 obtain ⟨l01, m01⟩ := wf_i64 w01
 obtain ⟨l02, m02⟩ := wf_i64 w02
 obtain ⟨l03, m03⟩ := wf_i64 w03
 obtain ⟨l04, m04⟩ := wf_i64 w04
 obtain ⟨l05, m05⟩ := wf_i64 w05
 obtain ⟨l06, m06⟩ := wf_i64 w06
 obtain ⟨l07, m07⟩ := wf_i64 w07
 obtain ⟨l08, m08⟩ := wf_i64 w08
 obtain ⟨l09, m09⟩ := wf_i64 w09
 obtain ⟨l010, m010⟩ := wf_i64 w010
 obtain ⟨l011, m011⟩ := wf_i64 w011
 obtain ⟨l012, m012⟩ := wf_i64 w012
 obtain ⟨l013, m013⟩ := wf_i64 w013
 obtain ⟨l014, m014⟩ := wf_i64 w014
 obtain ⟨l015, m015⟩ := wf_i64 w015
 obtain ⟨l1, m1⟩ := wf_i64 w1
 obtain ⟨l20, m20⟩ := wf_u8 w20
 obtain ⟨l21, m21⟩ := wf_i64 w21
 obtain ⟨l22, m22⟩ := wf_i64 w22
 obtain ⟨l23, m23⟩ := wf_i64 w23
 obtain ⟨l3, m3⟩ := wf_i64 w3
 refine (walk a00 a01 a02 a03 a04 a05 a06 a07 a08 a09 a010 a011 a012 a013 a014 a015 a1 a20 a21 a22 a23 a3 W l00 m00 l01 m01 l02 m02 l03 m03 l04 m04 l05 m05 l06 m06 l07 m07 l08 m08 l09 m09 l010 m010 l011 m011 l012 m012 l013 m013 l014 m014 l015 m015 l1 m1 l20 m20 l21 m21 l22 m22 l23 m23 l3 m3).mono fun e W' ⟨he, hg⟩ => ?_
 subst he
 exact ⟨_, rfl, post_of_law hW' rfl laidOut reads rfl Tryz.underlying4 rfl rfl rfl hg⟩
theorem over : Rows.frontNilRow.holds Tryz.pinned (OpenSpec.ofChange Rows.frontNilSpec) :=
 OpenClaim.holds_of_wide 4 Tryz.f4 rfl rfl rfl rfl rfl rfl rfl ⟨rfl, rfl, rfl, rfl, rfl⟩ rfl rfl rfl rfl rfl (by kernel_rfl) Tryz.func4 facts
   (of_decide_eq_true (by kernel_rfl)) (by unfold Func.isWrapper; first | (rw [if_pos (by decide +kernel)]; kernel_rfl) | (rw [if_neg (by decide +kernel)]; exact ⟨rfl, rfl⟩))
   (fun os started H enc _ => lifted os started H enc)
theorem proved : Rows.FrontNilSaid := over
end Go.Proofs.YtcffeokbipjaoaaGreat.frontNil
