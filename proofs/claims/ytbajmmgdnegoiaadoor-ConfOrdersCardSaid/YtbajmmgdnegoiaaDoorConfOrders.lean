/- ConfOrders is true of every input, and changes nothing that it was given. -/
import Derived.Test.YtbajmmgdnegoiaaDoorCti
import Derived.Test.YtbajmmgdnegoiaaDoorClaid
import Derived.Test.YtbajmmgdnegoiaaDoorOst16
import Derived.Test.YtbajmmgdnegoiaaDoorOu8
import Derived.Test.YtbajmmgdnegoiaaDoorRowb
import Derived.Test.YtbajmmgdnegoiaaDoorRows
import Derived.WalkKit
import Derived.ProofKit
import Derived.OpenShut
import Derived.Test.YtbajmmgdnegoiaaDoorTie
import Derived.Test.YtbajmmgdnegoiaaDoorCards
import Derived.LaidMore
import Derived.Lay
import Derived.SevenTiedAt
import Derived.Stop.Joined
namespace Go.Proofs.YtbajmmgdnegoiaaDoor.confOrders
open Go.ChangeShapes Go.WideShapes Go.ChangeAt Go.RowKit
set_option linter.unusedVariables false
theorem own : ownKnob Tryd.prog.godebug = none := by kernel_rfl
theorem laidOut : laidOutB Tryd.prog = true := by kernel_rfl
theorem reads : (Tryd.f5.params.toList.all fun t => Tryd.prog.readableRec t && decide (t < Tryd.prog.types.size)) = true := by kernel_rfl
set_option maxRecDepth 100000 in
theorem walk (ti ro ta iv hg lo dw ho sp kp ki kd lm st th rg : Int) (A : Option Addr) (len cap : Nat) (O : Nat → Int) (tw : Int) (ag : Bool) (w : World) (hL : Std w) (hl : len ≤ cap) (hcap : cap ≤ maxLen) (hO : SeqAt w w.heap.size A len 1 (fun i => [.int .u8 (O i)])) (hO5 : ∀ i, 0 ≤ O i ∧ O i ≤ 255) (ti0 : -9223372036854775808 ≤ ti) (ti1 : ti ≤ 9223372036854775807) (ro0 : -9223372036854775808 ≤ ro) (ro1 : ro ≤ 9223372036854775807) (ta0 : -9223372036854775808 ≤ ta) (ta1 : ta ≤ 9223372036854775807) (iv0 : -9223372036854775808 ≤ iv) (iv1 : iv ≤ 9223372036854775807) (hg0 : -9223372036854775808 ≤ hg) (hg1 : hg ≤ 9223372036854775807) (lo0 : -9223372036854775808 ≤ lo) (lo1 : lo ≤ 9223372036854775807) (dw0 : -9223372036854775808 ≤ dw) (dw1 : dw ≤ 9223372036854775807) (ho0 : -9223372036854775808 ≤ ho) (ho1 : ho ≤ 9223372036854775807) (sp0 : -9223372036854775808 ≤ sp) (sp1 : sp ≤ 9223372036854775807) (kp0 : -9223372036854775808 ≤ kp) (kp1 : kp ≤ 9223372036854775807) (ki0 : -9223372036854775808 ≤ ki) (ki1 : ki ≤ 9223372036854775807) (kd0 : -9223372036854775808 ≤ kd) (kd1 : kd ≤ 9223372036854775807) (lm0 : -9223372036854775808 ≤ lm) (lm1 : lm ≤ 9223372036854775807) (st0 : -9223372036854775808 ≤ st) (st1 : st ≤ 9223372036854775807) (th0 : -9223372036854775808 ≤ th) (th1 : th ≤ 9223372036854775807) (rg0 : -9223372036854775808 ≤ rg) (rg1 : rg ≤ 9223372036854775807) (t0 : 0 ≤ tw) (t1 : tw ≤ 255) :
    Calls Tryd.prog 5 #[.agg #[.int .i64 ti, .int .i64 ro, .int .i64 ta, .int .i64 iv, .int .i64 hg, .int .i64 lo, .int .i64 dw, .int .i64 ho, .int .i64 sp, .int .i64 kp, .int .i64 ki, .int .i64 kd, .int .i64 lm, .int .i64 st, .int .i64 th, .int .i64 rg], .slice A len cap, .int .u8 tw, .bool ag] w fun e w' => e = .returned (.bool true) ∧ Below w.heap.size w w' :=
  walko ⟨ti, ro, ta, iv, hg, lo, dw, ho, sp, kp, ki, kd, lm, st, th, rg⟩ ⟨ti0, ti1, ro0, ro1, ta0, ta1, iv0, iv1, hg0, hg1, lo0, lo1, dw0, dw1, ho0, ho1, sp0, sp1, kp0, kp1, ki0, ki1, kd0, kd1, lm0, lm1, st0, st1, th0, th1, rg0, rg1⟩ A len cap O tw ag w hL hl hcap hO hO5 t0 t1
set_option maxRecDepth 100000 in
theorem lifted (os : Os) (started : os.Started) (H : Type) (enc : TypeId × Value → H) :
    ReturnsInHanded {} Tryd.checked os 5 .any (fun w args => (Rows.confOrdersSpec.pre enc Tryd.prog Tryd.f5 Rows.confOrdersRow.domain false w args ∧ laidMetH Tryd.prog [("math/bits.deBruijn32tab", Rows.laid_math_bits_deBruijn32tab), ("math/bits.deBruijn64tab", Rows.laid_math_bits_deBruijn64tab), ("internal/strconv.uint64pow10", Rows.laid_internal_strconv_uint64pow10), ("strconv.ErrRange", Rows.laid_strconv_ErrRange), ("strconv.ErrSyntax", Rows.laid_strconv_ErrSyntax)] w) ∧ sizedMet enc Tryd.prog Tryd.f5 (OpenSpec.ofChange Rows.confOrdersSpec) false w args)
      (Rows.confOrdersSpec.post enc Tryd.prog Tryd.f5 false true false false) := by
  refine returnsInHanded_of_change_and (C := Tryd.checked) (X := fun w _ => laidMetH Tryd.prog [("math/bits.deBruijn32tab", Rows.laid_math_bits_deBruijn32tab), ("math/bits.deBruijn64tab", Rows.laid_math_bits_deBruijn64tab), ("internal/strconv.uint64pow10", Rows.laid_internal_strconv_uint64pow10), ("strconv.ErrRange", Rows.laid_strconv_ErrRange), ("strconv.ErrSyntax", Rows.laid_strconv_ErrSyntax)] w) (fun _ _ _ hh h => h.of_heap hh) own started (by kernel_rfl) Tryd.func5
    (ChangeSpec.witness_shaped (enc := enc) (C := Tryd.checked) (os := os) (X := fun w _ => laidMetH Tryd.prog [("math/bits.deBruijn32tab", Rows.laid_math_bits_deBruijn32tab), ("math/bits.deBruijn64tab", Rows.laid_math_bits_deBruijn64tab), ("internal/strconv.uint64pow10", Rows.laid_internal_strconv_uint64pow10), ("strconv.ErrRange", Rows.laid_strconv_ErrRange), ("strconv.ErrSyntax", Rows.laid_strconv_ErrSyntax)] w) false (World.laidAll Tryd.prog os [("math/bits.deBruijn32tab", Rows.laid_math_bits_deBruijn32tab), ("math/bits.deBruijn64tab", Rows.laid_math_bits_deBruijn64tab), ("internal/strconv.uint64pow10", Rows.laid_internal_strconv_uint64pow10), ("strconv.ErrRange", Rows.laid_strconv_ErrRange), ("strconv.ErrSyntax", Rows.laid_strconv_ErrSyntax)]) #[.agg #[.int .i64 0, .int .i64 0, .int .i64 0, .int .i64 0, .int .i64 0, .int .i64 0, .int .i64 0, .int .i64 0, .int .i64 0, .int .i64 0, .int .i64 0, .int .i64 0, .int .i64 0, .int .i64 0, .int .i64 0, .int .i64 0], .slice none 0 0, .int .u8 0, .bool false] 8 (World.laidAll_os _ _ _)
      (World.shaped_of_ZipB (by kernel_rfl) (by kernel_rfl)) (by kernel_rfl) (by kernel_rfl) (by kernel_rfl)
      (by rw [MakeChecks.laidMetH_plain _ _ _ (by kernel_rfl)]; exact laidMet_laidAll _ (by kernel_rfl) (by kernel_rfl))) ?_
  intro W base args ds gs before hval0 hW hcnd _ hL _
  have hLO := std_of_laid hL
  have hval : ∀ (j : Nat) t v, Tryd.f5.params[j]? = some t → args[j]? = some v → Value.okWide Tryd.prog W .any base t v := hval0
  have hW' := hW
  obtain ⟨p, q, hA0, hV, rfl, hfz, hnd⟩ := hW
  have hA : DataW.TrodAll enc Tryd.prog W 0 (fun _ => true) true Tryd.f5.params.toList args.toList ds p := hA0
  rw [Tryd.params5] at hA hval
  obtain ⟨v0, vs0, d0, ds0, p0, q0, hargs, rfl, rfl, h0, r0⟩ := trodAll_cons hA
  obtain ⟨v1, vs1, d1, ds1, p1, q1, rfl, rfl, rfl, h1, r1⟩ := trodAll_cons r0
  obtain ⟨v2, vs2, d2, ds2, p2, q2, rfl, rfl, rfl, h2, r2⟩ := trodAll_cons r1
  obtain ⟨v3, vs3, d3, ds3, p3, q3, rfl, rfl, rfl, h3, r3⟩ := trodAll_cons r2
  obtain ⟨rfl, rfl, rfl⟩ := trodAll_nil r3
  obtain rfl : args = #[v0, v1, v2, v3] := by cases args; simp_all
  obtain ⟨rfl, rfl⟩ := trodVars_none hV
  obtain ⟨x00, x01, x02, x03, x04, x05, x06, x07, x08, x09, x010, x011, x012, x013, x014, x015, y00, y01, y02, y03, y04, y05, y06, y07, y08, y09, y010, y011, y012, y013, y014, y015, n0, rfl, g00, g01, g02, g03, g04, g05, g06, g07, g08, g09, g010, g011, g012, g013, g014, g015⟩ := open_16 Tryd.underlying24 (by kernel_rfl) (by kernel_rfl) (hval 0 _ v0 rfl rfl) h0
  obtain ⟨a00, e00, ez00, w00⟩ := DataW.trod_int Tryd.underlying3 g00
  simp at e00
  subst e00
  obtain ⟨a01, e01, ez01, w01⟩ := DataW.trod_int Tryd.underlying3 g01
  simp at e01
  subst e01
  obtain ⟨a02, e02, ez02, w02⟩ := DataW.trod_int Tryd.underlying2 g02
  simp at e02
  subst e02
  obtain ⟨a03, e03, ez03, w03⟩ := DataW.trod_int Tryd.underlying2 g03
  simp at e03
  subst e03
  obtain ⟨a04, e04, ez04, w04⟩ := DataW.trod_int Tryd.underlying2 g04
  simp at e04
  subst e04
  obtain ⟨a05, e05, ez05, w05⟩ := DataW.trod_int Tryd.underlying2 g05
  simp at e05
  subst e05
  obtain ⟨a06, e06, ez06, w06⟩ := DataW.trod_int Tryd.underlying2 g06
  simp at e06
  subst e06
  obtain ⟨a07, e07, ez07, w07⟩ := DataW.trod_int Tryd.underlying2 g07
  simp at e07
  subst e07
  obtain ⟨a08, e08, ez08, w08⟩ := DataW.trod_int Tryd.underlying22 g08
  simp at e08
  subst e08
  obtain ⟨a09, e09, ez09, w09⟩ := DataW.trod_int Tryd.underlying22 g09
  simp at e09
  subst e09
  obtain ⟨a010, e010, ez010, w010⟩ := DataW.trod_int Tryd.underlying22 g010
  simp at e010
  subst e010
  obtain ⟨a011, e011, ez011, w011⟩ := DataW.trod_int Tryd.underlying22 g011
  simp at e011
  subst e011
  obtain ⟨a012, e012, ez012, w012⟩ := DataW.trod_int Tryd.underlying22 g012
  simp at e012
  subst e012
  obtain ⟨a013, e013, ez013, w013⟩ := DataW.trod_int Tryd.underlying2 g013
  simp at e013
  subst e013
  obtain ⟨a014, e014, ez014, w014⟩ := DataW.trod_int Tryd.underlying3 g014
  simp at e014
  subst e014
  obtain ⟨a015, e015, ez015, w015⟩ := DataW.trod_int Tryd.underlying3 g015
  simp at e015
  subst e015
  obtain ⟨A1, len1, cap1, rfl⟩ := okWide_slice Tryd.underlying49 (hval 1 _ v1 rfl rfl)
  obtain ⟨fu1, g1⟩ := h1
  obtain ⟨s1, t1, Q1, u1, o1⟩ := open_u8s g1
  obtain ⟨a2, rfl, rfl, rfl, w2⟩ := open_int Tryd.underlying5 (hval 2 _ v2 rfl rfl) h2
  obtain ⟨b3, rfl, rfl, rfl⟩ := open_bool Tryd.underlying4 (hval 3 _ v3 rfl rfl) h3
  clear hA0 hval0
  obtain ⟨l00, m00⟩ := wf_i64 w00
  obtain ⟨l01, m01⟩ := wf_i64 w01
  obtain ⟨l02, m02⟩ := wf_i64 w02
  obtain ⟨l03, m03⟩ := wf_i64 w03
  obtain ⟨l04, m04⟩ := wf_i64 w04
  obtain ⟨l05, m05⟩ := wf_i64 w05
  obtain ⟨l06, m06⟩ := wf_i64 w06
  obtain ⟨l07, m07⟩ := wf_i64 w07
  obtain ⟨l08, m08⟩ := wf_i64 w08
  obtain ⟨l09, m09⟩ := wf_i64 w09
  obtain ⟨l010, m010⟩ := wf_i64 w010
  obtain ⟨l011, m011⟩ := wf_i64 w011
  obtain ⟨l012, m012⟩ := wf_i64 w012
  obtain ⟨l013, m013⟩ := wf_i64 w013
  obtain ⟨l014, m014⟩ := wf_i64 w014
  obtain ⟨l015, m015⟩ := wf_i64 w015
  obtain ⟨l2, m2⟩ := wf_u8 w2
  refine (walk a00 a01 a02 a03 a04 a05 a06 a07 a08 a09 a010 a011 a012 a013 a014 a015 A1 len1 cap1 Q1 a2 b3 W hLO s1 t1 u1 o1 l00 m00 l01 m01 l02 m02 l03 m03 l04 m04 l05 m05 l06 m06 l07 m07 l08 m08 l09 m09 l010 m010 l011 m011 l012 m012 l013 m013 l014 m014 l015 m015 l2 m2).mono fun e W' ⟨he, hg⟩ => ?_
  subst he
  exact ⟨_, rfl, post_of_law hW' rfl laidOut reads rfl Tryd.underlying4 rfl rfl rfl hg⟩
theorem over : Rows.confOrdersRow.holds Tryd.pinned (OpenSpec.ofChange Rows.confOrdersSpec) :=
  OpenClaim.holds_of_wide 5 Tryd.f5 rfl rfl rfl rfl rfl rfl rfl ⟨rfl, rfl, rfl, rfl, rfl⟩ rfl rfl rfl rfl rfl (by kernel_rfl) Tryd.func5 (by kernel_rfl)
    (of_decide_eq_true (by kernel_rfl)) (by unfold Func.isWrapper; first | (rw [if_pos (by decide +kernel)]; kernel_rfl) | (rw [if_neg (by decide +kernel)]; exact ⟨rfl, rfl⟩))
    (fun os started H enc _ => lifted os started H enc)
theorem proved : Rows.ConfOrdersCardSaid :=
  Claim7.holds_tied_plain_at .later [] [.data, .data, .data, .sentinel, .sentinel] true Rows.confOrdersCard.stood.harness true over (fun _ h => by cases h) (by kernel_rfl) (fun _ h => by cases h) confOrders_row_tie rfl ⟨rfl, rfl⟩ (by kernel_rfl) rfl
    (fun f fn hf hfn => by
      obtain rfl : f = 5 := Option.some.inj ((show Tryd.prog.funcNamed "overfall/overfalllaw13.ConfOrders" = some 5 by kernel_rfl).symm.trans hf) |>.symm
      obtain rfl : fn = Tryd.f5 := (Option.some.inj (Tryd.func5.symm.trans hfn)).symm
      exact ⟨by kernel_rfl, fun j t ht => by
        have hm : t ∈ Tryd.f5.params.toList := by simpa using Array.mem_of_getElem? ht
        have hall : (Tryd.f5.params.toList.all fun u => !Tryd.prog.wantsStandIn u) = true := by kernel_rfl
        exact (show Tryd.prog.wantsStandIn t = false by simpa using List.all_eq_true.1 hall t hm)⟩)
    (by kernel_rfl)
end Go.Proofs.YtbajmmgdnegoiaaDoor.confOrders
