/- RootRises is true of every a and b of 64 bits and of every x and y of 16, and changes nothing that it was given. -/
import Derived.Test.YtapmnlalnmlcoaaRootc
import Derived.Test.YtapmnlalnmlcoaaRow
import Derived.Test.YtapmnlalnmlcoaaRows
import Derived.WalkKit
import Derived.ProofKit
import Derived.OpenShut
namespace Go.Proofs.Ytapmnlalnmlcoaa.rootRises
open Go.ChangeShapes Go.WideShapes Go.ChangeAt Go.RowKit Kn
set_option linter.unusedVariables false
theorem own : ownKnob Try.prog.godebug = none := by kernel_rfl
set_option maxHeartbeats 4000000 in
theorem walk (a b x y : Int) (w : World) (a0 : 0 ≤ a) (a1 : a ≤ 18446744073709551615) (b0 : 0 ≤ b) (b1 : b ≤ 18446744073709551615) (x0 : 0 ≤ x) (x1 : x ≤ 65535) (y0 : 0 ≤ y) (y1 : y ≤ 65535) :
    Calls Try.prog 15 #[.int .u64 a, .int .u64 b, .int .u16 x, .int .u16 y] w fun e w' => e = .returned (.bool true) ∧ Below w.heap.size w w' := by
  have hb := Below.refl w.heap.size w
  have p0 : 0 ≤ x * x := Int.mul_nonneg x0 x0
  have p1 : x * x ≤ 4294836225 := by have := Int.mul_le_mul x1 x1 x0 (by omega); omega
  have q0 : 0 ≤ x * x * y := Int.mul_nonneg p0 y0
  have q1 : x * x * y ≤ 281462092005375 := by have := Int.mul_le_mul p1 y1 y0 (by omega); omega
  have s0 : 0 ≤ x * x * y * y := Int.mul_nonneg q0 y0
  have s1 : x * x * y * y ≤ 18446744073709551615 := by have := Int.mul_le_mul q1 y1 y0 (by omega); omega
  have t0 : 0 ≤ x * y := Int.mul_nonneg x0 y0
  have t1 : x * y ≤ 4294836225 := by have := Int.mul_le_mul x1 y1 y0 (by omega); omega
  have ex : rootN (x * x * y * y) = x * y := by
    have e : x * x * y * y = x * y * (x * y) := by
      rw [Int.mul_assoc x x y, Int.mul_assoc x (x * y) y, Int.mul_comm (x * y) y, ← Int.mul_assoc x y (x * y)]
    rw [e]; exact root_sq _ t0
  by_cases h : b < a
  · have e0 := num_0 b
    have n0 : 0 ≤ b * b := Int.mul_nonneg b0 b0
    have n1 : b * b < 340282366920938463463374607431768211456 := by have := Int.mul_le_mul b1 b1 b0 (by omega); omega
    have k0 := hi0 _ n0
    have k1 := hi1 _ n1
    have k2 := lo0 (b * b)
    have k3 := lo1 (b * b)
    have en := num_hi_lo (b * b)
    have er := root_sq b b0
    have rm := root_mono b a b0 (by omega)
    have rf := root_64 b b0 (by omega)
    clear n0 n1
    go_enter Try.func15, Try.ntmps15
    go_wp2_with (first
      | (go_at_call 39; refine (awakec _).mono ?_; rintro e wn ⟨rfl, hbn⟩; replace hb := under0 hb hbn; clear hbn)
      | (go_at_call 40; refine (rtsqrt_any _ _ (by omega) (by omega)).mono ?_; rintro e wn ⟨rfl, hbn⟩; replace hb := under0 hb hbn; clear hbn)
      | (go_at_call 25; refine (wof_any _ _).mono ?_; rintro e wn ⟨rfl, hbn⟩; replace hb := under0 hb hbn; clear hbn)
      | (go_at_call 22; refine (wmul_any _ _ _ (by omega) (by omega) (by omega) (by omega)).mono ?_; rintro e wn ⟨rfl, hbn⟩; replace hb := under0 hb hbn; clear hbn)
      | (go_at_call 44; refine (rtwide_any _ _ _ (by omega) (by omega) (by omega) (by omega)).mono ?_; rintro e wn ⟨rfl, hbn⟩; (first | rw [en, er] | rw [e0]); replace hb := under0 hb hbn; clear hbn))
    go_ret
    exact ⟨rfl, hb⟩
  · have e0 := num_0 a
    have n0 : 0 ≤ a * a := Int.mul_nonneg a0 a0
    have n1 : a * a < 340282366920938463463374607431768211456 := by have := Int.mul_le_mul a1 a1 a0 (by omega); omega
    have k0 := hi0 _ n0
    have k1 := hi1 _ n1
    have k2 := lo0 (a * a)
    have k3 := lo1 (a * a)
    have en := num_hi_lo (a * a)
    have er := root_sq a a0
    have rm := root_mono a b a0 (by omega)
    have rf := root_64 a a0 (by omega)
    clear n0 n1
    go_enter Try.func15, Try.ntmps15
    go_wp2_with (first
      | (go_at_call 39; refine (awakec _).mono ?_; rintro e wn ⟨rfl, hbn⟩; replace hb := under0 hb hbn; clear hbn)
      | (go_at_call 40; refine (rtsqrt_any _ _ (by omega) (by omega)).mono ?_; rintro e wn ⟨rfl, hbn⟩; replace hb := under0 hb hbn; clear hbn)
      | (go_at_call 25; refine (wof_any _ _).mono ?_; rintro e wn ⟨rfl, hbn⟩; replace hb := under0 hb hbn; clear hbn)
      | (go_at_call 22; refine (wmul_any _ _ _ (by omega) (by omega) (by omega) (by omega)).mono ?_; rintro e wn ⟨rfl, hbn⟩; replace hb := under0 hb hbn; clear hbn)
      | (go_at_call 44; refine (rtwide_any _ _ _ (by omega) (by omega) (by omega) (by omega)).mono ?_; rintro e wn ⟨rfl, hbn⟩; (first | rw [en, er] | rw [e0]); replace hb := under0 hb hbn; clear hbn))
    go_ret
    exact ⟨rfl, hb⟩
set_option maxRecDepth 100000 in
theorem lifted (os : Os) (started : os.Started) (H : Type) (enc : TypeId × Value → H) :
    ReturnsInHanded {} Try.checked os 15 .any (Rows.rootRisesSpec.pre6 enc Try.prog Try.f15 Rows.rootRisesRow.domain false) (Rows.rootRisesSpec.post enc Try.prog Try.f15 false true false false) := by
  refine returnsInHanded_of_change (C := Try.checked) own started (by kernel_rfl) Try.func15
    (ChangeSpec.witness6 (enc := enc) (C := Try.checked) false ⟨#[], #[.int .u64 0, .int .u64 0, .int .u16 0, .int .u16 0], []⟩ 8 (by kernel_rfl) (by kernel_rfl) (by kernel_rfl) (by kernel_rfl)) ?_
  intro W base args ds gs before hval0 hW hcnd _
  have hval : ∀ (j : Nat) t v, Try.f15.params[j]? = some t → args[j]? = some v → Value.okWide Try.prog W .any base t v := hval0
  have hW' := hW
  obtain ⟨p, q, hA0, hV, rfl, hfz, hnd⟩ := hW
  have hA : DataW.TrodAll enc Try.prog W 0 (fun _ => true) true Try.f15.params.toList args.toList ds p := hA0
  rw [Try.params15] at hA hval
  obtain ⟨v0, vs0, d0, ds0, p0, q0, hargs, rfl, rfl, h0, r0⟩ := trodAll_cons hA
  obtain ⟨v1, vs1, d1, ds1, p1, q1, rfl, rfl, rfl, h1, r1⟩ := trodAll_cons r0
  obtain ⟨v2, vs2, d2, ds2, p2, q2, rfl, rfl, rfl, h2, r2⟩ := trodAll_cons r1
  obtain ⟨v3, vs3, d3, ds3, p3, q3, rfl, rfl, rfl, h3, r3⟩ := trodAll_cons r2
  obtain ⟨rfl, rfl, rfl⟩ := trodAll_nil r3
  obtain rfl : args = #[v0, v1, v2, v3] := by cases args; simp_all
  obtain ⟨rfl, rfl⟩ := trodVars_none hV
  obtain ⟨a0, rfl, rfl, rfl, w0⟩ := open_int Try.underlying22 (hval 0 _ v0 rfl rfl) h0
  obtain ⟨a1, rfl, rfl, rfl, w1⟩ := open_int Try.underlying22 (hval 1 _ v1 rfl rfl) h1
  obtain ⟨a2, rfl, rfl, rfl, w2⟩ := open_int Try.underlying68 (hval 2 _ v2 rfl rfl) h2
  obtain ⟨a3, rfl, rfl, rfl, w3⟩ := open_int Try.underlying68 (hval 3 _ v3 rfl rfl) h3
  clear hA0 hval0
  simp only [List.append_nil] at hW'
  obtain ⟨l0, m0⟩ := wf_u64 w0
  obtain ⟨l1, m1⟩ := wf_u64 w1
  obtain ⟨l2, m2⟩ := wf_u16 w2
  obtain ⟨l3, m3⟩ := wf_u16 w3
  refine (walk a0 a1 a2 a3 W l0 m0 l1 m1 l2 m2 l3 m3).mono fun e W' ⟨he, hg⟩ => ?_
  subst he
  exact ⟨_, rfl, post_of_under (pa := []) (pv := []) hW' (fun _ _ _ => (trodAll_cons_mk (shut_bool Try.underlying4 _) trodAll_mk0)) (fun sp _ => (trodAll_cons_mk (shut_int Try.underlying22 w0) (trodAll_cons_mk (shut_int Try.underlying22 w1) (trodAll_cons_mk (shut_int Try.underlying68 w2) (trodAll_cons_mk (shut_int Try.underlying68 w3) trodAll_mk0))))) (fun _ _ => rfl) rfl
    hg (ok_one (by kernel_rfl) rfl (okWide_bool_mk Try.underlying4 _))⟩
theorem over : Rows.rootRisesRow.holds Try.pinned (OpenSpec.ofChange Rows.rootRisesSpec) :=
  OpenClaim.holds_of_wide 15 Try.f15 rfl rfl rfl rfl rfl rfl rfl ⟨rfl, rfl, rfl, rfl, rfl⟩ rfl rfl rfl rfl rfl (by kernel_rfl) Try.func15 (by kernel_rfl)
    (of_decide_eq_true (by kernel_rfl)) (by unfold Func.isWrapper; first | (rw [if_pos (by decide +kernel)]; kernel_rfl) | (rw [if_neg (by decide +kernel)]; exact ⟨rfl, rfl⟩))
    (fun os started H enc _ => lifted os started H enc)
theorem proved : Rows.RootRisesSaid := over
end Go.Proofs.Ytapmnlalnmlcoaa.rootRises
