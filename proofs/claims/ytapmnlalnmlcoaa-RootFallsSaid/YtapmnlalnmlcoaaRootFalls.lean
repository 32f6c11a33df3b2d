/- RootFalls is true of every interval, of all counts and of every k of 32 bits, and changes nothing that it was given. -/
import Derived.Test.YtapmnlalnmlcoaaRootc
import Derived.Test.YtapmnlalnmlcoaaRow
import Derived.Test.YtapmnlalnmlcoaaRows
import Derived.WalkKit
import Derived.ProofKit
import Derived.OpenShut
import Derived.IntWalk
namespace Go.Proofs.Ytapmnlalnmlcoaa.rootFalls
open Go.ChangeShapes Go.WideShapes Go.ChangeAt Go.RowKit Kn
set_option linter.unusedVariables false
theorem own : ownKnob Try.prog.godebug = none := by kernel_rfl
set_option maxHeartbeats 4000000 in
theorem walk (i n m j k : Int) (w : World) (i0 : -9223372036854775808 ≤ i) (i1 : i ≤ 9223372036854775807) (n0 : 0 ≤ n) (n1 : n ≤ 18446744073709551615) (m0 : 0 ≤ m) (m1 : m ≤ 18446744073709551615) (j0 : -9223372036854775808 ≤ j) (j1 : j ≤ 9223372036854775807) (k0 : 0 ≤ k) (k1 : k ≤ 4294967295) :
    Calls Try.prog 14 #[.int .i64 i, .int .u64 n, .int .u64 m, .int .i64 j, .int .u32 k] w fun e w' => e = .returned (.bool true) ∧ Below w.heap.size w w' := by
  have hb := Below.refl w.heap.size w
  have q0 : 0 ≤ k * k := Int.mul_nonneg k0 k0
  have q1 : k * k ≤ 18446744073709551615 := by have := Int.mul_le_mul k1 k1 k0 (by omega); omega
  by_cases hn : m < n
  · by_cases hj : j < i
    · by_cases hk : k = 0
      · have f1 := lawZ_falls j m n (by omega)
        have f2 := lawZ_rises j i m (by omega)
        have hz : (k == 0) = true := by simpa using hk
        go_enter Try.func14, Try.ntmps14
        go_wp2_with (first
          | (go_at_call 39; refine (awakec _).mono ?_; rintro e wn ⟨rfl, hbn⟩; replace hb := under0 hb hbn; clear hbn)
          | (go_at_call 45; refine (rtlaw_all _ _ _ (by omega) (by omega) (by omega)).mono ?_; rintro e wn ⟨rfl, hbn⟩; replace hb := (show Below w.heap.size w wn from by first | exact under0 hb hbn | exact under0 hb.drew hbn); clear hbn))
        go_quiet (fail)
        go_wp2
        go_ret
        exact ⟨rfl, below_drewN hb _⟩
      · by_cases hx : j < 0
        · have f1 := lawZ_falls j m n (by omega)
          have f2 := lawZ_rises j i m (by omega)
          have hz : (k == 0) = false := by simpa using hk
          have hd : decide (j < 0) = true := by simpa using hx
          go_enter Try.func14, Try.ntmps14
          go_wp2_with (first
            | (go_at_call 39; refine (awakec _).mono ?_; rintro e wn ⟨rfl, hbn⟩; replace hb := under0 hb hbn; clear hbn)
            | (go_at_call 45; refine (rtlaw_all _ _ _ (by omega) (by omega) (by omega)).mono ?_; rintro e wn ⟨rfl, hbn⟩; replace hb := (show Below w.heap.size w wn from by first | exact under0 hb hbn | exact under0 hb.drew hbn); clear hbn))
          go_quiet (fail)
          go_wp2
          go_ret
          exact ⟨rfl, below_drewN hb _⟩
        · have f1 := lawZ_falls j m n (by omega)
          have f2 := lawZ_rises j i m (by omega)
          have hz : (k == 0) = false := by simpa using hk
          have hd : decide (j < 0) = false := by simpa using hx
          have f3 := lawZ_square j k (by omega) (by omega)
          have hkp : 0 < k := by omega
          have hxp : 0 ≤ j := by omega
          have v1 : IntKind.u64.wrap k = k := by rw [wrapu]; omega
          have v2 : IntKind.u64.wrap (k * k) = k * k := by rw [wrapu]; omega
          have v3 : IntKind.i64.wrap k = k := IntWalk.i64_in _ ⟨by omega, by omega⟩
          have v4 : j.tdiv k = j / k := Int.tdiv_eq_ediv_of_nonneg hxp
          have v5 : IntKind.i64.wrap (j / k) = j / k := IntWalk.i64_in _ ⟨by have := Int.ediv_nonneg hxp k0; omega, by have := Int.ediv_le_self k hxp; omega⟩
          go_enter Try.func14, Try.ntmps14
          go_wp2_with (first
            | (go_at_call 39; refine (awakec _).mono ?_; rintro e wn ⟨rfl, hbn⟩; replace hb := under0 hb hbn; clear hbn)
            | (go_at_call 45; refine (rtlaw_all _ _ _ (by omega) (by omega) (by omega)).mono ?_; rintro e wn ⟨rfl, hbn⟩; replace hb := (show Below w.heap.size w wn from by first | exact under0 hb hbn | exact under0 hb.drew hbn); clear hbn))
          go_region_held3 (fun _ => True) (trivial) ((go_at_call 45; refine (rtlaw_all _ _ _ (by omega) (by omega) (by omega)).mono ?_; rintro e wn ⟨rfl, hbn⟩; replace hb := (show Below w.heap.size w wn from by first | exact under0 hb hbn | exact under0 hb.drew hbn); clear hbn))
          go_wp2
          go_ret
          exact ⟨rfl, hb⟩
    · by_cases hk : k = 0
      · have f1 := lawZ_falls i m n (by omega)
        have f2 := lawZ_rises i j m (by omega)
        have hz : (k == 0) = true := by simpa using hk
        go_enter Try.func14, Try.ntmps14
        go_wp2_with (first
          | (go_at_call 39; refine (awakec _).mono ?_; rintro e wn ⟨rfl, hbn⟩; replace hb := under0 hb hbn; clear hbn)
          | (go_at_call 45; refine (rtlaw_all _ _ _ (by omega) (by omega) (by omega)).mono ?_; rintro e wn ⟨rfl, hbn⟩; replace hb := (show Below w.heap.size w wn from by first | exact under0 hb hbn | exact under0 hb.drew hbn); clear hbn))
        go_quiet (fail)
        go_wp2
        go_ret
        exact ⟨rfl, below_drewN hb _⟩
      · by_cases hx : i < 0
        · have f1 := lawZ_falls i m n (by omega)
          have f2 := lawZ_rises i j m (by omega)
          have hz : (k == 0) = false := by simpa using hk
          have hd : decide (i < 0) = true := by simpa using hx
          go_enter Try.func14, Try.ntmps14
          go_wp2_with (first
            | (go_at_call 39; refine (awakec _).mono ?_; rintro e wn ⟨rfl, hbn⟩; replace hb := under0 hb hbn; clear hbn)
            | (go_at_call 45; refine (rtlaw_all _ _ _ (by omega) (by omega) (by omega)).mono ?_; rintro e wn ⟨rfl, hbn⟩; replace hb := (show Below w.heap.size w wn from by first | exact under0 hb hbn | exact under0 hb.drew hbn); clear hbn))
          go_quiet (fail)
          go_wp2
          go_ret
          exact ⟨rfl, below_drewN hb _⟩
        · have f1 := lawZ_falls i m n (by omega)
          have f2 := lawZ_rises i j m (by omega)
          have hz : (k == 0) = false := by simpa using hk
          have hd : decide (i < 0) = false := by simpa using hx
          have f3 := lawZ_square i k (by omega) (by omega)
          have hkp : 0 < k := by omega
          have hxp : 0 ≤ i := by omega
          have v1 : IntKind.u64.wrap k = k := by rw [wrapu]; omega
          have v2 : IntKind.u64.wrap (k * k) = k * k := by rw [wrapu]; omega
          have v3 : IntKind.i64.wrap k = k := IntWalk.i64_in _ ⟨by omega, by omega⟩
          have v4 : i.tdiv k = i / k := Int.tdiv_eq_ediv_of_nonneg hxp
          have v5 : IntKind.i64.wrap (i / k) = i / k := IntWalk.i64_in _ ⟨by have := Int.ediv_nonneg hxp k0; omega, by have := Int.ediv_le_self k hxp; omega⟩
          go_enter Try.func14, Try.ntmps14
          go_wp2_with (first
            | (go_at_call 39; refine (awakec _).mono ?_; rintro e wn ⟨rfl, hbn⟩; replace hb := under0 hb hbn; clear hbn)
            | (go_at_call 45; refine (rtlaw_all _ _ _ (by omega) (by omega) (by omega)).mono ?_; rintro e wn ⟨rfl, hbn⟩; replace hb := (show Below w.heap.size w wn from by first | exact under0 hb hbn | exact under0 hb.drew hbn); clear hbn))
          go_region_held3 (fun _ => True) (trivial) ((go_at_call 45; refine (rtlaw_all _ _ _ (by omega) (by omega) (by omega)).mono ?_; rintro e wn ⟨rfl, hbn⟩; replace hb := (show Below w.heap.size w wn from by first | exact under0 hb hbn | exact under0 hb.drew hbn); clear hbn))
          go_wp2
          go_ret
          exact ⟨rfl, hb⟩
  · by_cases hj : j < i
    · by_cases hk : k = 0
      · have f1 := lawZ_falls j n m (by omega)
        have f2 := lawZ_rises j i n (by omega)
        have hz : (k == 0) = true := by simpa using hk
        go_enter Try.func14, Try.ntmps14
        go_wp2_with (first
          | (go_at_call 39; refine (awakec _).mono ?_; rintro e wn ⟨rfl, hbn⟩; replace hb := under0 hb hbn; clear hbn)
          | (go_at_call 45; refine (rtlaw_all _ _ _ (by omega) (by omega) (by omega)).mono ?_; rintro e wn ⟨rfl, hbn⟩; replace hb := (show Below w.heap.size w wn from by first | exact under0 hb hbn | exact under0 hb.drew hbn); clear hbn))
        go_quiet (fail)
        go_wp2
        go_ret
        exact ⟨rfl, below_drewN hb _⟩
      · by_cases hx : j < 0
        · have f1 := lawZ_falls j n m (by omega)
          have f2 := lawZ_rises j i n (by omega)
          have hz : (k == 0) = false := by simpa using hk
          have hd : decide (j < 0) = true := by simpa using hx
          go_enter Try.func14, Try.ntmps14
          go_wp2_with (first
            | (go_at_call 39; refine (awakec _).mono ?_; rintro e wn ⟨rfl, hbn⟩; replace hb := under0 hb hbn; clear hbn)
            | (go_at_call 45; refine (rtlaw_all _ _ _ (by omega) (by omega) (by omega)).mono ?_; rintro e wn ⟨rfl, hbn⟩; replace hb := (show Below w.heap.size w wn from by first | exact under0 hb hbn | exact under0 hb.drew hbn); clear hbn))
          go_quiet (fail)
          go_wp2
          go_ret
          exact ⟨rfl, below_drewN hb _⟩
        · have f1 := lawZ_falls j n m (by omega)
          have f2 := lawZ_rises j i n (by omega)
          have hz : (k == 0) = false := by simpa using hk
          have hd : decide (j < 0) = false := by simpa using hx
          have f3 := lawZ_square j k (by omega) (by omega)
          have hkp : 0 < k := by omega
          have hxp : 0 ≤ j := by omega
          have v1 : IntKind.u64.wrap k = k := by rw [wrapu]; omega
          have v2 : IntKind.u64.wrap (k * k) = k * k := by rw [wrapu]; omega
          have v3 : IntKind.i64.wrap k = k := IntWalk.i64_in _ ⟨by omega, by omega⟩
          have v4 : j.tdiv k = j / k := Int.tdiv_eq_ediv_of_nonneg hxp
          have v5 : IntKind.i64.wrap (j / k) = j / k := IntWalk.i64_in _ ⟨by have := Int.ediv_nonneg hxp k0; omega, by have := Int.ediv_le_self k hxp; omega⟩
          go_enter Try.func14, Try.ntmps14
          go_wp2_with (first
            | (go_at_call 39; refine (awakec _).mono ?_; rintro e wn ⟨rfl, hbn⟩; replace hb := under0 hb hbn; clear hbn)
            | (go_at_call 45; refine (rtlaw_all _ _ _ (by omega) (by omega) (by omega)).mono ?_; rintro e wn ⟨rfl, hbn⟩; replace hb := (show Below w.heap.size w wn from by first | exact under0 hb hbn | exact under0 hb.drew hbn); clear hbn))
          go_region_held3 (fun _ => True) (trivial) ((go_at_call 45; refine (rtlaw_all _ _ _ (by omega) (by omega) (by omega)).mono ?_; rintro e wn ⟨rfl, hbn⟩; replace hb := (show Below w.heap.size w wn from by first | exact under0 hb hbn | exact under0 hb.drew hbn); clear hbn))
          go_wp2
          go_ret
          exact ⟨rfl, hb⟩
    · by_cases hk : k = 0
      · have f1 := lawZ_falls i n m (by omega)
        have f2 := lawZ_rises i j n (by omega)
        have hz : (k == 0) = true := by simpa using hk
        go_enter Try.func14, Try.ntmps14
        go_wp2_with (first
          | (go_at_call 39; refine (awakec _).mono ?_; rintro e wn ⟨rfl, hbn⟩; replace hb := under0 hb hbn; clear hbn)
          | (go_at_call 45; refine (rtlaw_all _ _ _ (by omega) (by omega) (by omega)).mono ?_; rintro e wn ⟨rfl, hbn⟩; replace hb := (show Below w.heap.size w wn from by first | exact under0 hb hbn | exact under0 hb.drew hbn); clear hbn))
        go_quiet (fail)
        go_wp2
        go_ret
        exact ⟨rfl, below_drewN hb _⟩
      · by_cases hx : i < 0
        · have f1 := lawZ_falls i n m (by omega)
          have f2 := lawZ_rises i j n (by omega)
          have hz : (k == 0) = false := by simpa using hk
          have hd : decide (i < 0) = true := by simpa using hx
          go_enter Try.func14, Try.ntmps14
          go_wp2_with (first
            | (go_at_call 39; refine (awakec _).mono ?_; rintro e wn ⟨rfl, hbn⟩; replace hb := under0 hb hbn; clear hbn)
            | (go_at_call 45; refine (rtlaw_all _ _ _ (by omega) (by omega) (by omega)).mono ?_; rintro e wn ⟨rfl, hbn⟩; replace hb := (show Below w.heap.size w wn from by first | exact under0 hb hbn | exact under0 hb.drew hbn); clear hbn))
          go_quiet (fail)
          go_wp2
          go_ret
          exact ⟨rfl, below_drewN hb _⟩
        · have f1 := lawZ_falls i n m (by omega)
          have f2 := lawZ_rises i j n (by omega)
          have hz : (k == 0) = false := by simpa using hk
          have hd : decide (i < 0) = false := by simpa using hx
          have f3 := lawZ_square i k (by omega) (by omega)
          have hkp : 0 < k := by omega
          have hxp : 0 ≤ i := by omega
          have v1 : IntKind.u64.wrap k = k := by rw [wrapu]; omega
          have v2 : IntKind.u64.wrap (k * k) = k * k := by rw [wrapu]; omega
          have v3 : IntKind.i64.wrap k = k := IntWalk.i64_in _ ⟨by omega, by omega⟩
          have v4 : i.tdiv k = i / k := Int.tdiv_eq_ediv_of_nonneg hxp
          have v5 : IntKind.i64.wrap (i / k) = i / k := IntWalk.i64_in _ ⟨by have := Int.ediv_nonneg hxp k0; omega, by have := Int.ediv_le_self k hxp; omega⟩
          go_enter Try.func14, Try.ntmps14
          go_wp2_with (first
            | (go_at_call 39; refine (awakec _).mono ?_; rintro e wn ⟨rfl, hbn⟩; replace hb := under0 hb hbn; clear hbn)
            | (go_at_call 45; refine (rtlaw_all _ _ _ (by omega) (by omega) (by omega)).mono ?_; rintro e wn ⟨rfl, hbn⟩; replace hb := (show Below w.heap.size w wn from by first | exact under0 hb hbn | exact under0 hb.drew hbn); clear hbn))
          go_region_held3 (fun _ => True) (trivial) ((go_at_call 45; refine (rtlaw_all _ _ _ (by omega) (by omega) (by omega)).mono ?_; rintro e wn ⟨rfl, hbn⟩; replace hb := (show Below w.heap.size w wn from by first | exact under0 hb hbn | exact under0 hb.drew hbn); clear hbn))
          go_wp2
          go_ret
          exact ⟨rfl, hb⟩
set_option maxRecDepth 100000 in
theorem lifted (os : Os) (started : os.Started) (H : Type) (enc : TypeId × Value → H) :
    ReturnsInHanded {} Try.checked os 14 .any (Rows.rootFallsSpec.pre6 enc Try.prog Try.f14 Rows.rootFallsRow.domain false) (Rows.rootFallsSpec.post enc Try.prog Try.f14 false true false false) := by
  refine returnsInHanded_of_change (C := Try.checked) own started (by kernel_rfl) Try.func14
    (ChangeSpec.witness6 (enc := enc) (C := Try.checked) false ⟨#[], #[.int .i64 0, .int .u64 0, .int .u64 0, .int .i64 0, .int .u32 0], []⟩ 8 (by kernel_rfl) (by kernel_rfl) (by kernel_rfl) (by kernel_rfl)) ?_
  intro W base args ds gs before hval0 hW hcnd _
  have hval : ∀ (j : Nat) t v, Try.f14.params[j]? = some t → args[j]? = some v → Value.okWide Try.prog W .any base t v := hval0
  have hW' := hW
  obtain ⟨p, q, hA0, hV, rfl, hfz, hnd⟩ := hW
  have hA : DataW.TrodAll enc Try.prog W 0 (fun _ => true) true Try.f14.params.toList args.toList ds p := hA0
  rw [Try.params14] at hA hval
  obtain ⟨v0, vs0, d0, ds0, p0, q0, hargs, rfl, rfl, h0, r0⟩ := trodAll_cons hA
  obtain ⟨v1, vs1, d1, ds1, p1, q1, rfl, rfl, rfl, h1, r1⟩ := trodAll_cons r0
  obtain ⟨v2, vs2, d2, ds2, p2, q2, rfl, rfl, rfl, h2, r2⟩ := trodAll_cons r1
  obtain ⟨v3, vs3, d3, ds3, p3, q3, rfl, rfl, rfl, h3, r3⟩ := trodAll_cons r2
  obtain ⟨v4, vs4, d4, ds4, p4, q4, rfl, rfl, rfl, h4, r4⟩ := trodAll_cons r3
  obtain ⟨rfl, rfl, rfl⟩ := trodAll_nil r4
  obtain rfl : args = #[v0, v1, v2, v3, v4] := by cases args; simp_all
  obtain ⟨rfl, rfl⟩ := trodVars_none hV
  obtain ⟨a0, rfl, rfl, rfl, w0⟩ := open_int Try.underlying2 (hval 0 _ v0 rfl rfl) h0
  obtain ⟨a1, rfl, rfl, rfl, w1⟩ := open_int Try.underlying22 (hval 1 _ v1 rfl rfl) h1
  obtain ⟨a2, rfl, rfl, rfl, w2⟩ := open_int Try.underlying22 (hval 2 _ v2 rfl rfl) h2
  obtain ⟨a3, rfl, rfl, rfl, w3⟩ := open_int Try.underlying2 (hval 3 _ v3 rfl rfl) h3
  obtain ⟨a4, rfl, rfl, rfl, w4⟩ := open_int Try.underlying66 (hval 4 _ v4 rfl rfl) h4
  clear hA0 hval0
  simp only [List.append_nil] at hW'
  obtain ⟨l0, m0⟩ := wf_i64 w0
  obtain ⟨l1, m1⟩ := wf_u64 w1
  obtain ⟨l2, m2⟩ := wf_u64 w2
  obtain ⟨l3, m3⟩ := wf_i64 w3
  obtain ⟨l4, m4⟩ := wf_u32 w4
  refine (walk a0 a1 a2 a3 a4 W l0 m0 l1 m1 l2 m2 l3 m3 l4 m4).mono fun e W' ⟨he, hg⟩ => ?_
  subst he
  exact ⟨_, rfl, post_of_under (pa := []) (pv := []) hW' (fun _ _ _ => (trodAll_cons_mk (shut_bool Try.underlying4 _) trodAll_mk0)) (fun sp _ => (trodAll_cons_mk (shut_int Try.underlying2 w0) (trodAll_cons_mk (shut_int Try.underlying22 w1) (trodAll_cons_mk (shut_int Try.underlying22 w2) (trodAll_cons_mk (shut_int Try.underlying2 w3) (trodAll_cons_mk (shut_int Try.underlying66 w4) trodAll_mk0)))))) (fun _ _ => rfl) rfl
    hg (ok_one (by kernel_rfl) rfl (okWide_bool_mk Try.underlying4 _))⟩
theorem over : Rows.rootFallsRow.holds Try.pinned (OpenSpec.ofChange Rows.rootFallsSpec) :=
  OpenClaim.holds_of_wide 14 Try.f14 rfl rfl rfl rfl rfl rfl rfl ⟨rfl, rfl, rfl, rfl, rfl⟩ rfl rfl rfl rfl rfl (by kernel_rfl) Try.func14 (by kernel_rfl)
    (of_decide_eq_true (by kernel_rfl)) (by unfold Func.isWrapper; first | (rw [if_pos (by decide +kernel)]; kernel_rfl) | (rw [if_neg (by decide +kernel)]; exact ⟨rfl, rfl⟩))
    (fun os started H enc _ => lifted os started H enc)
theorem proved : Rows.RootFallsSaid := over
end Go.Proofs.Ytapmnlalnmlcoaa.rootFalls
