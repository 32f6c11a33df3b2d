/- RootLaws is true of every interval and count, and changes nothing that it was given. -/
import Derived.Test.YtapmnlalnmlcoaaRootc
import Derived.Test.YtapmnlalnmlcoaaRefq
import Derived.Test.YtapmnlalnmlcoaaRow
import Derived.Test.YtapmnlalnmlcoaaRows
import Derived.WalkKit
import Derived.ProofKit
import Derived.OpenShut
namespace Go.Proofs.Ytapmnlalnmlcoaa.rootLaws
open Go.ChangeShapes Go.WideShapes Go.ChangeAt Go.RowKit Kn
set_option linter.unusedVariables false
theorem own : ownKnob Try.prog.godebug = none := by kernel_rfl
set_option maxHeartbeats 4000000 in
theorem walk (i n : Int) (w : World) (i0 : -9223372036854775808 ≤ i) (i1 : i ≤ 9223372036854775807) (n0 : 0 ≤ n) (n1 : n ≤ 18446744073709551615) :
    Calls Try.prog 13 #[.int .i64 i, .int .u64 n] w fun e w' => e = .returned (.bool true) ∧ Below w.heap.size w w' := by
  have hb := Below.refl w.heap.size w
  by_cases hi' : i < 0
  · have ez : lawZ i n = 0 := by unfold lawZ; rw [if_pos hi']
    have er : lawR i n = 0 := by unfold lawR; rw [if_pos (by omega)]
    have EZ := Lib.hid ez; have ER := Lib.hid er; clear ez er
    go_enter Try.func13, Try.ntmps13
    go_wp2_with (first
      | (go_at_call 39; refine (awakec _).mono ?_; rintro e wn ⟨rfl, hbn⟩; replace hb := (show Below w.heap.size w _ from by (repeat (first | exact hb | refine Below.alloc ?_ (by have := hb.size; (try simp at this); (try simp); (try omega)) _))).trans (hbn.mono (by have := hb.size; (try simp at this); (try simp); (try omega))); clear hbn)
      | (go_at_call 45; refine (rtlaw_all _ _ _ i1 n0 n1).mono ?_; rintro e wn ⟨rfl, hbn⟩; rw [EZ.out]; replace hb := (show Below w.heap.size w _ from by (repeat (first | exact hb | refine Below.alloc ?_ (by have := hb.size; (try simp at this); (try simp); (try omega)) _))).trans (hbn.mono (by have := hb.size; (try simp at this); (try simp); (try omega))); clear hbn)
      | (go_at_call 46; refine (rrlaw_any _ _ _ i1 n0 n1).mono ?_; rintro e wn ⟨rfl, hbn⟩; rw [ER.out]; replace hb := (show Below w.heap.size w _ from by (repeat (first | exact hb | refine Below.alloc ?_ (by have := hb.size; (try simp at this); (try simp); (try omega)) _))).trans (hbn.mono (by have := hb.size; (try simp at this); (try simp); (try omega))); clear hbn))
    go_ret
    exact ⟨rfl, hb⟩
  · have p0 : 0 ≤ i := by omega
    have ez : lawZ i n = lawN i n := by unfold lawZ; rw [if_neg hi']
    have er : lawR i n = lawN i n := by
      unfold lawR
      split
      · obtain rfl : i = 0 := by omega
        have a := law_le 0 n (by omega); have b := law0 0 n; omega
      · rfl
    have q0 : 0 ≤ i * i := Int.mul_nonneg p0 p0
    have q1 : i * i < 340282366920938463463374607431768211456 := by have := Int.mul_le_mul i1 i1 p0 (by omega); omega
    have k0 := hi0 _ q0
    have k1 := hi1 _ q1
    have k2 := lo0 (i * i)
    have k3 := lo1 (i * i)
    have en := num_hi_lo (i * i)
    obtain ⟨v, hv⟩ : ∃ v, lawN i n = v := ⟨_, rfl⟩
    have v0 : 0 ≤ v := by rw [← hv]; exact law0 i n
    have v1 : v ≤ i := by rw [← hv]; exact law_le i n p0
    have F1 : fitsB v n (i * i) = true := by rw [fits_root _ _ _ v0 q0]; refine decide_eq_true ?_; rw [← hv]; exact Int.le_refl _
    have F2 : fitsB (v + 1) n (i * i) = false := by rw [fits_root _ _ _ (by omega) q0]; refine decide_eq_false ?_; show ¬ v + 1 ≤ lawN i n; omega
    rw [hv] at ez er
    have EZ := Lib.hid ez; have ER := Lib.hid er; clear ez er
    have EN := Lib.hid en; clear en hv q0 q1
    have vw : IntKind.u64.wrap v = v := by rw [wrapu]; omega
    go_enter Try.func13, Try.ntmps13
    go_wp2_with (first
      | (go_at_call 39; refine (awakec _).mono ?_; rintro e wn ⟨rfl, hbn⟩; replace hb := (show Below w.heap.size w _ from by (repeat (first | exact hb | refine Below.alloc ?_ (by have := hb.size; (try simp at this); (try simp); (try omega)) _))).trans (hbn.mono (by have := hb.size; (try simp at this); (try simp); (try omega))); clear hbn)
      | (go_at_call 45; refine (rtlaw_all _ _ _ i1 n0 n1).mono ?_; rintro e wn ⟨rfl, hbn⟩; rw [EZ.out]; replace hb := (show Below w.heap.size w _ from by (repeat (first | exact hb | refine Below.alloc ?_ (by have := hb.size; (try simp at this); (try simp); (try omega)) _))).trans (hbn.mono (by have := hb.size; (try simp at this); (try simp); (try omega))); clear hbn)
      | (go_at_call 46; refine (rrlaw_any _ _ _ i1 n0 n1).mono ?_; rintro e wn ⟨rfl, hbn⟩; rw [ER.out]; replace hb := (show Below w.heap.size w _ from by (repeat (first | exact hb | refine Below.alloc ?_ (by have := hb.size; (try simp at this); (try simp); (try omega)) _))).trans (hbn.mono (by have := hb.size; (try simp at this); (try simp); (try omega))); clear hbn)
      | (go_at_call 24; refine (rmul_any _ _ _ (by omega) (by omega) (by omega) (by omega)).mono ?_; rintro e wn ⟨rfl, hbn⟩; replace hb := (show Below w.heap.size w _ from by (repeat (first | exact hb | refine Below.alloc ?_ (by have := hb.size; (try simp at this); (try simp); (try omega)) _))).trans (hbn.mono (by have := hb.size; (try simp at this); (try simp); (try omega))); clear hbn)
      | (go_at_call 42; refine (rfits_any _ _ _ _ _ (by omega) (by omega) n1 k0 k1 k2 k3).mono ?_; rintro e wn ⟨rfl, hbn⟩; rw [EN.out]; (first | rw [F1] | rw [F2]); obtain ⟨hcn, hfn⟩ := bcell hbn; have hsz := hbn.size; (try simp at hsz); replace hb := (show Below w.heap.size w _ from by (repeat (first | exact hb | refine Below.alloc ?_ (by have := hb.size; (try simp at this); (try simp); (try omega)) _))).trans (hbn.mono (by have := hb.size; (try simp at this); (try simp); (try omega))); clear hbn))
    go_ret
    exact ⟨rfl, hb⟩
set_option maxRecDepth 100000 in
theorem lifted (os : Os) (started : os.Started) (H : Type) (enc : TypeId × Value → H) :
    ReturnsInHanded {} Try.checked os 13 .any (Rows.rootLawsSpec.pre6 enc Try.prog Try.f13 Rows.rootLawsRow.domain false) (Rows.rootLawsSpec.post enc Try.prog Try.f13 false true false false) := by
  refine returnsInHanded_of_change (C := Try.checked) own started (by kernel_rfl) Try.func13
    (ChangeSpec.witness6 (enc := enc) (C := Try.checked) false ⟨#[], #[.int .i64 0, .int .u64 0], []⟩ 8 (by kernel_rfl) (by kernel_rfl) (by kernel_rfl) (by kernel_rfl)) ?_
  intro W base args ds gs before hval0 hW hcnd _
  have hval : ∀ (j : Nat) t v, Try.f13.params[j]? = some t → args[j]? = some v → Value.okWide Try.prog W .any base t v := hval0
  have hW' := hW
  obtain ⟨p, q, hA0, hV, rfl, hfz, hnd⟩ := hW
  have hA : DataW.TrodAll enc Try.prog W 0 (fun _ => true) true Try.f13.params.toList args.toList ds p := hA0
  rw [Try.params13] at hA hval
  obtain ⟨v0, vs0, d0, ds0, p0, q0, hargs, rfl, rfl, h0, r0⟩ := trodAll_cons hA
  obtain ⟨v1, vs1, d1, ds1, p1, q1, rfl, rfl, rfl, h1, r1⟩ := trodAll_cons r0
  obtain ⟨rfl, rfl, rfl⟩ := trodAll_nil r1
  obtain rfl : args = #[v0, v1] := by cases args; simp_all
  obtain ⟨rfl, rfl⟩ := trodVars_none hV
  obtain ⟨a0, rfl, rfl, rfl, w0⟩ := open_int Try.underlying2 (hval 0 _ v0 rfl rfl) h0
  obtain ⟨a1, rfl, rfl, rfl, w1⟩ := open_int Try.underlying22 (hval 1 _ v1 rfl rfl) h1
  clear hA0 hval0
  simp only [List.append_nil] at hW'
  obtain ⟨l0, m0⟩ := wf_i64 w0
  obtain ⟨l1, m1⟩ := wf_u64 w1
  refine (walk a0 a1 W l0 m0 l1 m1).mono fun e W' ⟨he, hg⟩ => ?_
  subst he
  exact ⟨_, rfl, post_of_under (pa := []) (pv := []) hW' (fun _ _ _ => (trodAll_cons_mk (shut_bool Try.underlying4 _) trodAll_mk0)) (fun sp _ => (trodAll_cons_mk (shut_int Try.underlying2 w0) (trodAll_cons_mk (shut_int Try.underlying22 w1) trodAll_mk0))) (fun _ _ => rfl) rfl
    hg (ok_one (by kernel_rfl) rfl (okWide_bool_mk Try.underlying4 _))⟩
theorem over : Rows.rootLawsRow.holds Try.pinned (OpenSpec.ofChange Rows.rootLawsSpec) :=
  OpenClaim.holds_of_wide 13 Try.f13 rfl rfl rfl rfl rfl rfl rfl ⟨rfl, rfl, rfl, rfl, rfl⟩ rfl rfl rfl rfl rfl (by kernel_rfl) Try.func13 (by kernel_rfl)
    (of_decide_eq_true (by kernel_rfl)) (by unfold Func.isWrapper; first | (rw [if_pos (by decide +kernel)]; kernel_rfl) | (rw [if_neg (by decide +kernel)]; exact ⟨rfl, rfl⟩))
    (fun os started H enc _ => lifted os started H enc)
theorem proved : Rows.RootLawsSaid := over
end Go.Proofs.Ytapmnlalnmlcoaa.rootLaws
