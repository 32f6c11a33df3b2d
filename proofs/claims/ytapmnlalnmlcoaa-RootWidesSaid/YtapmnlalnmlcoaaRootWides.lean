/- RootWides is true of every number of 128 bits, and changes nothing that it was given. -/
import Derived.Test.YtapmnlalnmlcoaaRootc
import Derived.Test.YtapmnlalnmlcoaaRefq
import Derived.Test.YtapmnlalnmlcoaaRow
import Derived.Test.YtapmnlalnmlcoaaRows
import Derived.WalkKit
import Derived.ProofKit
import Derived.OpenShut
import Derived.Lib.SmallJoins
namespace Go.Proofs.Ytapmnlalnmlcoaa.rootWides
open Go.ChangeShapes Go.WideShapes Go.ChangeAt Go.RowKit Kn
set_option linter.unusedVariables false
theorem own : ownKnob Try.prog.godebug = none := by kernel_rfl
theorem fits_yes (N : Int) (N0 : 0 ≤ N) : fitsB (rootN N) 1 N = true := by
  rw [fits_root _ _ _ (root0 N) N0, show (max 1 1 : Int) = 1 from rfl, Int.ediv_one]; exact decide_eq_true (Int.le_refl _)
theorem fits_no (N : Int) (N0 : 0 ≤ N) : fitsB (rootN N + 1) 1 N = false := by
  rw [fits_root _ _ _ (by have := root0 N; omega) N0, show (max 1 1 : Int) = 1 from rfl, Int.ediv_one]; exact decide_eq_false (by omega)
set_option maxHeartbeats 4000000 in
theorem walk (h l : Int) (w : World) (h0 : 0 ≤ h) (h1 : h ≤ 18446744073709551615) (l0 : 0 ≤ l) (l1 : l ≤ 18446744073709551615) :
    Calls Try.prog 12 #[.agg #[.int .u64 h, .int .u64 l]] w fun e w' => e = .returned (.bool true) ∧ Below w.heap.size w w' := by
  have hb := Below.refl w.heap.size w
  have N0 := num0 h l h0 l0
  have N1 := num1 h l h1 l1
  obtain ⟨r, hr⟩ : ∃ r, rootN (num h l) = r := ⟨_, rfl⟩
  have r0 : 0 ≤ r := by rw [← hr]; exact root0 _
  have r1 : r ≤ 18446744073709551615 := by rw [← hr]; exact root_64 _ N0 N1
  have F1 : fitsB r 1 (num h l) = true := by rw [← hr]; exact fits_yes _ N0
  have F2 : fitsB (r + 1) 1 (num h l) = false := by rw [← hr]; exact fits_no _ N0
  have HR := Lib.hid hr; clear hr
  by_cases hn : r = 18446744073709551615
  · have hz : (r == 18446744073709551615) = true := by simpa using hn
    have HN := Lib.hid hn; clear hn
    go_enter Try.func12, Try.ntmps12
    go_wp2_with (first
      | (go_at_call 39; refine (awakec _).mono ?_; rintro e w1 ⟨rfl, hbn⟩; obtain ⟨hcn, hfn⟩ := bcell hbn; have hq0 : w.heap.size < w1.heap.size := (by have := hbn.size; (try simp at this); omega); replace hb := (show Below w.heap.size w _ from by (repeat (first | exact hb | refine Below.alloc ?_ (by have := hb.size; (try simp at this); (try simp); (try omega)) _))).trans (hbn.mono (by have := hb.size; (try simp at this); (try simp); (try omega))); clear hbn)
      | (go_at_call 44; refine (rtwide_any _ _ _ h0 h1 l0 l1).mono ?_; rintro e wn ⟨rfl, hbn⟩; rw [HR.out]; obtain ⟨hcn, hfn⟩ := bcell hbn; have hq0 : w.heap.size < wn.heap.size := (by have := hbn.size; (try simp at this); omega); have hq1 : w1.heap.size < wn.heap.size := (by have := hbn.size; (try simp at this); omega); replace hb := (show Below w.heap.size w _ from by (repeat (first | exact hb | refine Below.alloc ?_ (by have := hb.size; (try simp at this); (try simp); (try omega)) _))).trans (hbn.mono (by have := hb.size; (try simp at this); (try simp); (try omega))); clear hbn)
      | (go_at_call 41; refine (rrsqrt_any _ _ _ h0 h1 l0 l1).mono ?_; rintro e wn ⟨rfl, hbn⟩; rw [HR.out]; obtain ⟨hcn, hfn⟩ := bcell hbn; have hq0 : w.heap.size < wn.heap.size := (by have := hbn.size; (try simp at this); omega); have hq1 : w1.heap.size < wn.heap.size := (by have := hbn.size; (try simp at this); omega); replace hb := (show Below w.heap.size w _ from by (repeat (first | exact hb | refine Below.alloc ?_ (by have := hb.size; (try simp at this); (try simp); (try omega)) _))).trans (hbn.mono (by have := hb.size; (try simp at this); (try simp); (try omega))); clear hbn)
      | (go_at_call 42; refine (rfits_any _ _ _ _ _ (by omega) (by omega) (by omega) h0 h1 l0 l1).mono ?_; rintro e wn ⟨rfl, hbn⟩; (first | rw [F1] | rw [F2]); obtain ⟨hcn, hfn⟩ := bcell hbn; have hq0 : w.heap.size < wn.heap.size := (by have := hbn.size; (try simp at this); omega); have hq1 : w1.heap.size < wn.heap.size := (by have := hbn.size; (try simp at this); omega); replace hb := (show Below w.heap.size w _ from by (repeat (first | exact hb | refine Below.alloc ?_ (by have := hb.size; (try simp at this); (try simp); (try omega)) _))).trans (hbn.mono (by have := hb.size; (try simp at this); (try simp); (try omega))); clear hbn))
    go_ret
    exact ⟨rfl, hb⟩
  · have hz : (r == 18446744073709551615) = false := by simpa using hn
    go_enter Try.func12, Try.ntmps12
    go_wp2_with (first
      | (go_at_call 39; refine (awakec _).mono ?_; rintro e w1 ⟨rfl, hbn⟩; obtain ⟨hcn, hfn⟩ := bcell hbn; have hq0 : w.heap.size < w1.heap.size := (by have := hbn.size; (try simp at this); omega); replace hb := (show Below w.heap.size w _ from by (repeat (first | exact hb | refine Below.alloc ?_ (by have := hb.size; (try simp at this); (try simp); (try omega)) _))).trans (hbn.mono (by have := hb.size; (try simp at this); (try simp); (try omega))); clear hbn)
      | (go_at_call 44; refine (rtwide_any _ _ _ h0 h1 l0 l1).mono ?_; rintro e wn ⟨rfl, hbn⟩; rw [HR.out]; obtain ⟨hcn, hfn⟩ := bcell hbn; have hq0 : w.heap.size < wn.heap.size := (by have := hbn.size; (try simp at this); omega); have hq1 : w1.heap.size < wn.heap.size := (by have := hbn.size; (try simp at this); omega); replace hb := (show Below w.heap.size w _ from by (repeat (first | exact hb | refine Below.alloc ?_ (by have := hb.size; (try simp at this); (try simp); (try omega)) _))).trans (hbn.mono (by have := hb.size; (try simp at this); (try simp); (try omega))); clear hbn)
      | (go_at_call 41; refine (rrsqrt_any _ _ _ h0 h1 l0 l1).mono ?_; rintro e wn ⟨rfl, hbn⟩; rw [HR.out]; obtain ⟨hcn, hfn⟩ := bcell hbn; have hq0 : w.heap.size < wn.heap.size := (by have := hbn.size; (try simp at this); omega); have hq1 : w1.heap.size < wn.heap.size := (by have := hbn.size; (try simp at this); omega); replace hb := (show Below w.heap.size w _ from by (repeat (first | exact hb | refine Below.alloc ?_ (by have := hb.size; (try simp at this); (try simp); (try omega)) _))).trans (hbn.mono (by have := hb.size; (try simp at this); (try simp); (try omega))); clear hbn)
      | (go_at_call 42; refine (rfits_any _ _ _ _ _ (by omega) (by omega) (by omega) h0 h1 l0 l1).mono ?_; rintro e wn ⟨rfl, hbn⟩; (first | rw [F1] | rw [F2]); obtain ⟨hcn, hfn⟩ := bcell hbn; have hq0 : w.heap.size < wn.heap.size := (by have := hbn.size; (try simp at this); omega); have hq1 : w1.heap.size < wn.heap.size := (by have := hbn.size; (try simp at this); omega); replace hb := (show Below w.heap.size w _ from by (repeat (first | exact hb | refine Below.alloc ?_ (by have := hb.size; (try simp at this); (try simp); (try omega)) _))).trans (hbn.mono (by have := hb.size; (try simp at this); (try simp); (try omega))); clear hbn))
    go_ret
    exact ⟨rfl, hb⟩
theorem cnum : Try.prog.cellsOf 24 = 2 := by kernel_rfl
theorem numReads {H : Type} {enc : TypeId × Value → H} (a b : Int) (wa : (Lit.int .u64 a).wf = true) (wb : (Lit.int .u64 b).wf = true) (W : World) (sp : Nat → Bool) : DataW.Trod enc Try.prog W 0 sp true 24 (.agg #[.int .u64 a, .int .u64 b]) (.agg [.lit (.int .u64 a), .lit (.int .u64 b)]) [] :=
  Joins.shut_agg2 (y0 := (.lit (.int .u64 a), [])) (y1 := (.lit (.int .u64 b), [])) Try.underlying24 (by kernel_rfl) cnum ⟨1, by simp [DataW.trod, Try.underlying22, wa]⟩ ⟨1, by simp [DataW.trod, Try.underlying22, wb]⟩
set_option maxRecDepth 100000 in
theorem lifted (os : Os) (started : os.Started) (H : Type) (enc : TypeId × Value → H) :
    ReturnsInHanded {} Try.checked os 12 .any (Rows.rootWidesSpec.pre6 enc Try.prog Try.f12 Rows.rootWidesRow.domain false) (Rows.rootWidesSpec.post enc Try.prog Try.f12 false true false false) := by
  refine returnsInHanded_of_change (C := Try.checked) own started (by kernel_rfl) Try.func12
    (ChangeSpec.witness6 (enc := enc) (C := Try.checked) false ⟨#[], #[.agg #[.int .u64 0, .int .u64 0]], []⟩ 8 (by kernel_rfl) (by kernel_rfl) (by kernel_rfl) (by kernel_rfl)) ?_
  intro W base args ds gs before hval0 hW hcnd _
  have hval : ∀ (j : Nat) t v, Try.f12.params[j]? = some t → args[j]? = some v → Value.okWide Try.prog W .any base t v := hval0
  have hW' := hW
  obtain ⟨p, q, hA0, hV, rfl, hfz, hnd⟩ := hW
  have hA : DataW.TrodAll enc Try.prog W 0 (fun _ => true) true Try.f12.params.toList args.toList ds p := hA0
  rw [Try.params12] at hA hval
  obtain ⟨v0, vs0, d0, ds0, p0, q0, hargs, rfl, rfl, h0, r0⟩ := trodAll_cons hA
  obtain ⟨rfl, rfl, rfl⟩ := trodAll_nil r0
  obtain rfl : args = #[v0] := by cases args; simp_all
  obtain ⟨rfl, rfl⟩ := trodVars_none hV
  obtain ⟨x0, z0, y0, u0, n0, rfl, rfl, rfl, e0, g0⟩ := Joins.open_agg2 Try.underlying24 (by kernel_rfl) cnum (hval 0 _ v0 rfl rfl) h0
  obtain ⟨a0, ea0, rfl, wa0⟩ := DataW.trod_int Try.underlying22 e0
  obtain ⟨b0, eb0, rfl, wb0⟩ := DataW.trod_int Try.underlying22 g0
  simp at ea0 eb0
  subst ea0 eb0
  clear hA0 hval0
  simp only [List.append_nil] at hW'
  obtain ⟨la0, ma0⟩ := wf_u64 wa0
  obtain ⟨lb0, mb0⟩ := wf_u64 wb0
  refine (walk a0 b0 W la0 ma0 lb0 mb0).mono fun e W' ⟨he, hg⟩ => ?_
  subst he
  exact ⟨_, rfl, post_of_under (pa := []) (pv := []) hW' (fun _ _ _ => (trodAll_cons_mk (shut_bool Try.underlying4 _) trodAll_mk0)) (fun sp _ => (trodAll_cons_mk (numReads a0 b0 wa0 wb0 _ sp) trodAll_mk0)) (fun _ _ => rfl) rfl
    hg (ok_one (by kernel_rfl) rfl (okWide_bool_mk Try.underlying4 _))⟩
theorem over : Rows.rootWidesRow.holds Try.pinned (OpenSpec.ofChange Rows.rootWidesSpec) :=
  OpenClaim.holds_of_wide 12 Try.f12 rfl rfl rfl rfl rfl rfl rfl ⟨rfl, rfl, rfl, rfl, rfl⟩ rfl rfl rfl rfl rfl (by kernel_rfl) Try.func12 (by kernel_rfl)
    (of_decide_eq_true (by kernel_rfl)) (by unfold Func.isWrapper; first | (rw [if_pos (by decide +kernel)]; kernel_rfl) | (rw [if_neg (by decide +kernel)]; exact ⟨rfl, rfl⟩))
    (fun os started H enc _ => lifted os started H enc)
theorem proved : Rows.RootWidesSaid := over
end Go.Proofs.Ytapmnlalnmlcoaa.rootWides
