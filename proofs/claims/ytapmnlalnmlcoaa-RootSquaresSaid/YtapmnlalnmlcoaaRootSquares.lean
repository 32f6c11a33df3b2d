/- RootSquares is true of every n of 64 bits, and changes nothing that it was given. -/
import Derived.Test.YtapmnlalnmlcoaaRootc
import Derived.Test.YtapmnlalnmlcoaaRefq
import Derived.Test.YtapmnlalnmlcoaaRow
import Derived.Test.YtapmnlalnmlcoaaRows
import Derived.WalkKit
import Derived.ProofKit
import Derived.OpenShut
namespace Go.Proofs.Ytapmnlalnmlcoaa.rootSquares
open Go.ChangeShapes Go.WideShapes Go.ChangeAt Go.RowKit Kn
set_option linter.unusedVariables false
theorem own : ownKnob Try.prog.godebug = none := by kernel_rfl
theorem fits_yes (N : Int) (N0 : 0 ≤ N) : fitsB (rootN N) 1 N = true := by
  rw [fits_root _ _ _ (root0 N) N0, show (max 1 1 : Int) = 1 from rfl, Int.ediv_one]; exact decide_eq_true (Int.le_refl _)
theorem fits_no (N : Int) (N0 : 0 ≤ N) : fitsB (rootN N + 1) 1 N = false := by
  rw [fits_root _ _ _ (by have := root0 N; omega) N0, show (max 1 1 : Int) = 1 from rfl, Int.ediv_one]; exact decide_eq_false (by omega)
set_option maxHeartbeats 4000000 in
theorem walk (n : Int) (w : World) (n0 : 0 ≤ n) (n1 : n ≤ 18446744073709551615) :
    Calls Try.prog 11 #[.int .u64 n] w fun e w' => e = .returned (.bool true) ∧ Below w.heap.size w w' := by
  have hb := Below.refl w.heap.size w
  have e0 := num_0 n
  obtain ⟨r, hr⟩ : ∃ r, rootN n = r := ⟨_, rfl⟩
  have r0 : 0 ≤ r := by rw [← hr]; exact root0 n
  have r1 : r ≤ 4294967295 := by rw [← hr]; exact root_32 n n0 n1
  have q0 : 0 ≤ r * r := Int.mul_nonneg r0 r0
  have q1 : r * r ≤ 18446744073709551615 := by have := root_le n n0; rw [hr] at this; omega
  have F1 : fitsB r 1 n = true := by rw [← hr]; exact fits_yes n n0
  have F2 : fitsB (r + 1) 1 n = false := by rw [← hr]; exact fits_no n n0
  by_cases hn : 4294967296 ≤ n
  · have HR := Lib.hid hr; clear hr
    go_enter Try.func11, Try.ntmps11
    go_wp2_with (first
      | (go_at_call 39; refine (awakec _).mono ?_; rintro e wn ⟨rfl, hbn⟩; replace hb := (show Below w.heap.size w _ from by (repeat (first | exact hb | refine Below.alloc ?_ (by have := hb.size; (try simp at this); (try simp); (try omega)) _))).trans (hbn.mono (by have := hb.size; (try simp at this); (try simp); (try omega))); clear hbn)
      | (go_at_call 40; refine (rtsqrt_any _ _ (by omega) (by omega)).mono ?_; rintro e wn ⟨rfl, hbn⟩; rw [HR.out]; replace hb := (show Below w.heap.size w _ from by (repeat (first | exact hb | refine Below.alloc ?_ (by have := hb.size; (try simp at this); (try simp); (try omega)) _))).trans (hbn.mono (by have := hb.size; (try simp at this); (try simp); (try omega))); clear hbn)
      | (go_at_call 41; refine (rrsqrt_any _ _ _ (by omega) (by omega) n0 n1).mono ?_; rintro e wn ⟨rfl, hbn⟩; rw [e0, HR.out]; replace hb := (show Below w.heap.size w _ from by (repeat (first | exact hb | refine Below.alloc ?_ (by have := hb.size; (try simp at this); (try simp); (try omega)) _))).trans (hbn.mono (by have := hb.size; (try simp at this); (try simp); (try omega))); clear hbn)
      | (go_at_call 42; refine (rfits_any _ _ _ _ _ (by omega) (by omega) (by omega) (by omega) (by omega) n0 n1).mono ?_; rintro e wn ⟨rfl, hbn⟩; rw [e0]; (first | rw [F1] | rw [F2]); replace hb := (show Below w.heap.size w _ from by (repeat (first | exact hb | refine Below.alloc ?_ (by have := hb.size; (try simp at this); (try simp); (try omega)) _))).trans (hbn.mono (by have := hb.size; (try simp at this); (try simp); (try omega))); clear hbn)
      | (go_at_call 43; refine (rtsquare_any _ _ (by omega) (by omega)).mono ?_; rintro e wn ⟨rfl, hbn⟩; rw [HR.out]; replace hb := (show Below w.heap.size w _ from by (repeat (first | exact hb | refine Below.alloc ?_ (by have := hb.size; (try simp at this); (try simp); (try omega)) _))).trans (hbn.mono (by have := hb.size; (try simp at this); (try simp); (try omega))); clear hbn))
    go_ret
    exact ⟨rfl, hb⟩
  · have s0 : 0 ≤ n * n := Int.mul_nonneg n0 n0
    have s1 : n * n ≤ 18446744073709551615 := by have := Int.mul_le_mul (show n ≤ 4294967295 by omega) (show n ≤ 4294967295 by omega) n0 (by omega); omega
    have es := root_sq n n0
    have HR := Lib.hid hr; clear hr
    have ES := Lib.hid es; clear es
    go_enter Try.func11, Try.ntmps11
    go_wp2_with (first
      | (go_at_call 39; refine (awakec _).mono ?_; rintro e wn ⟨rfl, hbn⟩; replace hb := (show Below w.heap.size w _ from by (repeat (first | exact hb | refine Below.alloc ?_ (by have := hb.size; (try simp at this); (try simp); (try omega)) _))).trans (hbn.mono (by have := hb.size; (try simp at this); (try simp); (try omega))); clear hbn)
      | (go_at_call 40; refine (rtsqrt_any _ _ (by omega) (by omega)).mono ?_; rintro e wn ⟨rfl, hbn⟩; (first | rw [HR.out] | rw [ES.out]); replace hb := (show Below w.heap.size w _ from by (repeat (first | exact hb | refine Below.alloc ?_ (by have := hb.size; (try simp at this); (try simp); (try omega)) _))).trans (hbn.mono (by have := hb.size; (try simp at this); (try simp); (try omega))); clear hbn)
      | (go_at_call 41; refine (rrsqrt_any _ _ _ (by omega) (by omega) n0 n1).mono ?_; rintro e wn ⟨rfl, hbn⟩; rw [e0, HR.out]; replace hb := (show Below w.heap.size w _ from by (repeat (first | exact hb | refine Below.alloc ?_ (by have := hb.size; (try simp at this); (try simp); (try omega)) _))).trans (hbn.mono (by have := hb.size; (try simp at this); (try simp); (try omega))); clear hbn)
      | (go_at_call 42; refine (rfits_any _ _ _ _ _ (by omega) (by omega) (by omega) (by omega) (by omega) n0 n1).mono ?_; rintro e wn ⟨rfl, hbn⟩; rw [e0]; (first | rw [F1] | rw [F2]); replace hb := (show Below w.heap.size w _ from by (repeat (first | exact hb | refine Below.alloc ?_ (by have := hb.size; (try simp at this); (try simp); (try omega)) _))).trans (hbn.mono (by have := hb.size; (try simp at this); (try simp); (try omega))); clear hbn)
      | (go_at_call 43; refine (rtsquare_any _ _ (by omega) (by omega)).mono ?_; rintro e wn ⟨rfl, hbn⟩; (first | rw [HR.out] | rw [ES.out]); replace hb := (show Below w.heap.size w _ from by (repeat (first | exact hb | refine Below.alloc ?_ (by have := hb.size; (try simp at this); (try simp); (try omega)) _))).trans (hbn.mono (by have := hb.size; (try simp at this); (try simp); (try omega))); clear hbn))
    go_ret
    exact ⟨rfl, hb⟩
set_option maxRecDepth 100000 in
theorem lifted (os : Os) (started : os.Started) (H : Type) (enc : TypeId × Value → H) :
    ReturnsInHanded {} Try.checked os 11 .any (Rows.rootSquaresSpec.pre6 enc Try.prog Try.f11 Rows.rootSquaresRow.domain false) (Rows.rootSquaresSpec.post enc Try.prog Try.f11 false true false false) := by
  refine returnsInHanded_of_change (C := Try.checked) own started (by kernel_rfl) Try.func11
    (ChangeSpec.witness6 (enc := enc) (C := Try.checked) false ⟨#[], #[.int .u64 0], []⟩ 8 (by kernel_rfl) (by kernel_rfl) (by kernel_rfl) (by kernel_rfl)) ?_
  intro W base args ds gs before hval0 hW hcnd _
  have hval : ∀ (j : Nat) t v, Try.f11.params[j]? = some t → args[j]? = some v → Value.okWide Try.prog W .any base t v := hval0
  have hW' := hW
  obtain ⟨p, q, hA0, hV, rfl, hfz, hnd⟩ := hW
  have hA : DataW.TrodAll enc Try.prog W 0 (fun _ => true) true Try.f11.params.toList args.toList ds p := hA0
  rw [Try.params11] at hA hval
  obtain ⟨v0, vs0, d0, ds0, p0, q0, hargs, rfl, rfl, h0, r0⟩ := trodAll_cons hA
  obtain ⟨rfl, rfl, rfl⟩ := trodAll_nil r0
  obtain rfl : args = #[v0] := by cases args; simp_all
  obtain ⟨rfl, rfl⟩ := trodVars_none hV
  obtain ⟨a0, rfl, rfl, rfl, w0⟩ := open_int Try.underlying22 (hval 0 _ v0 rfl rfl) h0
  clear hA0 hval0
  simp only [List.append_nil] at hW'
  obtain ⟨l0, m0⟩ := wf_u64 w0
  refine (walk a0 W l0 m0).mono fun e W' ⟨he, hg⟩ => ?_
  subst he
  exact ⟨_, rfl, post_of_under (pa := []) (pv := []) hW' (fun _ _ _ => (trodAll_cons_mk (shut_bool Try.underlying4 _) trodAll_mk0)) (fun sp _ => (trodAll_cons_mk (shut_int Try.underlying22 w0) trodAll_mk0)) (fun _ _ => rfl) rfl
    hg (ok_one (by kernel_rfl) rfl (okWide_bool_mk Try.underlying4 _))⟩
theorem over : Rows.rootSquaresRow.holds Try.pinned (OpenSpec.ofChange Rows.rootSquaresSpec) :=
  OpenClaim.holds_of_wide 11 Try.f11 rfl rfl rfl rfl rfl rfl rfl ⟨rfl, rfl, rfl, rfl, rfl⟩ rfl rfl rfl rfl rfl (by kernel_rfl) Try.func11 (by kernel_rfl)
    (of_decide_eq_true (by kernel_rfl)) (by unfold Func.isWrapper; first | (rw [if_pos (by decide +kernel)]; kernel_rfl) | (rw [if_neg (by decide +kernel)]; exact ⟨rfl, rfl⟩))
    (fun os started H enc _ => lifted os started H enc)
theorem proved : Rows.RootSquaresSaid := over
end Go.Proofs.Ytapmnlalnmlcoaa.rootSquares
