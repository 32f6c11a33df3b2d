/- WideShifts is true of every number of 128 bits and every count, and changes nothing that it was given. -/
import Derived.Test.YtapmnlalnmlcoaaAwakea
import Derived.Test.YtapmnlalnmlcoaaRefk
import Derived.Test.YtapmnlalnmlcoaaRefn
import Derived.Test.YtapmnlalnmlcoaaWideb
import Derived.Test.YtapmnlalnmlcoaaHelp
import Derived.Test.YtapmnlalnmlcoaaHelpb
import Derived.Test.YtapmnlalnmlcoaaOwnn
import Derived.Test.YtapmnlalnmlcoaaRow
import Derived.Test.YtapmnlalnmlcoaaRows
import Derived.WalkKit
import Derived.ProofKit
import Derived.OpenShut
import Derived.Deep.DeepCutAuto
import Derived.Lib.SmallJoins
namespace Go.Proofs.Ytapmnlalnmlcoaa.wideShifts
open Go.ChangeShapes Go.WideShapes Go.ChangeAt Go.RowKit Kn
set_option linter.unusedVariables false
theorem own : ownKnob Try.prog.godebug = none := by kernel_rfl
set_option maxHeartbeats 8000000 in
theorem walk (h l k : Int) (w : World) (h0 : 0 ≤ h) (h1 : h ≤ 18446744073709551615) (l0 : 0 ≤ l) (l1 : l ≤ 18446744073709551615) (k0 : -9223372036854775808 ≤ k) (k1 : k ≤ 9223372036854775807) :
    Calls Try.prog 6 #[.agg #[.int .u64 h, .int .u64 l], .int .i64 k] w fun e w' => e = .returned (.bool true) ∧ Below w.heap.size w w' := by
  have hb := Below.refl w.heap.size w
  obtain ⟨T, hT⟩ : ∃ T, leftN (num h l) k.toNat = T := ⟨_, rfl⟩
  obtain ⟨D, hD⟩ : ∃ D, rightN (num h l) k.toNat = D := ⟨_, rfl⟩
  have HT := Lib.hid hT; have HD := Lib.hid hD
  clear hT hD
  go_enter Try.func6, Try.ntmps6
  go_wp2_with fail
  refine (awakea _).mono ?_
  rintro e w1 ⟨rfl, hb1⟩
  have a0 : w1.cell? ⟨w.heap.size, 0, none⟩ = some (.int .u64 h) := cell_later hb1 (by (repeat (first | with_reducible assumption | (simp [go_sem]; done) | (simp [go_sem, *]; done) | with_reducible refine kdrew ?_ | (with_reducible refine ksame ?_; (simp [go_sem, *]; done)) | with_reducible refine kother ?_ (by simp; try omega) | with_reducible refine kalloc ?_ _)))
  have a1 : w1.cell? ⟨w.heap.size, 1, none⟩ = some (.int .u64 l) := cell_later hb1 (by (repeat (first | with_reducible assumption | (simp [go_sem]; done) | (simp [go_sem, *]; done) | with_reducible refine kdrew ?_ | (with_reducible refine ksame ?_; (simp [go_sem, *]; done)) | with_reducible refine kother ?_ (by simp; try omega) | with_reducible refine kalloc ?_ _)))
  have za0 : w.heap.size < w1.heap.size := klt a0
  replace hb := (show Below w.heap.size w _ from by (repeat (first | exact hb | apply Below.drew | apply below_drewN | refine Below.setCell ?_ (by have := hb.size; (try simp at this); (try simp); (try omega)) _ | refine Below.alloc ?_ (by have := hb.size; (try simp at this); (try simp); (try omega)) _))).trans (hb1.mono (by have := hb.size; (try simp at this); (try simp); (try omega)))
  clear hb1
  go_wp2_with fail
  go_region_held3 (fun w' => w'.cell? ⟨w.heap.size, 0, none⟩ = some (.int .u64 h) ∧ w'.cell? ⟨w.heap.size, 1, none⟩ = some (.int .u64 l)) (refine ⟨?_, ?_⟩ <;> (repeat (first | with_reducible assumption | (simp [go_sem]; done) | (simp [go_sem, *]; done) | with_reducible refine kdrew ?_ | (with_reducible refine ksame ?_; (simp [go_sem, *]; done)) | with_reducible refine kother ?_ (by simp; try omega) | with_reducible refine kalloc ?_ _)))
    (first
      | (go_at_call 20; refine (own_any _ _ _).mono ?_; rintro e wn ⟨rfl, hbn⟩; replace a0 : wn.cell? ⟨w.heap.size, 0, none⟩ = some (.int .u64 h) := cell_later hbn (by (repeat (first | with_reducible exact a0 | with_reducible refine kalloc ?_ _ | with_reducible refine kdrew ?_ | with_reducible refine kdrewN ?_ _))); replace a1 : wn.cell? ⟨w.heap.size, 1, none⟩ = some (.int .u64 l) := cell_later hbn (by (repeat (first | with_reducible exact a1 | with_reducible refine kalloc ?_ _ | with_reducible refine kdrew ?_ | with_reducible refine kdrewN ?_ _))); have za0 : w.heap.size < wn.heap.size := klt a0; replace hb := (show Below w.heap.size w _ from by (repeat (first | exact hb | apply Below.drew | apply below_drewN | refine Below.setCell ?_ (by have := hb.size; (try simp at this); (try simp); (try omega)) _ | refine Below.alloc ?_ (by have := hb.size; (try simp at this); (try simp); (try omega)) _))).trans (hbn.mono (by have := hb.size; (try simp at this); (try simp); (try omega))); obtain ⟨hcn, hfn⟩ := bcell hbn; (try (have hsr := Nat.lt_of_lt_of_le hsq hbn.size)); (try (have hsq := Nat.lt_of_lt_of_le hsy hbn.size)); have hsz := hbn.size; (try simp at hsz); (try (have hsy := Nat.lt_of_succ_le hsz)); clear hbn)
      | (go_at_call 27; refine (wleft_any _ _ _ _ h0 h1 l0 l1 k1).mono ?_; rintro e wn ⟨rfl, hbn⟩; rw [HT.out]; replace a0 : wn.cell? ⟨w.heap.size, 0, none⟩ = some (.int .u64 h) := cell_later hbn (by (repeat (first | with_reducible exact a0 | with_reducible refine kalloc ?_ _ | with_reducible refine kdrew ?_ | with_reducible refine kdrewN ?_ _))); replace a1 : wn.cell? ⟨w.heap.size, 1, none⟩ = some (.int .u64 l) := cell_later hbn (by (repeat (first | with_reducible exact a1 | with_reducible refine kalloc ?_ _ | with_reducible refine kdrew ?_ | with_reducible refine kdrewN ?_ _))); have za0 : w.heap.size < wn.heap.size := klt a0; replace hb := (show Below w.heap.size w _ from by (repeat (first | exact hb | apply Below.drew | apply below_drewN | refine Below.setCell ?_ (by have := hb.size; (try simp at this); (try simp); (try omega)) _ | refine Below.alloc ?_ (by have := hb.size; (try simp at this); (try simp); (try omega)) _))).trans (hbn.mono (by have := hb.size; (try simp at this); (try simp); (try omega))); obtain ⟨hcn, hfn⟩ := bcell hbn; (try (have hsr := Nat.lt_of_lt_of_le hsq hbn.size)); (try (have hsq := Nat.lt_of_lt_of_le hsy hbn.size)); have hsz := hbn.size; (try simp at hsz); (try (have hsy := Nat.lt_of_succ_le hsz)); clear hbn)
      | (go_at_call 29; refine (wright_any _ _ _ _ h0 h1 l0 l1 k1).mono ?_; rintro e wn ⟨rfl, hbn⟩; rw [HD.out]; replace a0 : wn.cell? ⟨w.heap.size, 0, none⟩ = some (.int .u64 h) := cell_later hbn (by (repeat (first | with_reducible exact a0 | with_reducible refine kalloc ?_ _ | with_reducible refine kdrew ?_ | with_reducible refine kdrewN ?_ _))); replace a1 : wn.cell? ⟨w.heap.size, 1, none⟩ = some (.int .u64 l) := cell_later hbn (by (repeat (first | with_reducible exact a1 | with_reducible refine kalloc ?_ _ | with_reducible refine kdrew ?_ | with_reducible refine kdrewN ?_ _))); have za0 : w.heap.size < wn.heap.size := klt a0; replace hb := (show Below w.heap.size w _ from by (repeat (first | exact hb | apply Below.drew | apply below_drewN | refine Below.setCell ?_ (by have := hb.size; (try simp at this); (try simp); (try omega)) _ | refine Below.alloc ?_ (by have := hb.size; (try simp at this); (try simp); (try omega)) _))).trans (hbn.mono (by have := hb.size; (try simp at this); (try simp); (try omega))); obtain ⟨hcn, hfn⟩ := bcell hbn; (try (have hsr := Nat.lt_of_lt_of_le hsq hbn.size)); (try (have hsq := Nat.lt_of_lt_of_le hsy hbn.size)); have hsz := hbn.size; (try simp at hsz); (try (have hsy := Nat.lt_of_succ_le hsz)); clear hbn)
      | (go_at_call 28; refine (rleft_any _ _ _ _ h0 h1 l0 l1).mono ?_; rintro e wn ⟨rfl, hbn⟩; rw [HT.out]; replace a0 : wn.cell? ⟨w.heap.size, 0, none⟩ = some (.int .u64 h) := cell_later hbn (by (repeat (first | with_reducible exact a0 | with_reducible refine kalloc ?_ _ | with_reducible refine kdrew ?_ | with_reducible refine kdrewN ?_ _))); replace a1 : wn.cell? ⟨w.heap.size, 1, none⟩ = some (.int .u64 l) := cell_later hbn (by (repeat (first | with_reducible exact a1 | with_reducible refine kalloc ?_ _ | with_reducible refine kdrew ?_ | with_reducible refine kdrewN ?_ _))); have za0 : w.heap.size < wn.heap.size := klt a0; replace hb := (show Below w.heap.size w _ from by (repeat (first | exact hb | apply Below.drew | apply below_drewN | refine Below.setCell ?_ (by have := hb.size; (try simp at this); (try simp); (try omega)) _ | refine Below.alloc ?_ (by have := hb.size; (try simp at this); (try simp); (try omega)) _))).trans (hbn.mono (by have := hb.size; (try simp at this); (try simp); (try omega))); obtain ⟨hcn, hfn⟩ := bcell hbn; (try (have hsr := Nat.lt_of_lt_of_le hsq hbn.size)); (try (have hsq := Nat.lt_of_lt_of_le hsy hbn.size)); have hsz := hbn.size; (try simp at hsz); (try (have hsy := Nat.lt_of_succ_le hsz)); clear hbn)
      | (go_at_call 30; refine (rright_any _ _ _ _ h0 h1 l0 l1).mono ?_; rintro e wn ⟨rfl, hbn⟩; rw [HD.out]; replace a0 : wn.cell? ⟨w.heap.size, 0, none⟩ = some (.int .u64 h) := cell_later hbn (by (repeat (first | with_reducible exact a0 | with_reducible refine kalloc ?_ _ | with_reducible refine kdrew ?_ | with_reducible refine kdrewN ?_ _))); replace a1 : wn.cell? ⟨w.heap.size, 1, none⟩ = some (.int .u64 l) := cell_later hbn (by (repeat (first | with_reducible exact a1 | with_reducible refine kalloc ?_ _ | with_reducible refine kdrew ?_ | with_reducible refine kdrewN ?_ _))); have za0 : w.heap.size < wn.heap.size := klt a0; replace hb := (show Below w.heap.size w _ from by (repeat (first | exact hb | apply Below.drew | apply below_drewN | refine Below.setCell ?_ (by have := hb.size; (try simp at this); (try simp); (try omega)) _ | refine Below.alloc ?_ (by have := hb.size; (try simp at this); (try simp); (try omega)) _))).trans (hbn.mono (by have := hb.size; (try simp at this); (try simp); (try omega))); obtain ⟨hcn, hfn⟩ := bcell hbn; (try (have hsr := Nat.lt_of_lt_of_le hsq hbn.size)); (try (have hsq := Nat.lt_of_lt_of_le hsy hbn.size)); have hsz := hbn.size; (try simp at hsz); (try (have hsy := Nat.lt_of_succ_le hsz)); clear hbn))
  all_goals (go_wp2; go_ret; exact ⟨rfl, (by (repeat (first | exact hb | apply Below.drew | apply below_drewN | refine Below.setCell ?_ (by have := hb.size; (try simp at this); (try simp); (try omega)) _ | refine Below.alloc ?_ (by have := hb.size; (try simp at this); (try simp); (try omega)) _)))⟩)
theorem cnum : Try.prog.cellsOf 24 = 2 := by kernel_rfl
theorem numReads {H : Type} {enc : TypeId × Value → H} (a b : Int) (wa : (Lit.int .u64 a).wf = true) (wb : (Lit.int .u64 b).wf = true) (W : World) (sp : Nat → Bool) : DataW.Trod enc Try.prog W 0 sp true 24 (.agg #[.int .u64 a, .int .u64 b]) (.agg [.lit (.int .u64 a), .lit (.int .u64 b)]) [] :=
  Joins.shut_agg2 (y0 := (.lit (.int .u64 a), [])) (y1 := (.lit (.int .u64 b), [])) Try.underlying24 (by kernel_rfl) cnum ⟨1, by simp [DataW.trod, Try.underlying22, wa]⟩ ⟨1, by simp [DataW.trod, Try.underlying22, wb]⟩
set_option maxRecDepth 100000 in
theorem lifted (os : Os) (started : os.Started) (H : Type) (enc : TypeId × Value → H) :
    ReturnsInHanded {} Try.checked os 6 .any (Rows.wideShiftsSpec.pre6 enc Try.prog Try.f6 Rows.wideShiftsRow.domain false) (Rows.wideShiftsSpec.post enc Try.prog Try.f6 false true false false) := by
  refine returnsInHanded_of_change (C := Try.checked) own started (by kernel_rfl) Try.func6
    (ChangeSpec.witness6 (enc := enc) (C := Try.checked) false ⟨#[], #[.agg #[.int .u64 0, .int .u64 0], .int .i64 0], []⟩ 8 (by kernel_rfl) (by kernel_rfl) (by kernel_rfl) (by kernel_rfl)) ?_
  intro W base args ds gs before hval0 hW hcnd _
  have hval : ∀ (j : Nat) t v, Try.f6.params[j]? = some t → args[j]? = some v → Value.okWide Try.prog W .any base t v := hval0
  have hW' := hW
  obtain ⟨p, q, hA0, hV, rfl, hfz, hnd⟩ := hW
  have hA : DataW.TrodAll enc Try.prog W 0 (fun _ => true) true Try.f6.params.toList args.toList ds p := hA0
  rw [Try.params6] at hA hval
  obtain ⟨v0, vs0, d0, ds0, p0, q0, hargs, rfl, rfl, h0, r0⟩ := trodAll_cons hA
  obtain ⟨v1, vs1, d1, ds1, p1, q1, rfl, rfl, rfl, h1, r1⟩ := trodAll_cons r0
  obtain ⟨rfl, rfl, rfl⟩ := trodAll_nil r1
  obtain rfl : args = #[v0, v1] := by cases args; simp_all
  obtain ⟨rfl, rfl⟩ := trodVars_none hV
  obtain ⟨x0, z0, y0, u0, n0, rfl, rfl, rfl, e0, g0⟩ := Joins.open_agg2 Try.underlying24 (by kernel_rfl) cnum (hval 0 _ v0 rfl rfl) h0
  obtain ⟨a0, ea0, rfl, wa0⟩ := DataW.trod_int Try.underlying22 e0
  obtain ⟨b0, eb0, rfl, wb0⟩ := DataW.trod_int Try.underlying22 g0
  simp at ea0 eb0
  subst ea0 eb0
  obtain ⟨a1, rfl, rfl, rfl, w1⟩ := open_int Try.underlying3 (hval 1 _ v1 rfl rfl) h1
  clear hA0 hval0
  simp only [List.append_nil] at hW'
  obtain ⟨la0, ma0⟩ := wf_u64 wa0
  obtain ⟨lb0, mb0⟩ := wf_u64 wb0
  obtain ⟨l1, m1⟩ := wf_i64 w1
  refine (walk a0 b0 a1 W la0 ma0 lb0 mb0 l1 m1).mono fun e W' ⟨he, hg⟩ => ?_
  subst he
  exact ⟨_, rfl, post_of_under (pa := []) (pv := []) hW' (fun _ _ _ => (trodAll_cons_mk (shut_bool Try.underlying4 _) trodAll_mk0)) (fun sp _ => (trodAll_cons_mk (numReads a0 b0 wa0 wb0 _ sp) (trodAll_cons_mk (shut_int Try.underlying3 w1) trodAll_mk0))) (fun _ _ => rfl) rfl
    hg (ok_one (by kernel_rfl) rfl (okWide_bool_mk Try.underlying4 _))⟩
theorem over : Rows.wideShiftsRow.holds Try.pinned (OpenSpec.ofChange Rows.wideShiftsSpec) :=
  OpenClaim.holds_of_wide 6 Try.f6 rfl rfl rfl rfl rfl rfl rfl ⟨rfl, rfl, rfl, rfl, rfl⟩ rfl rfl rfl rfl rfl (by kernel_rfl) Try.func6 (by kernel_rfl)
    (of_decide_eq_true (by kernel_rfl)) (by unfold Func.isWrapper; first | (rw [if_pos (by decide +kernel)]; kernel_rfl) | (rw [if_neg (by decide +kernel)]; exact ⟨rfl, rfl⟩))
    (fun os started H enc _ => lifted os started H enc)
theorem proved : Rows.WideShiftsSaid := over
end Go.Proofs.Ytapmnlalnmlcoaa.wideShifts
