/- WideTexts is true of every number of 128 bits, and changes nothing that it was given. -/
import Derived.Test.YtapmnlalnmlcoaaAwakea
import Derived.Test.YtapmnlalnmlcoaaWideb
import Derived.Test.YtapmnlalnmlcoaaHelp
import Derived.Test.YtapmnlalnmlcoaaHelpb
import Derived.Test.YtapmnlalnmlcoaaHelpc
import Derived.Test.YtapmnlalnmlcoaaHelpd
import Derived.Test.YtapmnlalnmlcoaaOwnn
import Derived.Test.YtapmnlalnmlcoaaReft
import Derived.Test.YtapmnlalnmlcoaaTxtb
import Derived.Test.YtapmnlalnmlcoaaRow
import Derived.Test.YtapmnlalnmlcoaaRows
import Derived.WalkKit
import Derived.ProofKit
import Derived.OpenShut
import Derived.Deep.DeepCutAuto
import Derived.Lib.SmallJoins
namespace Go.Proofs.Ytapmnlalnmlcoaa.wideTexts
open Go.ChangeShapes Go.WideShapes Go.ChangeAt Go.RowKit Kn
set_option linter.unusedVariables false
theorem own : ownKnob Try.prog.godebug = none := by kernel_rfl
set_option maxRecDepth 1000000 in
set_option maxHeartbeats 4000000 in
theorem walk (h l : Int) (w : World) (h0 : 0 ≤ h) (h1 : h ≤ 18446744073709551615) (l0 : 0 ≤ l) (l1 : l ≤ 18446744073709551615) :
    Calls Try.prog 8 #[.agg #[.int .u64 h, .int .u64 l]] w fun e w' => e = .returned (.bool true) ∧ Below w.heap.size w w' := by
  have hb := Below.refl w.heap.size w
  have N0 := num0 h l h0 l0
  have N1 := num1 h l h1 l1
  have eh := hi_num h l l0 l1
  have el := lo_num h l l0 l1
  obtain ⟨N, hN⟩ : ∃ N, num h l = N := ⟨_, rfl⟩
  rw [hN] at N0 N1 eh el
  have HT := Lib.hid (fun w => wtext_num N w N0 N1)
  have HR := Lib.hid (fun w => rtext_any N w N0 N1)
  have HP := Lib.hid (fun (p : Nat) => decL_reads N N0 N1 p)
  have HX := Lib.hid (fun (p : Nat) (hp : p < 39) => txt_decL N p hp N0)
  rw [eh, el] at HT HR
  simp only [eh, el] at HP
  have hlen : (ByteArray.mk (decL 39 N).toArray).size ≤ maxLen := by
    have := decL_len 39 N
    show (decL 39 N).toArray.size ≤ maxLen
    unfold maxLen; simp; omega
  have HL := Lib.hid hlen
  clear hlen eh el hN N0 N1
  go_enter Try.func8, Try.ntmps8
  go_wp2_with fail
  refine (awakea _).mono ?_
  rintro e w1 ⟨rfl, hb1⟩
  have a0 : w1.cell? ⟨w.heap.size, 0, none⟩ = some (.int .u64 h) := cell_later hb1 (by (repeat (first | with_reducible assumption | (simp [go_sem]; done) | (simp [go_sem, *]; done) | with_reducible refine kdrew ?_ | (with_reducible refine ksame ?_; (simp [go_sem, *]; done)) | with_reducible refine kother ?_ (by simp; try omega) | with_reducible refine kalloc ?_ _)))
  have a1 : w1.cell? ⟨w.heap.size, 1, none⟩ = some (.int .u64 l) := cell_later hb1 (by (repeat (first | with_reducible assumption | (simp [go_sem]; done) | (simp [go_sem, *]; done) | with_reducible refine kdrew ?_ | (with_reducible refine ksame ?_; (simp [go_sem, *]; done)) | with_reducible refine kother ?_ (by simp; try omega) | with_reducible refine kalloc ?_ _)))
  have za0 : w.heap.size < w1.heap.size := klt a0
  replace hb := (show Below w.heap.size w _ from by (repeat (first | exact hb | apply Below.drew | apply below_drewN | refine Below.setCell ?_ (by have := hb.size; (try simp at this); (try simp); (try omega)) _ | refine Below.alloc ?_ (by have := hb.size; (try simp at this); (try simp); (try omega)) _))).trans (hb1.mono (by have := hb.size; (try simp at this); (try simp); (try omega)))
  clear hb1
  go_wp2_with fail
  refine (HT.out _).mono ?_
  rintro e w2 ⟨ht, hb2⟩
  obtain ⟨p, hp, hq1, hq2, rfl⟩ := ht
  rw [HX.out p hp hq1 hq2]
  have HPP := Lib.hid (HP.out p hp hq1 hq2)
  clear hp hq1 hq2
  replace a0 : w2.cell? ⟨w.heap.size, 0, none⟩ = some (.int .u64 h) := cell_later hb2 (by (repeat (first | with_reducible exact a0 | with_reducible refine kalloc ?_ _ | with_reducible refine kdrew ?_ | with_reducible refine kdrewN ?_ _ | with_reducible refine kother ?_ (by simp; try omega))))
  replace a1 : w2.cell? ⟨w.heap.size, 1, none⟩ = some (.int .u64 l) := cell_later hb2 (by (repeat (first | with_reducible exact a1 | with_reducible refine kalloc ?_ _ | with_reducible refine kdrew ?_ | with_reducible refine kdrewN ?_ _ | with_reducible refine kother ?_ (by simp; try omega))))
  have za0 : w.heap.size < w2.heap.size := klt a0
  replace hb := (show Below w.heap.size w _ from by (repeat (first | exact hb | apply Below.drew | apply below_drewN | refine Below.setCell ?_ (by have := hb.size; (try simp at this); (try simp); (try omega)) _ | refine Below.alloc ?_ (by have := hb.size; (try simp at this); (try simp); (try omega)) _))).trans (hb2.mono (by have := hb.size; (try simp at this); (try simp); (try omega)))
  clear hb2
  go_wp2_with fail
  refine (wparse_any _ _ HL.out).mono ?_
  rintro e w3 ⟨ht, hb3⟩
  obtain rfl := HPP.out _ ht
  replace a0 : w3.cell? ⟨w.heap.size, 0, none⟩ = some (.int .u64 h) := cell_later hb3 (by (repeat (first | with_reducible exact a0 | with_reducible refine kalloc ?_ _ | with_reducible refine kdrew ?_ | with_reducible refine kdrewN ?_ _ | with_reducible refine kother ?_ (by simp; try omega))))
  replace a1 : w3.cell? ⟨w.heap.size, 1, none⟩ = some (.int .u64 l) := cell_later hb3 (by (repeat (first | with_reducible exact a1 | with_reducible refine kalloc ?_ _ | with_reducible refine kdrew ?_ | with_reducible refine kdrewN ?_ _ | with_reducible refine kother ?_ (by simp; try omega))))
  have za0 : w.heap.size < w3.heap.size := klt a0
  replace hb := (show Below w.heap.size w _ from by (repeat (first | exact hb | apply Below.drew | apply below_drewN | refine Below.setCell ?_ (by have := hb.size; (try simp at this); (try simp); (try omega)) _ | refine Below.alloc ?_ (by have := hb.size; (try simp at this); (try simp); (try omega)) _))).trans (hb3.mono (by have := hb.size; (try simp at this); (try simp); (try omega)))
  clear hb3
  go_wp2_with fail
  refine (own_any _ _ _).mono ?_
  rintro e w4 ⟨rfl, hb4⟩
  replace a0 : w4.cell? ⟨w.heap.size, 0, none⟩ = some (.int .u64 h) := cell_later hb4 (by (repeat (first | with_reducible exact a0 | with_reducible refine kalloc ?_ _ | with_reducible refine kdrew ?_ | with_reducible refine kdrewN ?_ _ | with_reducible refine kother ?_ (by simp; try omega))))
  replace a1 : w4.cell? ⟨w.heap.size, 1, none⟩ = some (.int .u64 l) := cell_later hb4 (by (repeat (first | with_reducible exact a1 | with_reducible refine kalloc ?_ _ | with_reducible refine kdrew ?_ | with_reducible refine kdrewN ?_ _ | with_reducible refine kother ?_ (by simp; try omega))))
  have b0 : w4.cell? ⟨w3.heap.size, 0, none⟩ = some (.int .u64 h) := cell_later hb4 (by (repeat (first | with_reducible assumption | (simp [go_sem]; done) | (simp [go_sem, *]; done) | with_reducible refine kdrew ?_ | (with_reducible refine ksame ?_; (simp [go_sem, *]; done)) | with_reducible refine kother ?_ (by simp; try omega) | with_reducible refine kalloc ?_ _)))
  have b1 : w4.cell? ⟨w3.heap.size, 1, none⟩ = some (.int .u64 l) := cell_later hb4 (by (repeat (first | with_reducible assumption | (simp [go_sem]; done) | (simp [go_sem, *]; done) | with_reducible refine kdrew ?_ | (with_reducible refine ksame ?_; (simp [go_sem, *]; done)) | with_reducible refine kother ?_ (by simp; try omega) | with_reducible refine kalloc ?_ _)))
  have za0 : w.heap.size < w4.heap.size := klt a0
  have zb0 : w3.heap.size < w4.heap.size := klt b0
  replace hb := (show Below w.heap.size w _ from by (repeat (first | exact hb | apply Below.drew | apply below_drewN | refine Below.setCell ?_ (by have := hb.size; (try simp at this); (try simp); (try omega)) _ | refine Below.alloc ?_ (by have := hb.size; (try simp at this); (try simp); (try omega)) _))).trans (hb4.mono (by have := hb.size; (try simp at this); (try simp); (try omega)))
  clear hb4
  go_wp2_with fail
  refine (HR.out _).mono ?_
  rintro e w5 ⟨rfl, hb5⟩
  replace a0 : w5.cell? ⟨w.heap.size, 0, none⟩ = some (.int .u64 h) := cell_later hb5 (by (repeat (first | with_reducible exact a0 | with_reducible refine kalloc ?_ _ | with_reducible refine kdrew ?_ | with_reducible refine kdrewN ?_ _ | with_reducible refine kother ?_ (by simp; try omega))))
  replace a1 : w5.cell? ⟨w.heap.size, 1, none⟩ = some (.int .u64 l) := cell_later hb5 (by (repeat (first | with_reducible exact a1 | with_reducible refine kalloc ?_ _ | with_reducible refine kdrew ?_ | with_reducible refine kdrewN ?_ _ | with_reducible refine kother ?_ (by simp; try omega))))
  replace b0 : w5.cell? ⟨w3.heap.size, 0, none⟩ = some (.int .u64 h) := cell_later hb5 (by (repeat (first | with_reducible exact b0 | with_reducible refine kalloc ?_ _ | with_reducible refine kdrew ?_ | with_reducible refine kdrewN ?_ _ | with_reducible refine kother ?_ (by simp; try omega))))
  replace b1 : w5.cell? ⟨w3.heap.size, 1, none⟩ = some (.int .u64 l) := cell_later hb5 (by (repeat (first | with_reducible exact b1 | with_reducible refine kalloc ?_ _ | with_reducible refine kdrew ?_ | with_reducible refine kdrewN ?_ _ | with_reducible refine kother ?_ (by simp; try omega))))
  have za0 : w.heap.size < w5.heap.size := klt a0
  have zb0 : w3.heap.size < w5.heap.size := klt b0
  replace hb := (show Below w.heap.size w _ from by (repeat (first | exact hb | apply Below.drew | apply below_drewN | refine Below.setCell ?_ (by have := hb.size; (try simp at this); (try simp); (try omega)) _ | refine Below.alloc ?_ (by have := hb.size; (try simp at this); (try simp); (try omega)) _))).trans (hb5.mono (by have := hb.size; (try simp at this); (try simp); (try omega)))
  clear hb5
  go_wp2
  go_ret
  exact ⟨rfl, hb⟩
theorem cnum : Try.prog.cellsOf 24 = 2 := by kernel_rfl
theorem numReads {H : Type} {enc : TypeId × Value → H} (a b : Int) (wa : (Lit.int .u64 a).wf = true) (wb : (Lit.int .u64 b).wf = true) (W : World) (sp : Nat → Bool) : DataW.Trod enc Try.prog W 0 sp true 24 (.agg #[.int .u64 a, .int .u64 b]) (.agg [.lit (.int .u64 a), .lit (.int .u64 b)]) [] :=
  Joins.shut_agg2 (y0 := (.lit (.int .u64 a), [])) (y1 := (.lit (.int .u64 b), [])) Try.underlying24 (by kernel_rfl) cnum ⟨1, by simp [DataW.trod, Try.underlying22, wa]⟩ ⟨1, by simp [DataW.trod, Try.underlying22, wb]⟩
set_option maxRecDepth 100000 in
theorem lifted (os : Os) (started : os.Started) (H : Type) (enc : TypeId × Value → H) :
    ReturnsInHanded {} Try.checked os 8 .any (Rows.wideTextsSpec.pre6 enc Try.prog Try.f8 Rows.wideTextsRow.domain false) (Rows.wideTextsSpec.post enc Try.prog Try.f8 false true false false) := by
  refine returnsInHanded_of_change (C := Try.checked) own started (by kernel_rfl) Try.func8
    (ChangeSpec.witness6 (enc := enc) (C := Try.checked) false ⟨#[], #[.agg #[.int .u64 0, .int .u64 0]], []⟩ 8 (by kernel_rfl) (by kernel_rfl) (by kernel_rfl) (by kernel_rfl)) ?_
  intro W base args ds gs before hval0 hW hcnd _
  have hval : ∀ (j : Nat) t v, Try.f8.params[j]? = some t → args[j]? = some v → Value.okWide Try.prog W .any base t v := hval0
  have hW' := hW
  obtain ⟨p, q, hA0, hV, rfl, hfz, hnd⟩ := hW
  have hA : DataW.TrodAll enc Try.prog W 0 (fun _ => true) true Try.f8.params.toList args.toList ds p := hA0
  rw [Try.params8] at hA hval
  obtain ⟨v0, vs0, d0, ds0, p0, q0, hargs, rfl, rfl, h0, r0⟩ := trodAll_cons hA
  obtain ⟨rfl, rfl, rfl⟩ := trodAll_nil r0
  obtain rfl : args = #[v0] := by cases args; simp_all
  obtain ⟨rfl, rfl⟩ := trodVars_none hV
  obtain ⟨x0, z0, y0, u0, n0, rfl, rfl, rfl, e0, g0⟩ := Joins.open_agg2 Try.underlying24 (by kernel_rfl) cnum (hval 0 _ v0 rfl rfl) h0
  obtain ⟨a0, ea0, rfl, wa0⟩ := DataW.trod_int Try.underlying22 e0
  obtain ⟨b0, eb0, rfl, wb0⟩ := DataW.trod_int Try.underlying22 g0
  simp at ea0 eb0
  subst ea0 eb0
  clear hA0 hval0
  simp only [List.append_nil] at hW'
  obtain ⟨la0, ma0⟩ := wf_u64 wa0
  obtain ⟨lb0, mb0⟩ := wf_u64 wb0
  refine (walk a0 b0 W la0 ma0 lb0 mb0).mono fun e W' ⟨he, hg⟩ => ?_
  subst he
  exact ⟨_, rfl, post_of_under (pa := []) (pv := []) hW' (fun _ _ _ => (trodAll_cons_mk (shut_bool Try.underlying4 _) trodAll_mk0)) (fun sp _ => (trodAll_cons_mk (numReads a0 b0 wa0 wb0 _ sp) trodAll_mk0)) (fun _ _ => rfl) rfl
    hg (ok_one (by kernel_rfl) rfl (okWide_bool_mk Try.underlying4 _))⟩
theorem over : Rows.wideTextsRow.holds Try.pinned (OpenSpec.ofChange Rows.wideTextsSpec) :=
  OpenClaim.holds_of_wide 8 Try.f8 rfl rfl rfl rfl rfl rfl rfl ⟨rfl, rfl, rfl, rfl, rfl⟩ rfl rfl rfl rfl rfl (by kernel_rfl) Try.func8 (by kernel_rfl)
    (of_decide_eq_true (by kernel_rfl)) (by unfold Func.isWrapper; first | (rw [if_pos (by decide +kernel)]; kernel_rfl) | (rw [if_neg (by decide +kernel)]; exact ⟨rfl, rfl⟩))
    (fun os started H enc _ => lifted os started H enc)
theorem proved : Rows.WideTextsSaid := over
end Go.Proofs.Ytapmnlalnmlcoaa.wideTexts
