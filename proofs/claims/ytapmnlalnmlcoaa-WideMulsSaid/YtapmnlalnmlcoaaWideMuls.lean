/- WideMuls is true of every a and b of 64 bits, and changes nothing that it was given. -/
import Derived.Test.YtapmnlalnmlcoaaAwakea
import Derived.Test.YtapmnlalnmlcoaaRefe
import Derived.Test.YtapmnlalnmlcoaaHelp
import Derived.Test.YtapmnlalnmlcoaaHelpb
import Derived.Test.YtapmnlalnmlcoaaOwnn
import Derived.Test.YtapmnlalnmlcoaaRow
import Derived.Test.YtapmnlalnmlcoaaRows
import Derived.WalkKit
import Derived.ProofKit
import Derived.OpenShut
import Derived.Deep.DeepCutAuto
namespace Go.Proofs.Ytapmnlalnmlcoaa.wideMuls
open Go.ChangeShapes Go.WideShapes Go.ChangeAt Go.RowKit Kn
set_option linter.unusedVariables false
theorem own : ownKnob Try.prog.godebug = none := by kernel_rfl
set_option maxHeartbeats 4000000 in
theorem walk_pos (a b : Int) (w : World) (a0 : 0 ≤ a) (a1 : a ≤ 18446744073709551615) (b0 : 0 ≤ b) (b1 : b ≤ 18446744073709551615) (ha : ¬ a = 0) :
    Calls Try.prog 4 #[.int .u64 a, .int .u64 b] w fun e w' => e = .returned (.bool true) ∧ Below w.heap.size w w' := by
  have hb := Below.refl w.heap.size w
  have n0 := Int.mul_nonneg a0 b0
  have n1 : a * b < 340282366920938463463374607431768211456 := by have := Int.mul_le_mul a1 b1 b0 (by omega); omega
  have ec : b * a = a * b := Int.mul_comm _ _
  obtain ⟨P, hP⟩ : ∃ P, a * b = P := ⟨_, rfl⟩
  rw [hP] at n0 n1 ec
  have k0 := hi0 _ n0
  have k1 := hi1 _ n1
  have k2 := lo0 P
  have k3 := lo1 P
  have en := num_hi_lo P
  have EC := Lib.hid ec
  have EN := Lib.hid en
  clear ec en n0 n1
  have ed : P / a = b := by rw [← hP]; exact Int.mul_ediv_cancel_left b ha
  have em : P % a = 0 := by rw [← hP]; exact Int.mul_emod_right a b
  have eh : hi b = 0 := by unfold hi; omega
  have el : lo b = b := by unfold lo; omega
  have ED := Lib.hid ed; have EM := Lib.hid em; have EH := Lib.hid eh; have EL := Lib.hid el; have HP := Lib.hid hP
  clear ed em eh el hP
  have hz : (a == 0) = false := by simpa using ha
  go_enter Try.func4, Try.ntmps4
  go_wp2_with fail
  refine (awakea _).mono ?_
  rintro e w1 ⟨rfl, hb1⟩
  replace hb := (show Below w.heap.size w _ from by (repeat (first | exact hb | apply Below.drew | apply below_drewN | refine Below.setCell ?_ (by have := hb.size; (try simp at this); (try simp); (try omega)) _ | refine Below.alloc ?_ (by have := hb.size; (try simp at this); (try simp); (try omega)) _))).trans (hb1.mono (by have := hb.size; (try simp at this); (try simp); (try omega)))
  clear hb1
  go_wp2_with fail
  refine (wmul_any a b _ a0 a1 b0 b1).mono ?_
  rintro e w2 ⟨rfl, hb2⟩
  rw [HP.out]
  replace hb := (show Below w.heap.size w _ from by (repeat (first | exact hb | apply Below.drew | apply below_drewN | refine Below.setCell ?_ (by have := hb.size; (try simp at this); (try simp); (try omega)) _ | refine Below.alloc ?_ (by have := hb.size; (try simp at this); (try simp); (try omega)) _))).trans (hb2.mono (by have := hb.size; (try simp at this); (try simp); (try omega)))
  clear hb2
  go_wp2_with fail
  refine (wdiv_any _ _ _ _ k0 k1 k2 k3 (by omega) a1).mono ?_
  rintro e w3 ⟨rfl, hb3⟩
  rw [EN.out, ED.out, EM.out, EH.out, EL.out]
  have p0 : w3.cell? ⟨w2.heap.size, 0, none⟩ = some (.int .u64 (hi P)) := cell_later hb3 (by (repeat (first | with_reducible assumption | (simp [go_sem]; done) | (simp [go_sem, *]; done) | with_reducible refine kdrew ?_ | (with_reducible refine ksame ?_; (simp [go_sem, *]; done)) | with_reducible refine kother ?_ (by simp; try omega) | with_reducible refine kalloc ?_ _)))
  have p1 : w3.cell? ⟨w2.heap.size, 1, none⟩ = some (.int .u64 (lo P)) := cell_later hb3 (by (repeat (first | with_reducible assumption | (simp [go_sem]; done) | (simp [go_sem, *]; done) | with_reducible refine kdrew ?_ | (with_reducible refine ksame ?_; (simp [go_sem, *]; done)) | with_reducible refine kother ?_ (by simp; try omega) | with_reducible refine kalloc ?_ _)))
  have zp0 : w2.heap.size < w3.heap.size := klt p0
  replace hb := (show Below w.heap.size w _ from by (repeat (first | exact hb | apply Below.drew | apply below_drewN | refine Below.setCell ?_ (by have := hb.size; (try simp at this); (try simp); (try omega)) _ | refine Below.alloc ?_ (by have := hb.size; (try simp at this); (try simp); (try omega)) _))).trans (hb3.mono (by have := hb.size; (try simp at this); (try simp); (try omega)))
  clear hb3
  go_wp2_with fail
  go_region_held3 (fun w' => w'.cell? ⟨w2.heap.size, 0, none⟩ = some (.int .u64 (hi P)) ∧ w'.cell? ⟨w2.heap.size, 1, none⟩ = some (.int .u64 (lo P)) ∧ w'.cell? ⟨w3.heap.size, 0, none⟩ = some (.int .u64 0) ∧ w'.cell? ⟨w3.heap.size, 1, none⟩ = some (.int .u64 b)) (refine ⟨?_, ?_, ?_, ?_⟩ <;> (repeat (first | with_reducible assumption | (simp [go_sem]; done) | (simp [go_sem, *]; done) | with_reducible refine kdrew ?_ | (with_reducible refine ksame ?_; (simp [go_sem, *]; done)) | with_reducible refine kother ?_ (by simp; try omega) | with_reducible refine kalloc ?_ _)))
    (first
      | (go_at_call 20; refine (own_any _ _ _).mono ?_; rintro e wn ⟨rfl, hbn⟩; replace p0 : wn.cell? ⟨w2.heap.size, 0, none⟩ = some (.int .u64 (hi P)) := cell_later hbn (by (repeat (first | with_reducible exact p0 | with_reducible refine kalloc ?_ _ | with_reducible refine kdrew ?_ | with_reducible refine kdrewN ?_ _))); replace p1 : wn.cell? ⟨w2.heap.size, 1, none⟩ = some (.int .u64 (lo P)) := cell_later hbn (by (repeat (first | with_reducible exact p1 | with_reducible refine kalloc ?_ _ | with_reducible refine kdrew ?_ | with_reducible refine kdrewN ?_ _))); have q0 : wn.cell? ⟨w3.heap.size, 0, none⟩ = some (.int .u64 0) := cell_later hbn (by (repeat (first | with_reducible assumption | (simp [go_sem]; done) | (simp [go_sem, *]; done) | with_reducible refine kdrew ?_ | (with_reducible refine ksame ?_; (simp [go_sem, *]; done)) | with_reducible refine kother ?_ (by simp; try omega) | with_reducible refine kalloc ?_ _))); have q1 : wn.cell? ⟨w3.heap.size, 1, none⟩ = some (.int .u64 b) := cell_later hbn (by (repeat (first | with_reducible assumption | (simp [go_sem]; done) | (simp [go_sem, *]; done) | with_reducible refine kdrew ?_ | (with_reducible refine ksame ?_; (simp [go_sem, *]; done)) | with_reducible refine kother ?_ (by simp; try omega) | with_reducible refine kalloc ?_ _))); have zp0 : w2.heap.size < wn.heap.size := klt p0; have zq0 : w3.heap.size < wn.heap.size := klt q0; replace hb := (show Below w.heap.size w _ from by (repeat (first | exact hb | apply Below.drew | apply below_drewN | refine Below.setCell ?_ (by have := hb.size; (try simp at this); (try simp); (try omega)) _ | refine Below.alloc ?_ (by have := hb.size; (try simp at this); (try simp); (try omega)) _))).trans (hbn.mono (by have := hb.size; (try simp at this); (try simp); (try omega))); clear hbn)
      | (go_at_call 24; refine (rmul_any _ _ _ a0 a1 b0 b1).mono ?_; rintro e wn ⟨rfl, hbn⟩; rw [HP.out]; replace p0 : wn.cell? ⟨w2.heap.size, 0, none⟩ = some (.int .u64 (hi P)) := cell_later hbn (by (repeat (first | with_reducible exact p0 | with_reducible refine kalloc ?_ _ | with_reducible refine kdrew ?_ | with_reducible refine kdrewN ?_ _))); replace p1 : wn.cell? ⟨w2.heap.size, 1, none⟩ = some (.int .u64 (lo P)) := cell_later hbn (by (repeat (first | with_reducible exact p1 | with_reducible refine kalloc ?_ _ | with_reducible refine kdrew ?_ | with_reducible refine kdrewN ?_ _))); have q0 : wn.cell? ⟨w3.heap.size, 0, none⟩ = some (.int .u64 0) := cell_later hbn (by (repeat (first | with_reducible assumption | (simp [go_sem]; done) | (simp [go_sem, *]; done) | with_reducible refine kdrew ?_ | (with_reducible refine ksame ?_; (simp [go_sem, *]; done)) | with_reducible refine kother ?_ (by simp; try omega) | with_reducible refine kalloc ?_ _))); have q1 : wn.cell? ⟨w3.heap.size, 1, none⟩ = some (.int .u64 b) := cell_later hbn (by (repeat (first | with_reducible assumption | (simp [go_sem]; done) | (simp [go_sem, *]; done) | with_reducible refine kdrew ?_ | (with_reducible refine ksame ?_; (simp [go_sem, *]; done)) | with_reducible refine kother ?_ (by simp; try omega) | with_reducible refine kalloc ?_ _))); have zp0 : w2.heap.size < wn.heap.size := klt p0; have zq0 : w3.heap.size < wn.heap.size := klt q0; replace hb := (show Below w.heap.size w _ from by (repeat (first | exact hb | apply Below.drew | apply below_drewN | refine Below.setCell ?_ (by have := hb.size; (try simp at this); (try simp); (try omega)) _ | refine Below.alloc ?_ (by have := hb.size; (try simp at this); (try simp); (try omega)) _))).trans (hbn.mono (by have := hb.size; (try simp at this); (try simp); (try omega))); clear hbn)
      | (go_at_call 22; refine (wmul_any _ _ _ b0 b1 a0 a1).mono ?_; rintro e wn ⟨rfl, hbn⟩; rw [EC.out]; replace p0 : wn.cell? ⟨w2.heap.size, 0, none⟩ = some (.int .u64 (hi P)) := cell_later hbn (by (repeat (first | with_reducible exact p0 | with_reducible refine kalloc ?_ _ | with_reducible refine kdrew ?_ | with_reducible refine kdrewN ?_ _))); replace p1 : wn.cell? ⟨w2.heap.size, 1, none⟩ = some (.int .u64 (lo P)) := cell_later hbn (by (repeat (first | with_reducible exact p1 | with_reducible refine kalloc ?_ _ | with_reducible refine kdrew ?_ | with_reducible refine kdrewN ?_ _))); have q0 : wn.cell? ⟨w3.heap.size, 0, none⟩ = some (.int .u64 0) := cell_later hbn (by (repeat (first | with_reducible assumption | (simp [go_sem]; done) | (simp [go_sem, *]; done) | with_reducible refine kdrew ?_ | (with_reducible refine ksame ?_; (simp [go_sem, *]; done)) | with_reducible refine kother ?_ (by simp; try omega) | with_reducible refine kalloc ?_ _))); have q1 : wn.cell? ⟨w3.heap.size, 1, none⟩ = some (.int .u64 b) := cell_later hbn (by (repeat (first | with_reducible assumption | (simp [go_sem]; done) | (simp [go_sem, *]; done) | with_reducible refine kdrew ?_ | (with_reducible refine ksame ?_; (simp [go_sem, *]; done)) | with_reducible refine kother ?_ (by simp; try omega) | with_reducible refine kalloc ?_ _))); have zp0 : w2.heap.size < wn.heap.size := klt p0; have zq0 : w3.heap.size < wn.heap.size := klt q0; replace hb := (show Below w.heap.size w _ from by (repeat (first | exact hb | apply Below.drew | apply below_drewN | refine Below.setCell ?_ (by have := hb.size; (try simp at this); (try simp); (try omega)) _ | refine Below.alloc ?_ (by have := hb.size; (try simp at this); (try simp); (try omega)) _))).trans (hbn.mono (by have := hb.size; (try simp at this); (try simp); (try omega))); clear hbn)
      | (go_at_call 25; refine (wof_any _ _).mono ?_; rintro e wn ⟨rfl, hbn⟩; replace p0 : wn.cell? ⟨w2.heap.size, 0, none⟩ = some (.int .u64 (hi P)) := cell_later hbn (by (repeat (first | with_reducible exact p0 | with_reducible refine kalloc ?_ _ | with_reducible refine kdrew ?_ | with_reducible refine kdrewN ?_ _))); replace p1 : wn.cell? ⟨w2.heap.size, 1, none⟩ = some (.int .u64 (lo P)) := cell_later hbn (by (repeat (first | with_reducible exact p1 | with_reducible refine kalloc ?_ _ | with_reducible refine kdrew ?_ | with_reducible refine kdrewN ?_ _))); have q0 : wn.cell? ⟨w3.heap.size, 0, none⟩ = some (.int .u64 0) := cell_later hbn (by (repeat (first | with_reducible assumption | (simp [go_sem]; done) | (simp [go_sem, *]; done) | with_reducible refine kdrew ?_ | (with_reducible refine ksame ?_; (simp [go_sem, *]; done)) | with_reducible refine kother ?_ (by simp; try omega) | with_reducible refine kalloc ?_ _))); have q1 : wn.cell? ⟨w3.heap.size, 1, none⟩ = some (.int .u64 b) := cell_later hbn (by (repeat (first | with_reducible assumption | (simp [go_sem]; done) | (simp [go_sem, *]; done) | with_reducible refine kdrew ?_ | (with_reducible refine ksame ?_; (simp [go_sem, *]; done)) | with_reducible refine kother ?_ (by simp; try omega) | with_reducible refine kalloc ?_ _))); have zp0 : w2.heap.size < wn.heap.size := klt p0; have zq0 : w3.heap.size < wn.heap.size := klt q0; replace hb := (show Below w.heap.size w _ from by (repeat (first | exact hb | apply Below.drew | apply below_drewN | refine Below.setCell ?_ (by have := hb.size; (try simp at this); (try simp); (try omega)) _ | refine Below.alloc ?_ (by have := hb.size; (try simp at this); (try simp); (try omega)) _))).trans (hbn.mono (by have := hb.size; (try simp at this); (try simp); (try omega))); clear hbn))
  all_goals (go_wp2; go_ret; exact ⟨rfl, (by (repeat (first | exact hb | apply Below.drew | apply below_drewN | refine Below.setCell ?_ (by have := hb.size; (try simp at this); (try simp); (try omega)) _ | refine Below.alloc ?_ (by have := hb.size; (try simp at this); (try simp); (try omega)) _)))⟩)
attribute [local go_sem] Go.undef
set_option maxHeartbeats 4000000 in
theorem walk_zero (a b : Int) (w : World) (a0 : 0 ≤ a) (a1 : a ≤ 18446744073709551615) (b0 : 0 ≤ b) (b1 : b ≤ 18446744073709551615) (ha : a = 0) :
    Calls Try.prog 4 #[.int .u64 a, .int .u64 b] w fun e w' => e = .returned (.bool true) ∧ Below w.heap.size w w' := by
  have hb := Below.refl w.heap.size w
  have n0 := Int.mul_nonneg a0 b0
  have n1 : a * b < 340282366920938463463374607431768211456 := by have := Int.mul_le_mul a1 b1 b0 (by omega); omega
  have ec : b * a = a * b := Int.mul_comm _ _
  obtain ⟨P, hP⟩ : ∃ P, a * b = P := ⟨_, rfl⟩
  rw [hP] at n0 n1 ec
  have k0 := hi0 _ n0
  have k1 := hi1 _ n1
  have k2 := lo0 P
  have k3 := lo1 P
  have en := num_hi_lo P
  have EC := Lib.hid ec
  have EN := Lib.hid en
  clear ec en n0 n1
  have HP := Lib.hid hP; clear hP
  have hz : (a == 0) = true := by simpa using ha
  have HA := Lib.hid ha; clear ha
  go_enter Try.func4, Try.ntmps4
  go_wp2_with fail
  refine (awakea _).mono ?_
  rintro e w1 ⟨rfl, hb1⟩
  replace hb := (show Below w.heap.size w _ from by (repeat (first | exact hb | apply Below.drew | apply below_drewN | refine Below.setCell ?_ (by have := hb.size; (try simp at this); (try simp); (try omega)) _ | refine Below.alloc ?_ (by have := hb.size; (try simp at this); (try simp); (try omega)) _))).trans (hb1.mono (by have := hb.size; (try simp at this); (try simp); (try omega)))
  clear hb1
  go_wp2_with fail
  refine (wmul_any a b _ a0 a1 b0 b1).mono ?_
  rintro e w2 ⟨rfl, hb2⟩
  rw [HP.out]
  replace hb := (show Below w.heap.size w _ from by (repeat (first | exact hb | apply Below.drew | apply below_drewN | refine Below.setCell ?_ (by have := hb.size; (try simp at this); (try simp); (try omega)) _ | refine Below.alloc ?_ (by have := hb.size; (try simp at this); (try simp); (try omega)) _))).trans (hb2.mono (by have := hb.size; (try simp at this); (try simp); (try omega)))
  clear hb2
  go_wp2_with fail
  refine (wdiv_z _ _ a _ HA.out).mono ?_
  rintro e w3 ⟨rfl, hb3⟩
  have p0 : w3.cell? ⟨w2.heap.size, 0, none⟩ = some (.int .u64 (hi P)) := cell_later hb3 (by (repeat (first | with_reducible assumption | (simp [go_sem]; done) | (simp [go_sem, *]; done) | with_reducible refine kdrew ?_ | (with_reducible refine ksame ?_; (simp [go_sem, *]; done)) | with_reducible refine kother ?_ (by simp; try omega) | with_reducible refine kalloc ?_ _)))
  have p1 : w3.cell? ⟨w2.heap.size, 1, none⟩ = some (.int .u64 (lo P)) := cell_later hb3 (by (repeat (first | with_reducible assumption | (simp [go_sem]; done) | (simp [go_sem, *]; done) | with_reducible refine kdrew ?_ | (with_reducible refine ksame ?_; (simp [go_sem, *]; done)) | with_reducible refine kother ?_ (by simp; try omega) | with_reducible refine kalloc ?_ _)))
  have zp0 : w2.heap.size < w3.heap.size := klt p0
  replace hb := (show Below w.heap.size w _ from by (repeat (first | exact hb | apply Below.drew | apply below_drewN | refine Below.setCell ?_ (by have := hb.size; (try simp at this); (try simp); (try omega)) _ | refine Below.alloc ?_ (by have := hb.size; (try simp at this); (try simp); (try omega)) _))).trans (hb3.mono (by have := hb.size; (try simp at this); (try simp); (try omega)))
  clear hb3
  go_wp2_with fail
  first
    | (go_region_with (first
      | (go_at_call 20; refine (own_any _ _ _).mono ?_; rintro e wn ⟨rfl, hbn⟩; replace p0 : wn.cell? ⟨w2.heap.size, 0, none⟩ = some (.int .u64 (hi P)) := cell_later hbn (by (repeat (first | with_reducible exact p0 | with_reducible refine kalloc ?_ _ | with_reducible refine kdrew ?_ | with_reducible refine kdrewN ?_ _))); replace p1 : wn.cell? ⟨w2.heap.size, 1, none⟩ = some (.int .u64 (lo P)) := cell_later hbn (by (repeat (first | with_reducible exact p1 | with_reducible refine kalloc ?_ _ | with_reducible refine kdrew ?_ | with_reducible refine kdrewN ?_ _))); have zp0 : w2.heap.size < wn.heap.size := klt p0; replace hb := (show Below w.heap.size w _ from by (repeat (first | exact hb | apply Below.drew | apply below_drewN | refine Below.setCell ?_ (by have := hb.size; (try simp at this); (try simp); (try omega)) _ | refine Below.alloc ?_ (by have := hb.size; (try simp at this); (try simp); (try omega)) _))).trans (hbn.mono (by have := hb.size; (try simp at this); (try simp); (try omega))); clear hbn)
      | (go_at_call 24; refine (rmul_any _ _ _ a0 a1 b0 b1).mono ?_; rintro e wn ⟨rfl, hbn⟩; rw [HP.out]; replace p0 : wn.cell? ⟨w2.heap.size, 0, none⟩ = some (.int .u64 (hi P)) := cell_later hbn (by (repeat (first | with_reducible exact p0 | with_reducible refine kalloc ?_ _ | with_reducible refine kdrew ?_ | with_reducible refine kdrewN ?_ _))); replace p1 : wn.cell? ⟨w2.heap.size, 1, none⟩ = some (.int .u64 (lo P)) := cell_later hbn (by (repeat (first | with_reducible exact p1 | with_reducible refine kalloc ?_ _ | with_reducible refine kdrew ?_ | with_reducible refine kdrewN ?_ _))); have zp0 : w2.heap.size < wn.heap.size := klt p0; replace hb := (show Below w.heap.size w _ from by (repeat (first | exact hb | apply Below.drew | apply below_drewN | refine Below.setCell ?_ (by have := hb.size; (try simp at this); (try simp); (try omega)) _ | refine Below.alloc ?_ (by have := hb.size; (try simp at this); (try simp); (try omega)) _))).trans (hbn.mono (by have := hb.size; (try simp at this); (try simp); (try omega))); clear hbn)
      | (go_at_call 22; refine (wmul_any _ _ _ b0 b1 a0 a1).mono ?_; rintro e wn ⟨rfl, hbn⟩; rw [EC.out]; replace p0 : wn.cell? ⟨w2.heap.size, 0, none⟩ = some (.int .u64 (hi P)) := cell_later hbn (by (repeat (first | with_reducible exact p0 | with_reducible refine kalloc ?_ _ | with_reducible refine kdrew ?_ | with_reducible refine kdrewN ?_ _))); replace p1 : wn.cell? ⟨w2.heap.size, 1, none⟩ = some (.int .u64 (lo P)) := cell_later hbn (by (repeat (first | with_reducible exact p1 | with_reducible refine kalloc ?_ _ | with_reducible refine kdrew ?_ | with_reducible refine kdrewN ?_ _))); have zp0 : w2.heap.size < wn.heap.size := klt p0; replace hb := (show Below w.heap.size w _ from by (repeat (first | exact hb | apply Below.drew | apply below_drewN | refine Below.setCell ?_ (by have := hb.size; (try simp at this); (try simp); (try omega)) _ | refine Below.alloc ?_ (by have := hb.size; (try simp at this); (try simp); (try omega)) _))).trans (hbn.mono (by have := hb.size; (try simp at this); (try simp); (try omega))); clear hbn)))
    | fail
  all_goals (go_wp2; go_ret; exact ⟨rfl, (by (repeat (first | exact hb | apply Below.drew | apply below_drewN | refine Below.setCell ?_ (by have := hb.size; (try simp at this); (try simp); (try omega)) _ | refine Below.alloc ?_ (by have := hb.size; (try simp at this); (try simp); (try omega)) _)))⟩)
theorem walk (a b : Int) (w : World) (a0 : 0 ≤ a) (a1 : a ≤ 18446744073709551615) (b0 : 0 ≤ b) (b1 : b ≤ 18446744073709551615) :
    Calls Try.prog 4 #[.int .u64 a, .int .u64 b] w fun e w' => e = .returned (.bool true) ∧ Below w.heap.size w w' := by
  by_cases ha : a = 0
  · exact walk_zero a b w a0 a1 b0 b1 ha
  · exact walk_pos a b w a0 a1 b0 b1 ha
set_option maxRecDepth 100000 in
theorem lifted (os : Os) (started : os.Started) (H : Type) (enc : TypeId × Value → H) :
    ReturnsInHanded {} Try.checked os 4 .any (Rows.wideMulsSpec.pre6 enc Try.prog Try.f4 Rows.wideMulsRow.domain false) (Rows.wideMulsSpec.post enc Try.prog Try.f4 false true false false) := by
  refine returnsInHanded_of_change (C := Try.checked) own started (by kernel_rfl) Try.func4
    (ChangeSpec.witness6 (enc := enc) (C := Try.checked) false ⟨#[], #[.int .u64 0, .int .u64 0], []⟩ 8 (by kernel_rfl) (by kernel_rfl) (by kernel_rfl) (by kernel_rfl)) ?_
  intro W base args ds gs before hval0 hW hcnd _
  have hval : ∀ (j : Nat) t v, Try.f4.params[j]? = some t → args[j]? = some v → Value.okWide Try.prog W .any base t v := hval0
  have hW' := hW
  obtain ⟨p, q, hA0, hV, rfl, hfz, hnd⟩ := hW
  have hA : DataW.TrodAll enc Try.prog W 0 (fun _ => true) true Try.f4.params.toList args.toList ds p := hA0
  rw [Try.params4] at hA hval
  obtain ⟨v0, vs0, d0, ds0, p0, q0, hargs, rfl, rfl, h0, r0⟩ := trodAll_cons hA
  obtain ⟨v1, vs1, d1, ds1, p1, q1, rfl, rfl, rfl, h1, r1⟩ := trodAll_cons r0
  obtain ⟨rfl, rfl, rfl⟩ := trodAll_nil r1
  obtain rfl : args = #[v0, v1] := by cases args; simp_all
  obtain ⟨rfl, rfl⟩ := trodVars_none hV
  obtain ⟨a0, rfl, rfl, rfl, w0⟩ := open_int Try.underlying22 (hval 0 _ v0 rfl rfl) h0
  obtain ⟨a1, rfl, rfl, rfl, w1⟩ := open_int Try.underlying22 (hval 1 _ v1 rfl rfl) h1
  clear hA0 hval0
  simp only [List.append_nil] at hW'
  obtain ⟨l0, m0⟩ := wf_u64 w0
  obtain ⟨l1, m1⟩ := wf_u64 w1
  refine (walk a0 a1 W l0 m0 l1 m1).mono fun e W' ⟨he, hg⟩ => ?_
  subst he
  exact ⟨_, rfl, post_of_under (pa := []) (pv := []) hW' (fun _ _ _ => (trodAll_cons_mk (shut_bool Try.underlying4 _) trodAll_mk0)) (fun sp _ => (trodAll_cons_mk (shut_int Try.underlying22 w0) (trodAll_cons_mk (shut_int Try.underlying22 w1) trodAll_mk0))) (fun _ _ => rfl) rfl
    hg (ok_one (by kernel_rfl) rfl (okWide_bool_mk Try.underlying4 _))⟩
theorem over : Rows.wideMulsRow.holds Try.pinned (OpenSpec.ofChange Rows.wideMulsSpec) :=
  OpenClaim.holds_of_wide 4 Try.f4 rfl rfl rfl rfl rfl rfl rfl ⟨rfl, rfl, rfl, rfl, rfl⟩ rfl rfl rfl rfl rfl (by kernel_rfl) Try.func4 (by kernel_rfl)
    (of_decide_eq_true (by kernel_rfl)) (by unfold Func.isWrapper; first | (rw [if_pos (by decide +kernel)]; kernel_rfl) | (rw [if_neg (by decide +kernel)]; exact ⟨rfl, rfl⟩))
    (fun os started H enc _ => lifted os started H enc)
theorem proved : Rows.WideMulsSaid := over
end Go.Proofs.Ytapmnlalnmlcoaa.wideMuls
