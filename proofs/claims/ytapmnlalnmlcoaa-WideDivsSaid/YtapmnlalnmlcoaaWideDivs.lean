/- WideDivs is true of every number of 128 bits and every divisor of 64, and changes nothing that it was given. -/
import Derived.Test.YtapmnlalnmlcoaaAwakea
import Derived.Test.YtapmnlalnmlcoaaRefi
import Derived.Test.YtapmnlalnmlcoaaWideb
import Derived.Test.YtapmnlalnmlcoaaHelp
import Derived.Test.YtapmnlalnmlcoaaHelpb
import Derived.Test.YtapmnlalnmlcoaaHelpc
import Derived.Test.YtapmnlalnmlcoaaHelpd
import Derived.Test.YtapmnlalnmlcoaaOwnn
import Derived.Test.YtapmnlalnmlcoaaRow
import Derived.Test.YtapmnlalnmlcoaaRows
import Derived.WalkKit
import Derived.ProofKit
import Derived.OpenShut
import Derived.Deep.DeepCutAuto
import Derived.Lib.SmallJoins
namespace Go.Proofs.Ytapmnlalnmlcoaa.wideDivs
open Go.ChangeShapes Go.WideShapes Go.ChangeAt Go.RowKit Kn
set_option linter.unusedVariables false
theorem own : ownKnob Try.prog.godebug = none := by kernel_rfl
theorem rdiv_z (h l d : Int) (w : World) (hd : d = 0) :
    Calls Try.prog 26 #[.agg #[.int .u64 h, .int .u64 l], .int .u64 d] w fun e w' => e = .returned (.tuple #[.agg #[.int .u64 0, .int .u64 0], .int .u64 0]) ∧ Below w.heap.size w w' := by
  subst hd; exact rdiv_zero h l w
theorem div_back (Q d : Int) : hi Q * d * 18446744073709551616 + lo Q * d = Q * d := by
  have e := num_hi_lo Q
  have f : num (hi Q) (lo Q) * d = hi Q * d * 18446744073709551616 + lo Q * d := by
    unfold num
    rw [Int.add_mul, Int.mul_right_comm]
  rw [← f, e]
set_option maxRecDepth 1000000 in
set_option maxHeartbeats 8000000 in
theorem walk_pos (h l d : Int) (w : World) (h0 : 0 ≤ h) (h1 : h ≤ 18446744073709551615) (l0 : 0 ≤ l) (l1 : l ≤ 18446744073709551615) (d0 : 0 ≤ d) (d1 : d ≤ 18446744073709551615) (hd : ¬ d = 0) :
    Calls Try.prog 5 #[.agg #[.int .u64 h, .int .u64 l], .int .u64 d] w fun e w' => e = .returned (.bool true) ∧ Below w.heap.size w w' := by
  have hb := Below.refl w.heap.size w
  have dp : 0 < d := by omega
  have hz : (d == 0) = false := by simpa using hd
  have N0 := num0 h l h0 l0
  have N1 := num1 h l h1 l1
  obtain ⟨Q, hQ⟩ : ∃ Q, num h l / d = Q := ⟨_, rfl⟩
  obtain ⟨R, hR⟩ : ∃ R, num h l % d = R := ⟨_, rfl⟩
  have Q0 : 0 ≤ Q := by rw [← hQ]; exact Int.ediv_nonneg N0 d0
  have Q1 : Q < 340282366920938463463374607431768211456 := by rw [← hQ]; have := Int.ediv_le_self d N0; omega
  have R0 : 0 ≤ R := by rw [← hR]; exact Int.emod_nonneg _ hd
  have R1 : R < d := by rw [← hR]; exact Int.emod_lt_of_pos _ dp
  have eN : Q * d + R = num h l := by rw [← hQ, ← hR, Int.mul_comm]; exact Int.mul_ediv_add_emod _ _
  have eb := div_back Q d
  have u0 := hi0 _ Q0
  have u1 := hi1 _ Q1
  have u2 := lo0 Q
  have u3 := lo1 Q
  obtain ⟨H, hH⟩ : ∃ H, hi Q * d = H := ⟨_, rfl⟩
  obtain ⟨L, hL⟩ : ∃ L, lo Q * d = L := ⟨_, rfl⟩
  obtain ⟨P, hP⟩ : ∃ P, Q * d = P := ⟨_, rfl⟩
  rw [hH, hL, hP] at eb
  rw [hP] at eN
  have H0 : 0 ≤ H := by rw [← hH]; exact Int.mul_nonneg u0 d0
  have L0 : 0 ≤ L := by rw [← hL]; exact Int.mul_nonneg u2 d0
  have H1 : H ≤ 18446744073709551615 := by omega
  have L1 : L < 340282366920938463463374607431768211456 := by omega
  have P0 : 0 ≤ P := by omega
  have P1 : P < 340282366920938463463374607431768211456 := by omega
  have p0 := hi0 _ L0
  have p1 := hi1 _ L1
  have p2 := lo0 L
  have p3 := lo1 L
  have r0 := hi0 _ P0
  have r1 := hi1 _ P1
  have r2 := lo0 P
  have r3 := lo1 P
  have eHh := Lib.hid (show hi H = 0 by unfold hi; omega)
  have eHl := Lib.hid (show lo H = H by unfold lo; omega)
  have eL := Lib.hid (num_hi_lo L)
  have eP := Lib.hid (num_hi_lo P)
  have eA := Lib.hid (show addN L (num H 0) = P by unfold addN num; omega)
  have eO := Lib.hid (show overB L (num H 0) = false by unfold overB num; exact decide_eq_false (by omega))
  have eB := Lib.hid (show addN P (num 0 R) = num h l by unfold addN num; unfold num at eN N1; omega)
  have eU := Lib.hid (show overB P (num 0 R) = false by unfold overB num; unfold num at eN N1; exact decide_eq_false (by omega))
  have eh := Lib.hid (hi_num h l l0 l1)
  have el := Lib.hid (lo_num h l l0 l1)
  have HQ := Lib.hid hQ; have HR := Lib.hid hR; have HH := Lib.hid hH; have HL := Lib.hid hL
  have R2 : R ≤ 18446744073709551615 := by omega
  clear hQ hR hH hL hP eN eb N0 N1 Q0 Q1 L0 L1 P0 P1
  go_enter Try.func5, Try.ntmps5
  go_wp2_with fail
  refine (awakea _).mono ?_
  rintro e w1 ⟨rfl, hb1⟩
  have a0 : w1.cell? ⟨w.heap.size, 0, none⟩ = some (.int .u64 h) := cell_later hb1 (by (repeat (first | with_reducible assumption | (simp [go_sem]; done) | (simp [go_sem, *]; done) | with_reducible refine kdrew ?_ | (with_reducible refine ksame ?_; (simp [go_sem, *]; done)) | with_reducible refine kother ?_ (by simp; try omega) | with_reducible refine kalloc ?_ _)))
  have a1 : w1.cell? ⟨w.heap.size, 1, none⟩ = some (.int .u64 l) := cell_later hb1 (by (repeat (first | with_reducible assumption | (simp [go_sem]; done) | (simp [go_sem, *]; done) | with_reducible refine kdrew ?_ | (with_reducible refine ksame ?_; (simp [go_sem, *]; done)) | with_reducible refine kother ?_ (by simp; try omega) | with_reducible refine kalloc ?_ _)))
  have za0 : w.heap.size < w1.heap.size := klt a0
  replace hb := (show Below w.heap.size w _ from by (repeat (first | exact hb | apply Below.drew | apply below_drewN | refine Below.setCell ?_ (by have := hb.size; (try simp at this); (try simp); (try omega)) _ | refine Below.alloc ?_ (by have := hb.size; (try simp at this); (try simp); (try omega)) _))).trans (hb1.mono (by have := hb.size; (try simp at this); (try simp); (try omega)))
  clear hb1
  go_wp2_with fail
  refine (wdiv_any _ _ _ _ h0 h1 l0 l1 dp d1).mono ?_
  rintro e w2 ⟨rfl, hb2⟩
  rw [HQ.out, HR.out]
  replace a0 : w2.cell? ⟨w.heap.size, 0, none⟩ = some (.int .u64 h) := cell_later hb2 (by (repeat (first | with_reducible exact a0 | with_reducible refine kalloc ?_ _ | with_reducible refine kdrew ?_ | with_reducible refine kdrewN ?_ _ | with_reducible refine kother ?_ (by simp; try omega))))
  replace a1 : w2.cell? ⟨w.heap.size, 1, none⟩ = some (.int .u64 l) := cell_later hb2 (by (repeat (first | with_reducible exact a1 | with_reducible refine kalloc ?_ _ | with_reducible refine kdrew ?_ | with_reducible refine kdrewN ?_ _ | with_reducible refine kother ?_ (by simp; try omega))))
  have za0 : w.heap.size < w2.heap.size := klt a0
  replace hb := (show Below w.heap.size w _ from by (repeat (first | exact hb | apply Below.drew | apply below_drewN | refine Below.setCell ?_ (by have := hb.size; (try simp at this); (try simp); (try omega)) _ | refine Below.alloc ?_ (by have := hb.size; (try simp at this); (try simp); (try omega)) _))).trans (hb2.mono (by have := hb.size; (try simp at this); (try simp); (try omega)))
  clear hb2
  go_wp2_with fail
  refine (own_any _ _ _).mono ?_
  rintro e w3 ⟨rfl, hb3⟩
  replace a0 : w3.cell? ⟨w.heap.size, 0, none⟩ = some (.int .u64 h) := cell_later hb3 (by (repeat (first | with_reducible exact a0 | with_reducible refine kalloc ?_ _ | with_reducible refine kdrew ?_ | with_reducible refine kdrewN ?_ _ | with_reducible refine kother ?_ (by simp; try omega))))
  replace a1 : w3.cell? ⟨w.heap.size, 1, none⟩ = some (.int .u64 l) := cell_later hb3 (by (repeat (first | with_reducible exact a1 | with_reducible refine kalloc ?_ _ | with_reducible refine kdrew ?_ | with_reducible refine kdrewN ?_ _ | with_reducible refine kother ?_ (by simp; try omega))))
  have q0 : w3.cell? ⟨w2.heap.size, 0, none⟩ = some (.int .u64 (hi Q)) := cell_later hb3 (by (repeat (first | with_reducible assumption | (simp [go_sem]; done) | (simp [go_sem, *]; done) | with_reducible refine kdrew ?_ | (with_reducible refine ksame ?_; (simp [go_sem, *]; done)) | with_reducible refine kother ?_ (by simp; try omega) | with_reducible refine kalloc ?_ _)))
  have q1 : w3.cell? ⟨w2.heap.size, 1, none⟩ = some (.int .u64 (lo Q)) := cell_later hb3 (by (repeat (first | with_reducible assumption | (simp [go_sem]; done) | (simp [go_sem, *]; done) | with_reducible refine kdrew ?_ | (with_reducible refine ksame ?_; (simp [go_sem, *]; done)) | with_reducible refine kother ?_ (by simp; try omega) | with_reducible refine kalloc ?_ _)))
  have za0 : w.heap.size < w3.heap.size := klt a0
  have zq0 : w2.heap.size < w3.heap.size := klt q0
  replace hb := (show Below w.heap.size w _ from by (repeat (first | exact hb | apply Below.drew | apply below_drewN | refine Below.setCell ?_ (by have := hb.size; (try simp at this); (try simp); (try omega)) _ | refine Below.alloc ?_ (by have := hb.size; (try simp at this); (try simp); (try omega)) _))).trans (hb3.mono (by have := hb.size; (try simp at this); (try simp); (try omega)))
  clear hb3
  go_wp2_with fail
  refine (rdiv_any _ _ _ _ h0 h1 l0 l1 dp d1).mono ?_
  rintro e w4 ⟨rfl, hb4⟩
  rw [HQ.out, HR.out]
  replace a0 : w4.cell? ⟨w.heap.size, 0, none⟩ = some (.int .u64 h) := cell_later hb4 (by (repeat (first | with_reducible exact a0 | with_reducible refine kalloc ?_ _ | with_reducible refine kdrew ?_ | with_reducible refine kdrewN ?_ _ | with_reducible refine kother ?_ (by simp; try omega))))
  replace a1 : w4.cell? ⟨w.heap.size, 1, none⟩ = some (.int .u64 l) := cell_later hb4 (by (repeat (first | with_reducible exact a1 | with_reducible refine kalloc ?_ _ | with_reducible refine kdrew ?_ | with_reducible refine kdrewN ?_ _ | with_reducible refine kother ?_ (by simp; try omega))))
  replace q0 : w4.cell? ⟨w2.heap.size, 0, none⟩ = some (.int .u64 (hi Q)) := cell_later hb4 (by (repeat (first | with_reducible exact q0 | with_reducible refine kalloc ?_ _ | with_reducible refine kdrew ?_ | with_reducible refine kdrewN ?_ _ | with_reducible refine kother ?_ (by simp; try omega))))
  replace q1 : w4.cell? ⟨w2.heap.size, 1, none⟩ = some (.int .u64 (lo Q)) := cell_later hb4 (by (repeat (first | with_reducible exact q1 | with_reducible refine kalloc ?_ _ | with_reducible refine kdrew ?_ | with_reducible refine kdrewN ?_ _ | with_reducible refine kother ?_ (by simp; try omega))))
  have za0 : w.heap.size < w4.heap.size := klt a0
  have zq0 : w2.heap.size < w4.heap.size := klt q0
  replace hb := (show Below w.heap.size w _ from by (repeat (first | exact hb | apply Below.drew | apply below_drewN | refine Below.setCell ?_ (by have := hb.size; (try simp at this); (try simp); (try omega)) _ | refine Below.alloc ?_ (by have := hb.size; (try simp at this); (try simp); (try omega)) _))).trans (hb4.mono (by have := hb.size; (try simp at this); (try simp); (try omega)))
  clear hb4
  go_upto_region 5 with fail
  go_cut [36] (fun s36 wx => s36 = .bool false ∧ wx.cell? ⟨w.heap.size, 0, none⟩ = some (.int .u64 h) ∧ wx.cell? ⟨w.heap.size, 1, none⟩ = some (.int .u64 l) ∧ wx.cell? ⟨w2.heap.size, 0, none⟩ = some (.int .u64 (hi Q)) ∧ wx.cell? ⟨w2.heap.size, 1, none⟩ = some (.int .u64 (lo Q)) ∧ wx.cell? ⟨w4.heap.size, 0, none⟩ = some (.int .u64 (hi Q)) ∧ wx.cell? ⟨w4.heap.size, 1, none⟩ = some (.int .u64 (lo Q)) ∧ Below w.heap.size w wx)
  case first =>
    go_region_held3 (fun w' => w'.cell? ⟨w.heap.size, 0, none⟩ = some (.int .u64 h) ∧ w'.cell? ⟨w.heap.size, 1, none⟩ = some (.int .u64 l) ∧ w'.cell? ⟨w2.heap.size, 0, none⟩ = some (.int .u64 (hi Q)) ∧ w'.cell? ⟨w2.heap.size, 1, none⟩ = some (.int .u64 (lo Q)) ∧ w'.cell? ⟨w4.heap.size, 0, none⟩ = some (.int .u64 (hi Q)) ∧ w'.cell? ⟨w4.heap.size, 1, none⟩ = some (.int .u64 (lo Q))) (refine ⟨?_, ?_, ?_, ?_, ?_, ?_⟩ <;> (repeat (first | with_reducible assumption | (simp [go_sem]; done) | (simp [go_sem, *]; done) | with_reducible refine kdrew ?_ | (with_reducible refine ksame ?_; (simp [go_sem, *]; done)) | with_reducible refine kother ?_ (by simp; try omega) | with_reducible refine kalloc ?_ _)))
      ((rw [if_pos (by rfl)]; refine wp_enter (by go_simp; exact ⟨rfl, rfl⟩) ?_; (first
        | (go_at_call 20; refine (own_any _ _ _).mono ?_; rintro e wn ⟨rfl, hbn⟩; replace a0 : wn.cell? ⟨w.heap.size, 0, none⟩ = some (.int .u64 h) := cell_later hbn (by (repeat (first | with_reducible exact a0 | with_reducible refine kalloc ?_ _ | with_reducible refine kdrew ?_ | with_reducible refine kdrewN ?_ _ | with_reducible refine kother ?_ (by simp; try omega)))); replace a1 : wn.cell? ⟨w.heap.size, 1, none⟩ = some (.int .u64 l) := cell_later hbn (by (repeat (first | with_reducible exact a1 | with_reducible refine kalloc ?_ _ | with_reducible refine kdrew ?_ | with_reducible refine kdrewN ?_ _ | with_reducible refine kother ?_ (by simp; try omega)))); replace q0 : wn.cell? ⟨w2.heap.size, 0, none⟩ = some (.int .u64 (hi Q)) := cell_later hbn (by (repeat (first | with_reducible exact q0 | with_reducible refine kalloc ?_ _ | with_reducible refine kdrew ?_ | with_reducible refine kdrewN ?_ _ | with_reducible refine kother ?_ (by simp; try omega)))); replace q1 : wn.cell? ⟨w2.heap.size, 1, none⟩ = some (.int .u64 (lo Q)) := cell_later hbn (by (repeat (first | with_reducible exact q1 | with_reducible refine kalloc ?_ _ | with_reducible refine kdrew ?_ | with_reducible refine kdrewN ?_ _ | with_reducible refine kother ?_ (by simp; try omega)))); have x0 : wn.cell? ⟨w4.heap.size, 0, none⟩ = some (.int .u64 (hi Q)) := cell_later hbn (by (repeat (first | with_reducible assumption | (simp [go_sem]; done) | (simp [go_sem, *]; done) | with_reducible refine kdrew ?_ | (with_reducible refine ksame ?_; (simp [go_sem, *]; done)) | with_reducible refine kother ?_ (by simp; try omega) | with_reducible refine kalloc ?_ _))); have x1 : wn.cell? ⟨w4.heap.size, 1, none⟩ = some (.int .u64 (lo Q)) := cell_later hbn (by (repeat (first | with_reducible assumption | (simp [go_sem]; done) | (simp [go_sem, *]; done) | with_reducible refine kdrew ?_ | (with_reducible refine ksame ?_; (simp [go_sem, *]; done)) | with_reducible refine kother ?_ (by simp; try omega) | with_reducible refine kalloc ?_ _))); have za0 : w.heap.size < wn.heap.size := klt a0; have zq0 : w2.heap.size < wn.heap.size := klt q0; have zx0 : w4.heap.size < wn.heap.size := klt x0; replace hb := (show Below w.heap.size w _ from by (repeat (first | exact hb | apply Below.drew | apply below_drewN | refine Below.setCell ?_ (by have := hb.size; (try simp at this); (try simp); (try omega)) _ | refine Below.alloc ?_ (by have := hb.size; (try simp at this); (try simp); (try omega)) _))).trans (hbn.mono (by have := hb.size; (try simp at this); (try simp); (try omega))); obtain ⟨hcn, hfn⟩ := bcell hbn; (try (have hsr := Nat.lt_of_lt_of_le hsq hbn.size)); (try (have hsq := Nat.lt_of_lt_of_le hsy hbn.size)); have hsz := hbn.size; (try simp at hsz); (try (have hsy := Nat.lt_of_succ_le hsz)); clear hbn; refine ⟨_, rfl, ?_⟩))))
    all_goals (go_wp2_with fail; go_meet; exact ⟨rfl, by (repeat (first | with_reducible assumption | (simp [go_sem]; done) | (simp [go_sem, *]; done) | with_reducible refine kdrew ?_ | (with_reducible refine ksame ?_; (simp [go_sem, *]; done)) | with_reducible refine kother ?_ (by simp; try omega) | with_reducible refine kalloc ?_ _)), by (repeat (first | with_reducible assumption | (simp [go_sem]; done) | (simp [go_sem, *]; done) | with_reducible refine kdrew ?_ | (with_reducible refine ksame ?_; (simp [go_sem, *]; done)) | with_reducible refine kother ?_ (by simp; try omega) | with_reducible refine kalloc ?_ _)), by (repeat (first | with_reducible assumption | (simp [go_sem]; done) | (simp [go_sem, *]; done) | with_reducible refine kdrew ?_ | (with_reducible refine ksame ?_; (simp [go_sem, *]; done)) | with_reducible refine kother ?_ (by simp; try omega) | with_reducible refine kalloc ?_ _)), by (repeat (first | with_reducible assumption | (simp [go_sem]; done) | (simp [go_sem, *]; done) | with_reducible refine kdrew ?_ | (with_reducible refine ksame ?_; (simp [go_sem, *]; done)) | with_reducible refine kother ?_ (by simp; try omega) | with_reducible refine kalloc ?_ _)), by (repeat (first | with_reducible assumption | (simp [go_sem]; done) | (simp [go_sem, *]; done) | with_reducible refine kdrew ?_ | (with_reducible refine ksame ?_; (simp [go_sem, *]; done)) | with_reducible refine kother ?_ (by simp; try omega) | with_reducible refine kalloc ?_ _)), by (repeat (first | with_reducible assumption | (simp [go_sem]; done) | (simp [go_sem, *]; done) | with_reducible refine kdrew ?_ | (with_reducible refine ksame ?_; (simp [go_sem, *]; done)) | with_reducible refine kother ?_ (by simp; try omega) | with_reducible refine kalloc ?_ _)), (by (repeat (first | exact hb | apply Below.drew | apply below_drewN | refine Below.setCell ?_ (by have := hb.size; (try simp at this); (try simp); (try omega)) _ | refine Below.alloc ?_ (by have := hb.size; (try simp at this); (try simp); (try omega)) _)))⟩)
  case rest =>
    clear hb
    obtain ⟨rfl, a0, a1, q0, q1, x0, x1, hb⟩ := hcut
    have za0 : w.heap.size < wc.heap.size := klt a0
    have zq0 : w2.heap.size < wc.heap.size := klt q0
    have zx0 : w4.heap.size < wc.heap.size := klt x0
    go_wp2_with fail
    refine (wmul_any _ _ _ u2 u3 d0 d1).mono ?_
    rintro e w5 ⟨rfl, hb5⟩
    rw [HL.out]
    replace a0 : w5.cell? ⟨w.heap.size, 0, none⟩ = some (.int .u64 h) := cell_later hb5 (by (repeat (first | with_reducible exact a0 | with_reducible refine kalloc ?_ _ | with_reducible refine kdrew ?_ | with_reducible refine kdrewN ?_ _ | with_reducible refine kother ?_ (by simp; try omega))))
    replace a1 : w5.cell? ⟨w.heap.size, 1, none⟩ = some (.int .u64 l) := cell_later hb5 (by (repeat (first | with_reducible exact a1 | with_reducible refine kalloc ?_ _ | with_reducible refine kdrew ?_ | with_reducible refine kdrewN ?_ _ | with_reducible refine kother ?_ (by simp; try omega))))
    replace q0 : w5.cell? ⟨w2.heap.size, 0, none⟩ = some (.int .u64 (hi Q)) := cell_later hb5 (by (repeat (first | with_reducible exact q0 | with_reducible refine kalloc ?_ _ | with_reducible refine kdrew ?_ | with_reducible refine kdrewN ?_ _ | with_reducible refine kother ?_ (by simp; try omega))))
    replace q1 : w5.cell? ⟨w2.heap.size, 1, none⟩ = some (.int .u64 (lo Q)) := cell_later hb5 (by (repeat (first | with_reducible exact q1 | with_reducible refine kalloc ?_ _ | with_reducible refine kdrew ?_ | with_reducible refine kdrewN ?_ _ | with_reducible refine kother ?_ (by simp; try omega))))
    replace x0 : w5.cell? ⟨w4.heap.size, 0, none⟩ = some (.int .u64 (hi Q)) := cell_later hb5 (by (repeat (first | with_reducible exact x0 | with_reducible refine kalloc ?_ _ | with_reducible refine kdrew ?_ | with_reducible refine kdrewN ?_ _ | with_reducible refine kother ?_ (by simp; try omega))))
    replace x1 : w5.cell? ⟨w4.heap.size, 1, none⟩ = some (.int .u64 (lo Q)) := cell_later hb5 (by (repeat (first | with_reducible exact x1 | with_reducible refine kalloc ?_ _ | with_reducible refine kdrew ?_ | with_reducible refine kdrewN ?_ _ | with_reducible refine kother ?_ (by simp; try omega))))
    have za0 : w.heap.size < w5.heap.size := klt a0
    have zq0 : w2.heap.size < w5.heap.size := klt q0
    have zx0 : w4.heap.size < w5.heap.size := klt x0
    replace hb := (show Below w.heap.size w _ from by (repeat (first | exact hb | apply Below.drew | apply below_drewN | refine Below.setCell ?_ (by have := hb.size; (try simp at this); (try simp); (try omega)) _ | refine Below.alloc ?_ (by have := hb.size; (try simp at this); (try simp); (try omega)) _))).trans (hb5.mono (by have := hb.size; (try simp at this); (try simp); (try omega)))
    clear hb5
    go_wp2_with fail
    refine (wmul_any _ _ _ u0 u1 d0 d1).mono ?_
    rintro e w6 ⟨rfl, hb6⟩
    rw [HH.out, eHh.out, eHl.out]
    have f0 : w6.frozen? ⟨w5.heap.size, 0, none⟩ = false := frz_later hb6 (show World.cell? _ ⟨w5.heap.size, 0, none⟩ = some (.int .u64 (hi L)) from (by (repeat (first | with_reducible assumption | (simp [go_sem]; done) | (simp [go_sem, *]; done) | with_reducible refine kdrew ?_ | (with_reducible refine ksame ?_; (simp [go_sem, *]; done)) | with_reducible refine kother ?_ (by simp; try omega) | with_reducible refine kalloc ?_ _)))) (by first | with_reducible assumption | (simp [go_sem, *]; done))
    have f1 : w6.frozen? ⟨w5.heap.size, 1, none⟩ = false := frz_later hb6 (show World.cell? _ ⟨w5.heap.size, 1, none⟩ = some (.int .u64 (lo L)) from (by (repeat (first | with_reducible assumption | (simp [go_sem]; done) | (simp [go_sem, *]; done) | with_reducible refine kdrew ?_ | (with_reducible refine ksame ?_; (simp [go_sem, *]; done)) | with_reducible refine kother ?_ (by simp; try omega) | with_reducible refine kalloc ?_ _)))) (by first | with_reducible assumption | (simp [go_sem, *]; done))
    replace a0 : w6.cell? ⟨w.heap.size, 0, none⟩ = some (.int .u64 h) := cell_later hb6 (by (repeat (first | with_reducible exact a0 | with_reducible refine kalloc ?_ _ | with_reducible refine kdrew ?_ | with_reducible refine kdrewN ?_ _ | with_reducible refine kother ?_ (by simp; try omega))))
    replace a1 : w6.cell? ⟨w.heap.size, 1, none⟩ = some (.int .u64 l) := cell_later hb6 (by (repeat (first | with_reducible exact a1 | with_reducible refine kalloc ?_ _ | with_reducible refine kdrew ?_ | with_reducible refine kdrewN ?_ _ | with_reducible refine kother ?_ (by simp; try omega))))
    replace q0 : w6.cell? ⟨w2.heap.size, 0, none⟩ = some (.int .u64 (hi Q)) := cell_later hb6 (by (repeat (first | with_reducible exact q0 | with_reducible refine kalloc ?_ _ | with_reducible refine kdrew ?_ | with_reducible refine kdrewN ?_ _ | with_reducible refine kother ?_ (by simp; try omega))))
    replace q1 : w6.cell? ⟨w2.heap.size, 1, none⟩ = some (.int .u64 (lo Q)) := cell_later hb6 (by (repeat (first | with_reducible exact q1 | with_reducible refine kalloc ?_ _ | with_reducible refine kdrew ?_ | with_reducible refine kdrewN ?_ _ | with_reducible refine kother ?_ (by simp; try omega))))
    replace x0 : w6.cell? ⟨w4.heap.size, 0, none⟩ = some (.int .u64 (hi Q)) := cell_later hb6 (by (repeat (first | with_reducible exact x0 | with_reducible refine kalloc ?_ _ | with_reducible refine kdrew ?_ | with_reducible refine kdrewN ?_ _ | with_reducible refine kother ?_ (by simp; try omega))))
    replace x1 : w6.cell? ⟨w4.heap.size, 1, none⟩ = some (.int .u64 (lo Q)) := cell_later hb6 (by (repeat (first | with_reducible exact x1 | with_reducible refine kalloc ?_ _ | with_reducible refine kdrew ?_ | with_reducible refine kdrewN ?_ _ | with_reducible refine kother ?_ (by simp; try omega))))
    have k0 : w6.cell? ⟨w5.heap.size, 0, none⟩ = some (.int .u64 (hi L)) := cell_later hb6 (by (repeat (first | with_reducible assumption | (simp [go_sem]; done) | (simp [go_sem, *]; done) | with_reducible refine kdrew ?_ | (with_reducible refine ksame ?_; (simp [go_sem, *]; done)) | with_reducible refine kother ?_ (by simp; try omega) | with_reducible refine kalloc ?_ _)))
    have k1 : w6.cell? ⟨w5.heap.size, 1, none⟩ = some (.int .u64 (lo L)) := cell_later hb6 (by (repeat (first | with_reducible assumption | (simp [go_sem]; done) | (simp [go_sem, *]; done) | with_reducible refine kdrew ?_ | (with_reducible refine ksame ?_; (simp [go_sem, *]; done)) | with_reducible refine kother ?_ (by simp; try omega) | with_reducible refine kalloc ?_ _)))
    have za0 : w.heap.size < w6.heap.size := klt a0
    have zq0 : w2.heap.size < w6.heap.size := klt q0
    have zx0 : w4.heap.size < w6.heap.size := klt x0
    have zk0 : w5.heap.size < w6.heap.size := klt k0
    replace hb := (show Below w.heap.size w _ from by (repeat (first | exact hb | apply Below.drew | apply below_drewN | refine Below.setCell ?_ (by have := hb.size; (try simp at this); (try simp); (try omega)) _ | refine Below.alloc ?_ (by have := hb.size; (try simp at this); (try simp); (try omega)) _))).trans (hb6.mono (by have := hb.size; (try simp at this); (try simp); (try omega)))
    clear hb6
    go_wp2_with fail
    refine (wadd_any _ _ _ _ _ p0 p1 p2 p3 H0 H1 (by omega) (by omega)).mono ?_
    rintro e w7 ⟨rfl, hb7⟩
    rw [eL.out, eA.out, eO.out]
    replace f0 : w7.frozen? ⟨w5.heap.size, 0, none⟩ = false := frz_later hb7 (show World.cell? _ ⟨w5.heap.size, 0, none⟩ = some (.int .u64 (hi L)) from (by (repeat (first | with_reducible exact k0 | with_reducible refine kalloc ?_ _ | with_reducible refine kdrew ?_ | with_reducible refine kdrewN ?_ _ | with_reducible refine kother ?_ (by simp; try omega))))) (by first | with_reducible assumption | (simp [go_sem, *]; done))
    replace f1 : w7.frozen? ⟨w5.heap.size, 1, none⟩ = false := frz_later hb7 (show World.cell? _ ⟨w5.heap.size, 1, none⟩ = some (.int .u64 (lo L)) from (by (repeat (first | with_reducible exact k1 | with_reducible refine kalloc ?_ _ | with_reducible refine kdrew ?_ | with_reducible refine kdrewN ?_ _ | with_reducible refine kother ?_ (by simp; try omega))))) (by first | with_reducible assumption | (simp [go_sem, *]; done))
    replace a0 : w7.cell? ⟨w.heap.size, 0, none⟩ = some (.int .u64 h) := cell_later hb7 (by (repeat (first | with_reducible exact a0 | with_reducible refine kalloc ?_ _ | with_reducible refine kdrew ?_ | with_reducible refine kdrewN ?_ _ | with_reducible refine kother ?_ (by simp; try omega))))
    replace a1 : w7.cell? ⟨w.heap.size, 1, none⟩ = some (.int .u64 l) := cell_later hb7 (by (repeat (first | with_reducible exact a1 | with_reducible refine kalloc ?_ _ | with_reducible refine kdrew ?_ | with_reducible refine kdrewN ?_ _ | with_reducible refine kother ?_ (by simp; try omega))))
    replace q0 : w7.cell? ⟨w2.heap.size, 0, none⟩ = some (.int .u64 (hi Q)) := cell_later hb7 (by (repeat (first | with_reducible exact q0 | with_reducible refine kalloc ?_ _ | with_reducible refine kdrew ?_ | with_reducible refine kdrewN ?_ _ | with_reducible refine kother ?_ (by simp; try omega))))
    replace q1 : w7.cell? ⟨w2.heap.size, 1, none⟩ = some (.int .u64 (lo Q)) := cell_later hb7 (by (repeat (first | with_reducible exact q1 | with_reducible refine kalloc ?_ _ | with_reducible refine kdrew ?_ | with_reducible refine kdrewN ?_ _ | with_reducible refine kother ?_ (by simp; try omega))))
    replace x0 : w7.cell? ⟨w4.heap.size, 0, none⟩ = some (.int .u64 (hi Q)) := cell_later hb7 (by (repeat (first | with_reducible exact x0 | with_reducible refine kalloc ?_ _ | with_reducible refine kdrew ?_ | with_reducible refine kdrewN ?_ _ | with_reducible refine kother ?_ (by simp; try omega))))
    replace x1 : w7.cell? ⟨w4.heap.size, 1, none⟩ = some (.int .u64 (lo Q)) := cell_later hb7 (by (repeat (first | with_reducible exact x1 | with_reducible refine kalloc ?_ _ | with_reducible refine kdrew ?_ | with_reducible refine kdrewN ?_ _ | with_reducible refine kother ?_ (by simp; try omega))))
    replace k0 : w7.cell? ⟨w5.heap.size, 0, none⟩ = some (.int .u64 (hi L)) := cell_later hb7 (by (repeat (first | with_reducible exact k0 | with_reducible refine kalloc ?_ _ | with_reducible refine kdrew ?_ | with_reducible refine kdrewN ?_ _ | with_reducible refine kother ?_ (by simp; try omega))))
    replace k1 : w7.cell? ⟨w5.heap.size, 1, none⟩ = some (.int .u64 (lo L)) := cell_later hb7 (by (repeat (first | with_reducible exact k1 | with_reducible refine kalloc ?_ _ | with_reducible refine kdrew ?_ | with_reducible refine kdrewN ?_ _ | with_reducible refine kother ?_ (by simp; try omega))))
    have g0 : w7.cell? ⟨w6.heap.size, 0, none⟩ = some (.int .u64 0) := cell_later hb7 (by (repeat (first | with_reducible assumption | (simp [go_sem]; done) | (simp [go_sem, *]; done) | with_reducible refine kdrew ?_ | (with_reducible refine ksame ?_; (simp [go_sem, *]; done)) | with_reducible refine kother ?_ (by simp; try omega) | with_reducible refine kalloc ?_ _)))
    have g1 : w7.cell? ⟨w6.heap.size, 1, none⟩ = some (.int .u64 H) := cell_later hb7 (by (repeat (first | with_reducible assumption | (simp [go_sem]; done) | (simp [go_sem, *]; done) | with_reducible refine kdrew ?_ | (with_reducible refine ksame ?_; (simp [go_sem, *]; done)) | with_reducible refine kother ?_ (by simp; try omega) | with_reducible refine kalloc ?_ _)))
    have za0 : w.heap.size < w7.heap.size := klt a0
    have zq0 : w2.heap.size < w7.heap.size := klt q0
    have zx0 : w4.heap.size < w7.heap.size := klt x0
    have zk0 : w5.heap.size < w7.heap.size := klt k0
    have zg0 : w6.heap.size < w7.heap.size := klt g0
    replace hb := (show Below w.heap.size w _ from by (repeat (first | exact hb | apply Below.drew | apply below_drewN | refine Below.setCell ?_ (by have := hb.size; (try simp at this); (try simp); (try omega)) _ | refine Below.alloc ?_ (by have := hb.size; (try simp at this); (try simp); (try omega)) _))).trans (hb7.mono (by have := hb.size; (try simp at this); (try simp); (try omega)))
    clear hb7
    go_upto_region 12 with fail
    go_cut [12] (fun s12 wx => s12 = .bool false ∧ wx.cell? ⟨w.heap.size, 0, none⟩ = some (.int .u64 h) ∧ wx.cell? ⟨w.heap.size, 1, none⟩ = some (.int .u64 l) ∧ wx.cell? ⟨w2.heap.size, 0, none⟩ = some (.int .u64 (hi Q)) ∧ wx.cell? ⟨w2.heap.size, 1, none⟩ = some (.int .u64 (lo Q)) ∧ wx.cell? ⟨w4.heap.size, 0, none⟩ = some (.int .u64 (hi Q)) ∧ wx.cell? ⟨w4.heap.size, 1, none⟩ = some (.int .u64 (lo Q)) ∧ wx.cell? ⟨w6.heap.size, 0, none⟩ = some (.int .u64 0) ∧ wx.cell? ⟨w6.heap.size, 1, none⟩ = some (.int .u64 H) ∧ wx.cell? ⟨w5.heap.size, 0, none⟩ = some (.int .u64 h) ∧ wx.cell? ⟨w5.heap.size, 1, none⟩ = some (.int .u64 l) ∧ wx.frozen? ⟨w5.heap.size, 0, none⟩ = false ∧ wx.frozen? ⟨w5.heap.size, 1, none⟩ = false ∧ Below w.heap.size w wx)
    case first =>
      first
        | (go_region_with (first
          | (go_at_call 25; refine (wof_any _ _).mono ?_; rintro e wn ⟨rfl, hbn⟩; replace f0 : wn.frozen? ⟨w5.heap.size, 0, none⟩ = false := frz_later hbn (show World.cell? _ ⟨w5.heap.size, 0, none⟩ = some (.int .u64 (hi P)) from by (repeat (first | with_reducible assumption | (simp [go_sem]; done) | (simp [go_sem, *]; done) | with_reducible refine kdrew ?_ | (with_reducible refine ksame ?_; (simp [go_sem, *]; done)) | with_reducible refine kother ?_ (by simp; try omega) | with_reducible refine kalloc ?_ _))) (by first | with_reducible assumption | (simp [go_sem, *]; done)); replace f1 : wn.frozen? ⟨w5.heap.size, 1, none⟩ = false := frz_later hbn (show World.cell? _ ⟨w5.heap.size, 1, none⟩ = some (.int .u64 (lo P)) from by (repeat (first | with_reducible assumption | (simp [go_sem]; done) | (simp [go_sem, *]; done) | with_reducible refine kdrew ?_ | (with_reducible refine ksame ?_; (simp [go_sem, *]; done)) | with_reducible refine kother ?_ (by simp; try omega) | with_reducible refine kalloc ?_ _))) (by first | with_reducible assumption | (simp [go_sem, *]; done)); replace a0 : wn.cell? ⟨w.heap.size, 0, none⟩ = some (.int .u64 h) := cell_later hbn (by (repeat (first | with_reducible exact a0 | with_reducible refine kalloc ?_ _ | with_reducible refine kdrew ?_ | with_reducible refine kdrewN ?_ _ | with_reducible refine kother ?_ (by simp; try omega)))); replace a1 : wn.cell? ⟨w.heap.size, 1, none⟩ = some (.int .u64 l) := cell_later hbn (by (repeat (first | with_reducible exact a1 | with_reducible refine kalloc ?_ _ | with_reducible refine kdrew ?_ | with_reducible refine kdrewN ?_ _ | with_reducible refine kother ?_ (by simp; try omega)))); replace q0 : wn.cell? ⟨w2.heap.size, 0, none⟩ = some (.int .u64 (hi Q)) := cell_later hbn (by (repeat (first | with_reducible exact q0 | with_reducible refine kalloc ?_ _ | with_reducible refine kdrew ?_ | with_reducible refine kdrewN ?_ _ | with_reducible refine kother ?_ (by simp; try omega)))); replace q1 : wn.cell? ⟨w2.heap.size, 1, none⟩ = some (.int .u64 (lo Q)) := cell_later hbn (by (repeat (first | with_reducible exact q1 | with_reducible refine kalloc ?_ _ | with_reducible refine kdrew ?_ | with_reducible refine kdrewN ?_ _ | with_reducible refine kother ?_ (by simp; try omega)))); replace x0 : wn.cell? ⟨w4.heap.size, 0, none⟩ = some (.int .u64 (hi Q)) := cell_later hbn (by (repeat (first | with_reducible exact x0 | with_reducible refine kalloc ?_ _ | with_reducible refine kdrew ?_ | with_reducible refine kdrewN ?_ _ | with_reducible refine kother ?_ (by simp; try omega)))); replace x1 : wn.cell? ⟨w4.heap.size, 1, none⟩ = some (.int .u64 (lo Q)) := cell_later hbn (by (repeat (first | with_reducible exact x1 | with_reducible refine kalloc ?_ _ | with_reducible refine kdrew ?_ | with_reducible refine kdrewN ?_ _ | with_reducible refine kother ?_ (by simp; try omega)))); replace g0 : wn.cell? ⟨w6.heap.size, 0, none⟩ = some (.int .u64 0) := cell_later hbn (by (repeat (first | with_reducible exact g0 | with_reducible refine kalloc ?_ _ | with_reducible refine kdrew ?_ | with_reducible refine kdrewN ?_ _ | with_reducible refine kother ?_ (by simp; try omega)))); replace g1 : wn.cell? ⟨w6.heap.size, 1, none⟩ = some (.int .u64 H) := cell_later hbn (by (repeat (first | with_reducible exact g1 | with_reducible refine kalloc ?_ _ | with_reducible refine kdrew ?_ | with_reducible refine kdrewN ?_ _ | with_reducible refine kother ?_ (by simp; try omega)))); have m0 : wn.cell? ⟨w5.heap.size, 0, none⟩ = some (.int .u64 (hi P)) := cell_later hbn (by (repeat (first | with_reducible assumption | (simp [go_sem]; done) | (simp [go_sem, *]; done) | with_reducible refine kdrew ?_ | (with_reducible refine ksame ?_; (simp [go_sem, *]; done)) | with_reducible refine kother ?_ (by simp; try omega) | with_reducible refine kalloc ?_ _))); have m1 : wn.cell? ⟨w5.heap.size, 1, none⟩ = some (.int .u64 (lo P)) := cell_later hbn (by (repeat (first | with_reducible assumption | (simp [go_sem]; done) | (simp [go_sem, *]; done) | with_reducible refine kdrew ?_ | (with_reducible refine ksame ?_; (simp [go_sem, *]; done)) | with_reducible refine kother ?_ (by simp; try omega) | with_reducible refine kalloc ?_ _))); have za0 : w.heap.size < wn.heap.size := klt a0; have zq0 : w2.heap.size < wn.heap.size := klt q0; have zx0 : w4.heap.size < wn.heap.size := klt x0; have zg0 : w6.heap.size < wn.heap.size := klt g0; have zm0 : w5.heap.size < wn.heap.size := klt m0; replace hb := (show Below w.heap.size w _ from by (repeat (first | exact hb | apply Below.drew | apply below_drewN | refine Below.setCell ?_ (by have := hb.size; (try simp at this); (try simp); (try omega)) _ | refine Below.alloc ?_ (by have := hb.size; (try simp at this); (try simp); (try omega)) _))).trans (hbn.mono (by have := hb.size; (try simp at this); (try simp); (try omega))); obtain ⟨hcn, hfn⟩ := bcell hbn; (try (have hsr := Nat.lt_of_lt_of_le hsq hbn.size)); (try (have hsq := Nat.lt_of_lt_of_le hsy hbn.size)); have hsz := hbn.size; (try simp at hsz); (try (have hsy := Nat.lt_of_succ_le hsz)); clear hbn)
          | (go_at_call 17; refine (wadd_any _ _ _ _ _ r0 r1 r2 r3 (by omega) (by omega) R0 R2).mono ?_; rintro e wn ⟨rfl, hbn⟩; rw [eP.out, eB.out, eU.out, eh.out, el.out]; replace f0 : wn.frozen? ⟨w5.heap.size, 0, none⟩ = false := frz_later hbn (show World.cell? _ ⟨w5.heap.size, 0, none⟩ = some (.int .u64 (hi P)) from by (repeat (first | with_reducible assumption | (simp [go_sem]; done) | (simp [go_sem, *]; done) | with_reducible refine kdrew ?_ | (with_reducible refine ksame ?_; (simp [go_sem, *]; done)) | with_reducible refine kother ?_ (by simp; try omega) | with_reducible refine kalloc ?_ _))) (by first | with_reducible assumption | (simp [go_sem, *]; done)); replace f1 : wn.frozen? ⟨w5.heap.size, 1, none⟩ = false := frz_later hbn (show World.cell? _ ⟨w5.heap.size, 1, none⟩ = some (.int .u64 (lo P)) from by (repeat (first | with_reducible assumption | (simp [go_sem]; done) | (simp [go_sem, *]; done) | with_reducible refine kdrew ?_ | (with_reducible refine ksame ?_; (simp [go_sem, *]; done)) | with_reducible refine kother ?_ (by simp; try omega) | with_reducible refine kalloc ?_ _))) (by first | with_reducible assumption | (simp [go_sem, *]; done)); replace a0 : wn.cell? ⟨w.heap.size, 0, none⟩ = some (.int .u64 h) := cell_later hbn (by (repeat (first | with_reducible exact a0 | with_reducible refine kalloc ?_ _ | with_reducible refine kdrew ?_ | with_reducible refine kdrewN ?_ _ | with_reducible refine kother ?_ (by simp; try omega)))); replace a1 : wn.cell? ⟨w.heap.size, 1, none⟩ = some (.int .u64 l) := cell_later hbn (by (repeat (first | with_reducible exact a1 | with_reducible refine kalloc ?_ _ | with_reducible refine kdrew ?_ | with_reducible refine kdrewN ?_ _ | with_reducible refine kother ?_ (by simp; try omega)))); replace q0 : wn.cell? ⟨w2.heap.size, 0, none⟩ = some (.int .u64 (hi Q)) := cell_later hbn (by (repeat (first | with_reducible exact q0 | with_reducible refine kalloc ?_ _ | with_reducible refine kdrew ?_ | with_reducible refine kdrewN ?_ _ | with_reducible refine kother ?_ (by simp; try omega)))); replace q1 : wn.cell? ⟨w2.heap.size, 1, none⟩ = some (.int .u64 (lo Q)) := cell_later hbn (by (repeat (first | with_reducible exact q1 | with_reducible refine kalloc ?_ _ | with_reducible refine kdrew ?_ | with_reducible refine kdrewN ?_ _ | with_reducible refine kother ?_ (by simp; try omega)))); replace x0 : wn.cell? ⟨w4.heap.size, 0, none⟩ = some (.int .u64 (hi Q)) := cell_later hbn (by (repeat (first | with_reducible exact x0 | with_reducible refine kalloc ?_ _ | with_reducible refine kdrew ?_ | with_reducible refine kdrewN ?_ _ | with_reducible refine kother ?_ (by simp; try omega)))); replace x1 : wn.cell? ⟨w4.heap.size, 1, none⟩ = some (.int .u64 (lo Q)) := cell_later hbn (by (repeat (first | with_reducible exact x1 | with_reducible refine kalloc ?_ _ | with_reducible refine kdrew ?_ | with_reducible refine kdrewN ?_ _ | with_reducible refine kother ?_ (by simp; try omega)))); replace g0 : wn.cell? ⟨w6.heap.size, 0, none⟩ = some (.int .u64 0) := cell_later hbn (by (repeat (first | with_reducible exact g0 | with_reducible refine kalloc ?_ _ | with_reducible refine kdrew ?_ | with_reducible refine kdrewN ?_ _ | with_reducible refine kother ?_ (by simp; try omega)))); replace g1 : wn.cell? ⟨w6.heap.size, 1, none⟩ = some (.int .u64 H) := cell_later hbn (by (repeat (first | with_reducible exact g1 | with_reducible refine kalloc ?_ _ | with_reducible refine kdrew ?_ | with_reducible refine kdrewN ?_ _ | with_reducible refine kother ?_ (by simp; try omega)))); have m0 : wn.cell? ⟨w5.heap.size, 0, none⟩ = some (.int .u64 (hi P)) := cell_later hbn (by (repeat (first | with_reducible assumption | (simp [go_sem]; done) | (simp [go_sem, *]; done) | with_reducible refine kdrew ?_ | (with_reducible refine ksame ?_; (simp [go_sem, *]; done)) | with_reducible refine kother ?_ (by simp; try omega) | with_reducible refine kalloc ?_ _))); have m1 : wn.cell? ⟨w5.heap.size, 1, none⟩ = some (.int .u64 (lo P)) := cell_later hbn (by (repeat (first | with_reducible assumption | (simp [go_sem]; done) | (simp [go_sem, *]; done) | with_reducible refine kdrew ?_ | (with_reducible refine ksame ?_; (simp [go_sem, *]; done)) | with_reducible refine kother ?_ (by simp; try omega) | with_reducible refine kalloc ?_ _))); have za0 : w.heap.size < wn.heap.size := klt a0; have zq0 : w2.heap.size < wn.heap.size := klt q0; have zx0 : w4.heap.size < wn.heap.size := klt x0; have zg0 : w6.heap.size < wn.heap.size := klt g0; have zm0 : w5.heap.size < wn.heap.size := klt m0; replace hb := (show Below w.heap.size w _ from by (repeat (first | exact hb | apply Below.drew | apply below_drewN | refine Below.setCell ?_ (by have := hb.size; (try simp at this); (try simp); (try omega)) _ | refine Below.alloc ?_ (by have := hb.size; (try simp at this); (try simp); (try omega)) _))).trans (hbn.mono (by have := hb.size; (try simp at this); (try simp); (try omega))); obtain ⟨hcn, hfn⟩ := bcell hbn; (try (have hsr := Nat.lt_of_lt_of_le hsq hbn.size)); (try (have hsq := Nat.lt_of_lt_of_le hsy hbn.size)); have hsz := hbn.size; (try simp at hsz); (try (have hsy := Nat.lt_of_succ_le hsz)); clear hbn)))
        | fail
      all_goals (go_wp2_with fail; go_meet; exact ⟨rfl, by (repeat (first | with_reducible assumption | (simp [go_sem]; done) | (simp [go_sem, *]; done) | with_reducible refine kdrew ?_ | (with_reducible refine ksame ?_; (simp [go_sem, *]; done)) | with_reducible refine kother ?_ (by simp; try omega) | with_reducible refine kalloc ?_ _)), by (repeat (first | with_reducible assumption | (simp [go_sem]; done) | (simp [go_sem, *]; done) | with_reducible refine kdrew ?_ | (with_reducible refine ksame ?_; (simp [go_sem, *]; done)) | with_reducible refine kother ?_ (by simp; try omega) | with_reducible refine kalloc ?_ _)), by (repeat (first | with_reducible assumption | (simp [go_sem]; done) | (simp [go_sem, *]; done) | with_reducible refine kdrew ?_ | (with_reducible refine ksame ?_; (simp [go_sem, *]; done)) | with_reducible refine kother ?_ (by simp; try omega) | with_reducible refine kalloc ?_ _)), by (repeat (first | with_reducible assumption | (simp [go_sem]; done) | (simp [go_sem, *]; done) | with_reducible refine kdrew ?_ | (with_reducible refine ksame ?_; (simp [go_sem, *]; done)) | with_reducible refine kother ?_ (by simp; try omega) | with_reducible refine kalloc ?_ _)), by (repeat (first | with_reducible assumption | (simp [go_sem]; done) | (simp [go_sem, *]; done) | with_reducible refine kdrew ?_ | (with_reducible refine ksame ?_; (simp [go_sem, *]; done)) | with_reducible refine kother ?_ (by simp; try omega) | with_reducible refine kalloc ?_ _)), by (repeat (first | with_reducible assumption | (simp [go_sem]; done) | (simp [go_sem, *]; done) | with_reducible refine kdrew ?_ | (with_reducible refine ksame ?_; (simp [go_sem, *]; done)) | with_reducible refine kother ?_ (by simp; try omega) | with_reducible refine kalloc ?_ _)), by (repeat (first | with_reducible assumption | (simp [go_sem]; done) | (simp [go_sem, *]; done) | with_reducible refine kdrew ?_ | (with_reducible refine ksame ?_; (simp [go_sem, *]; done)) | with_reducible refine kother ?_ (by simp; try omega) | with_reducible refine kalloc ?_ _)), by (repeat (first | with_reducible assumption | (simp [go_sem]; done) | (simp [go_sem, *]; done) | with_reducible refine kdrew ?_ | (with_reducible refine ksame ?_; (simp [go_sem, *]; done)) | with_reducible refine kother ?_ (by simp; try omega) | with_reducible refine kalloc ?_ _)), by (repeat (first | with_reducible assumption | (simp [go_sem]; done) | (simp [go_sem, *]; done) | with_reducible refine kdrew ?_ | (with_reducible refine ksame ?_; (simp [go_sem, *]; done)) | with_reducible refine kother ?_ (by simp; try omega) | with_reducible refine kalloc ?_ _)), by (repeat (first | with_reducible assumption | (simp [go_sem]; done) | (simp [go_sem, *]; done) | with_reducible refine kdrew ?_ | (with_reducible refine ksame ?_; (simp [go_sem, *]; done)) | with_reducible refine kother ?_ (by simp; try omega) | with_reducible refine kalloc ?_ _)), by first | with_reducible assumption | (simp [go_sem, *]; done), by first | with_reducible assumption | (simp [go_sem, *]; done), (by (repeat (first | exact hb | apply Below.drew | apply below_drewN | refine Below.setCell ?_ (by have := hb.size; (try simp at this); (try simp); (try omega)) _ | refine Below.alloc ?_ (by have := hb.size; (try simp at this); (try simp); (try omega)) _)))⟩)
    case rest =>
      clear hb
      obtain ⟨rfl, a0, a1, q0, q1, x0, x1, g0, g1, v0, v1, f0, f1, hb⟩ := hcut
      have za0 : w.heap.size < wc.heap.size := klt a0
      have zq0 : w2.heap.size < wc.heap.size := klt q0
      have zx0 : w4.heap.size < wc.heap.size := klt x0
      have zg0 : w6.heap.size < wc.heap.size := klt g0
      have zv0 : w5.heap.size < wc.heap.size := klt v0
      go_wp2
      go_ret
      exact ⟨rfl, hb⟩
set_option maxRecDepth 1000000 in
set_option maxHeartbeats 8000000 in
theorem walk_zero (h l d : Int) (w : World) (h0 : 0 ≤ h) (h1 : h ≤ 18446744073709551615) (l0 : 0 ≤ l) (l1 : l ≤ 18446744073709551615) (d0 : 0 ≤ d) (d1 : d ≤ 18446744073709551615) (hd : d = 0) :
    Calls Try.prog 5 #[.agg #[.int .u64 h, .int .u64 l], .int .u64 d] w fun e w' => e = .returned (.bool true) ∧ Below w.heap.size w w' := by
  have hb := Below.refl w.heap.size w
  have hz : (d == 0) = true := by simpa using hd
  have HD := Lib.hid hd; clear hd
  go_enter Try.func5, Try.ntmps5
  go_wp2_with fail
  refine (awakea _).mono ?_
  rintro e w1 ⟨rfl, hb1⟩
  have a0 : w1.cell? ⟨w.heap.size, 0, none⟩ = some (.int .u64 h) := cell_later hb1 (by (repeat (first | with_reducible assumption | (simp [go_sem]; done) | (simp [go_sem, *]; done) | with_reducible refine kdrew ?_ | (with_reducible refine ksame ?_; (simp [go_sem, *]; done)) | with_reducible refine kother ?_ (by simp; try omega) | with_reducible refine kalloc ?_ _)))
  have a1 : w1.cell? ⟨w.heap.size, 1, none⟩ = some (.int .u64 l) := cell_later hb1 (by (repeat (first | with_reducible assumption | (simp [go_sem]; done) | (simp [go_sem, *]; done) | with_reducible refine kdrew ?_ | (with_reducible refine ksame ?_; (simp [go_sem, *]; done)) | with_reducible refine kother ?_ (by simp; try omega) | with_reducible refine kalloc ?_ _)))
  have za0 : w.heap.size < w1.heap.size := klt a0
  replace hb := (show Below w.heap.size w _ from by (repeat (first | exact hb | apply Below.drew | apply below_drewN | refine Below.setCell ?_ (by have := hb.size; (try simp at this); (try simp); (try omega)) _ | refine Below.alloc ?_ (by have := hb.size; (try simp at this); (try simp); (try omega)) _))).trans (hb1.mono (by have := hb.size; (try simp at this); (try simp); (try omega)))
  clear hb1
  go_wp2_with fail
  refine (wdiv_z _ _ d _ HD.out).mono ?_
  rintro e w2 ⟨rfl, hb2⟩
  replace a0 : w2.cell? ⟨w.heap.size, 0, none⟩ = some (.int .u64 h) := cell_later hb2 (by (repeat (first | with_reducible exact a0 | with_reducible refine kalloc ?_ _ | with_reducible refine kdrew ?_ | with_reducible refine kdrewN ?_ _ | with_reducible refine kother ?_ (by simp; try omega))))
  replace a1 : w2.cell? ⟨w.heap.size, 1, none⟩ = some (.int .u64 l) := cell_later hb2 (by (repeat (first | with_reducible exact a1 | with_reducible refine kalloc ?_ _ | with_reducible refine kdrew ?_ | with_reducible refine kdrewN ?_ _ | with_reducible refine kother ?_ (by simp; try omega))))
  have za0 : w.heap.size < w2.heap.size := klt a0
  replace hb := (show Below w.heap.size w _ from by (repeat (first | exact hb | apply Below.drew | apply below_drewN | refine Below.setCell ?_ (by have := hb.size; (try simp at this); (try simp); (try omega)) _ | refine Below.alloc ?_ (by have := hb.size; (try simp at this); (try simp); (try omega)) _))).trans (hb2.mono (by have := hb.size; (try simp at this); (try simp); (try omega)))
  clear hb2
  go_wp2_with fail
  refine (own_any _ _ _).mono ?_
  rintro e w3 ⟨rfl, hb3⟩
  replace a0 : w3.cell? ⟨w.heap.size, 0, none⟩ = some (.int .u64 h) := cell_later hb3 (by (repeat (first | with_reducible exact a0 | with_reducible refine kalloc ?_ _ | with_reducible refine kdrew ?_ | with_reducible refine kdrewN ?_ _ | with_reducible refine kother ?_ (by simp; try omega))))
  replace a1 : w3.cell? ⟨w.heap.size, 1, none⟩ = some (.int .u64 l) := cell_later hb3 (by (repeat (first | with_reducible exact a1 | with_reducible refine kalloc ?_ _ | with_reducible refine kdrew ?_ | with_reducible refine kdrewN ?_ _ | with_reducible refine kother ?_ (by simp; try omega))))
  have q0 : w3.cell? ⟨w2.heap.size, 0, none⟩ = some (.int .u64 (0)) := cell_later hb3 (by (repeat (first | with_reducible assumption | (simp [go_sem]; done) | (simp [go_sem, *]; done) | with_reducible refine kdrew ?_ | (with_reducible refine ksame ?_; (simp [go_sem, *]; done)) | with_reducible refine kother ?_ (by simp; try omega) | with_reducible refine kalloc ?_ _)))
  have q1 : w3.cell? ⟨w2.heap.size, 1, none⟩ = some (.int .u64 (0)) := cell_later hb3 (by (repeat (first | with_reducible assumption | (simp [go_sem]; done) | (simp [go_sem, *]; done) | with_reducible refine kdrew ?_ | (with_reducible refine ksame ?_; (simp [go_sem, *]; done)) | with_reducible refine kother ?_ (by simp; try omega) | with_reducible refine kalloc ?_ _)))
  have za0 : w.heap.size < w3.heap.size := klt a0
  have zq0 : w2.heap.size < w3.heap.size := klt q0
  replace hb := (show Below w.heap.size w _ from by (repeat (first | exact hb | apply Below.drew | apply below_drewN | refine Below.setCell ?_ (by have := hb.size; (try simp at this); (try simp); (try omega)) _ | refine Below.alloc ?_ (by have := hb.size; (try simp at this); (try simp); (try omega)) _))).trans (hb3.mono (by have := hb.size; (try simp at this); (try simp); (try omega)))
  clear hb3
  go_wp2_with fail
  refine (rdiv_z _ _ d _ HD.out).mono ?_
  rintro e w4 ⟨rfl, hb4⟩
  replace a0 : w4.cell? ⟨w.heap.size, 0, none⟩ = some (.int .u64 h) := cell_later hb4 (by (repeat (first | with_reducible exact a0 | with_reducible refine kalloc ?_ _ | with_reducible refine kdrew ?_ | with_reducible refine kdrewN ?_ _ | with_reducible refine kother ?_ (by simp; try omega))))
  replace a1 : w4.cell? ⟨w.heap.size, 1, none⟩ = some (.int .u64 l) := cell_later hb4 (by (repeat (first | with_reducible exact a1 | with_reducible refine kalloc ?_ _ | with_reducible refine kdrew ?_ | with_reducible refine kdrewN ?_ _ | with_reducible refine kother ?_ (by simp; try omega))))
  replace q0 : w4.cell? ⟨w2.heap.size, 0, none⟩ = some (.int .u64 (0)) := cell_later hb4 (by (repeat (first | with_reducible exact q0 | with_reducible refine kalloc ?_ _ | with_reducible refine kdrew ?_ | with_reducible refine kdrewN ?_ _ | with_reducible refine kother ?_ (by simp; try omega))))
  replace q1 : w4.cell? ⟨w2.heap.size, 1, none⟩ = some (.int .u64 (0)) := cell_later hb4 (by (repeat (first | with_reducible exact q1 | with_reducible refine kalloc ?_ _ | with_reducible refine kdrew ?_ | with_reducible refine kdrewN ?_ _ | with_reducible refine kother ?_ (by simp; try omega))))
  have za0 : w.heap.size < w4.heap.size := klt a0
  have zq0 : w2.heap.size < w4.heap.size := klt q0
  replace hb := (show Below w.heap.size w _ from by (repeat (first | exact hb | apply Below.drew | apply below_drewN | refine Below.setCell ?_ (by have := hb.size; (try simp at this); (try simp); (try omega)) _ | refine Below.alloc ?_ (by have := hb.size; (try simp at this); (try simp); (try omega)) _))).trans (hb4.mono (by have := hb.size; (try simp at this); (try simp); (try omega)))
  clear hb4
  go_upto_region 5 with fail
  go_cut [36] (fun s36 wx => s36 = .bool false ∧ wx.cell? ⟨w.heap.size, 0, none⟩ = some (.int .u64 h) ∧ wx.cell? ⟨w.heap.size, 1, none⟩ = some (.int .u64 l) ∧ wx.cell? ⟨w2.heap.size, 0, none⟩ = some (.int .u64 (0)) ∧ wx.cell? ⟨w2.heap.size, 1, none⟩ = some (.int .u64 (0)) ∧ wx.cell? ⟨w4.heap.size, 0, none⟩ = some (.int .u64 (0)) ∧ wx.cell? ⟨w4.heap.size, 1, none⟩ = some (.int .u64 (0)) ∧ Below w.heap.size w wx)
  case first =>
    go_region_held3 (fun w' => w'.cell? ⟨w.heap.size, 0, none⟩ = some (.int .u64 h) ∧ w'.cell? ⟨w.heap.size, 1, none⟩ = some (.int .u64 l) ∧ w'.cell? ⟨w2.heap.size, 0, none⟩ = some (.int .u64 (0)) ∧ w'.cell? ⟨w2.heap.size, 1, none⟩ = some (.int .u64 (0)) ∧ w'.cell? ⟨w4.heap.size, 0, none⟩ = some (.int .u64 (0)) ∧ w'.cell? ⟨w4.heap.size, 1, none⟩ = some (.int .u64 (0))) (refine ⟨?_, ?_, ?_, ?_, ?_, ?_⟩ <;> (repeat (first | with_reducible assumption | (simp [go_sem]; done) | (simp [go_sem, *]; done) | with_reducible refine kdrew ?_ | (with_reducible refine ksame ?_; (simp [go_sem, *]; done)) | with_reducible refine kother ?_ (by simp; try omega) | with_reducible refine kalloc ?_ _)))
      ((rw [if_pos (by rfl)]; refine wp_enter (by go_simp; exact ⟨rfl, rfl⟩) ?_; (first
        | (go_at_call 20; refine (own_any _ _ _).mono ?_; rintro e wn ⟨rfl, hbn⟩; replace a0 : wn.cell? ⟨w.heap.size, 0, none⟩ = some (.int .u64 h) := cell_later hbn (by (repeat (first | with_reducible exact a0 | with_reducible refine kalloc ?_ _ | with_reducible refine kdrew ?_ | with_reducible refine kdrewN ?_ _ | with_reducible refine kother ?_ (by simp; try omega)))); replace a1 : wn.cell? ⟨w.heap.size, 1, none⟩ = some (.int .u64 l) := cell_later hbn (by (repeat (first | with_reducible exact a1 | with_reducible refine kalloc ?_ _ | with_reducible refine kdrew ?_ | with_reducible refine kdrewN ?_ _ | with_reducible refine kother ?_ (by simp; try omega)))); replace q0 : wn.cell? ⟨w2.heap.size, 0, none⟩ = some (.int .u64 (0)) := cell_later hbn (by (repeat (first | with_reducible exact q0 | with_reducible refine kalloc ?_ _ | with_reducible refine kdrew ?_ | with_reducible refine kdrewN ?_ _ | with_reducible refine kother ?_ (by simp; try omega)))); replace q1 : wn.cell? ⟨w2.heap.size, 1, none⟩ = some (.int .u64 (0)) := cell_later hbn (by (repeat (first | with_reducible exact q1 | with_reducible refine kalloc ?_ _ | with_reducible refine kdrew ?_ | with_reducible refine kdrewN ?_ _ | with_reducible refine kother ?_ (by simp; try omega)))); have x0 : wn.cell? ⟨w4.heap.size, 0, none⟩ = some (.int .u64 (0)) := cell_later hbn (by (repeat (first | with_reducible assumption | (simp [go_sem]; done) | (simp [go_sem, *]; done) | with_reducible refine kdrew ?_ | (with_reducible refine ksame ?_; (simp [go_sem, *]; done)) | with_reducible refine kother ?_ (by simp; try omega) | with_reducible refine kalloc ?_ _))); have x1 : wn.cell? ⟨w4.heap.size, 1, none⟩ = some (.int .u64 (0)) := cell_later hbn (by (repeat (first | with_reducible assumption | (simp [go_sem]; done) | (simp [go_sem, *]; done) | with_reducible refine kdrew ?_ | (with_reducible refine ksame ?_; (simp [go_sem, *]; done)) | with_reducible refine kother ?_ (by simp; try omega) | with_reducible refine kalloc ?_ _))); have za0 : w.heap.size < wn.heap.size := klt a0; have zq0 : w2.heap.size < wn.heap.size := klt q0; have zx0 : w4.heap.size < wn.heap.size := klt x0; replace hb := (show Below w.heap.size w _ from by (repeat (first | exact hb | apply Below.drew | apply below_drewN | refine Below.setCell ?_ (by have := hb.size; (try simp at this); (try simp); (try omega)) _ | refine Below.alloc ?_ (by have := hb.size; (try simp at this); (try simp); (try omega)) _))).trans (hbn.mono (by have := hb.size; (try simp at this); (try simp); (try omega))); obtain ⟨hcn, hfn⟩ := bcell hbn; (try (have hsr := Nat.lt_of_lt_of_le hsq hbn.size)); (try (have hsq := Nat.lt_of_lt_of_le hsy hbn.size)); have hsz := hbn.size; (try simp at hsz); (try (have hsy := Nat.lt_of_succ_le hsz)); clear hbn; refine ⟨_, rfl, ?_⟩))))
    all_goals (go_wp2_with fail; go_meet; exact ⟨rfl, by (repeat (first | with_reducible assumption | (simp [go_sem]; done) | (simp [go_sem, *]; done) | with_reducible refine kdrew ?_ | (with_reducible refine ksame ?_; (simp [go_sem, *]; done)) | with_reducible refine kother ?_ (by simp; try omega) | with_reducible refine kalloc ?_ _)), by (repeat (first | with_reducible assumption | (simp [go_sem]; done) | (simp [go_sem, *]; done) | with_reducible refine kdrew ?_ | (with_reducible refine ksame ?_; (simp [go_sem, *]; done)) | with_reducible refine kother ?_ (by simp; try omega) | with_reducible refine kalloc ?_ _)), by (repeat (first | with_reducible assumption | (simp [go_sem]; done) | (simp [go_sem, *]; done) | with_reducible refine kdrew ?_ | (with_reducible refine ksame ?_; (simp [go_sem, *]; done)) | with_reducible refine kother ?_ (by simp; try omega) | with_reducible refine kalloc ?_ _)), by (repeat (first | with_reducible assumption | (simp [go_sem]; done) | (simp [go_sem, *]; done) | with_reducible refine kdrew ?_ | (with_reducible refine ksame ?_; (simp [go_sem, *]; done)) | with_reducible refine kother ?_ (by simp; try omega) | with_reducible refine kalloc ?_ _)), by (repeat (first | with_reducible assumption | (simp [go_sem]; done) | (simp [go_sem, *]; done) | with_reducible refine kdrew ?_ | (with_reducible refine ksame ?_; (simp [go_sem, *]; done)) | with_reducible refine kother ?_ (by simp; try omega) | with_reducible refine kalloc ?_ _)), by (repeat (first | with_reducible assumption | (simp [go_sem]; done) | (simp [go_sem, *]; done) | with_reducible refine kdrew ?_ | (with_reducible refine ksame ?_; (simp [go_sem, *]; done)) | with_reducible refine kother ?_ (by simp; try omega) | with_reducible refine kalloc ?_ _)), (by (repeat (first | exact hb | apply Below.drew | apply below_drewN | refine Below.setCell ?_ (by have := hb.size; (try simp at this); (try simp); (try omega)) _ | refine Below.alloc ?_ (by have := hb.size; (try simp at this); (try simp); (try omega)) _)))⟩)
  case rest =>
    clear hb
    obtain ⟨rfl, a0, a1, q0, q1, x0, x1, hb⟩ := hcut
    have za0 : w.heap.size < wc.heap.size := klt a0
    have zq0 : w2.heap.size < wc.heap.size := klt q0
    have zx0 : w4.heap.size < wc.heap.size := klt x0
    go_wp2
    go_ret
    exact ⟨rfl, hb⟩
theorem walk (h l d : Int) (w : World) (h0 : 0 ≤ h) (h1 : h ≤ 18446744073709551615) (l0 : 0 ≤ l) (l1 : l ≤ 18446744073709551615) (d0 : 0 ≤ d) (d1 : d ≤ 18446744073709551615) :
    Calls Try.prog 5 #[.agg #[.int .u64 h, .int .u64 l], .int .u64 d] w fun e w' => e = .returned (.bool true) ∧ Below w.heap.size w w' := by
  by_cases hd : d = 0
  · exact walk_zero h l d w h0 h1 l0 l1 d0 d1 hd
  · exact walk_pos h l d w h0 h1 l0 l1 d0 d1 hd
theorem cnum : Try.prog.cellsOf 24 = 2 := by kernel_rfl
theorem numReads {H : Type} {enc : TypeId × Value → H} (a b : Int) (wa : (Lit.int .u64 a).wf = true) (wb : (Lit.int .u64 b).wf = true) (W : World) (sp : Nat → Bool) : DataW.Trod enc Try.prog W 0 sp true 24 (.agg #[.int .u64 a, .int .u64 b]) (.agg [.lit (.int .u64 a), .lit (.int .u64 b)]) [] :=
  Joins.shut_agg2 (y0 := (.lit (.int .u64 a), [])) (y1 := (.lit (.int .u64 b), [])) Try.underlying24 (by kernel_rfl) cnum ⟨1, by simp [DataW.trod, Try.underlying22, wa]⟩ ⟨1, by simp [DataW.trod, Try.underlying22, wb]⟩
set_option maxRecDepth 100000 in
theorem lifted (os : Os) (started : os.Started) (H : Type) (enc : TypeId × Value → H) :
    ReturnsInHanded {} Try.checked os 5 .any (Rows.wideDivsSpec.pre6 enc Try.prog Try.f5 Rows.wideDivsRow.domain false) (Rows.wideDivsSpec.post enc Try.prog Try.f5 false true false false) := by
  refine returnsInHanded_of_change (C := Try.checked) own started (by kernel_rfl) Try.func5
    (ChangeSpec.witness6 (enc := enc) (C := Try.checked) false ⟨#[], #[.agg #[.int .u64 0, .int .u64 0], .int .u64 0], []⟩ 8 (by kernel_rfl) (by kernel_rfl) (by kernel_rfl) (by kernel_rfl)) ?_
  intro W base args ds gs before hval0 hW hcnd _
  have hval : ∀ (j : Nat) t v, Try.f5.params[j]? = some t → args[j]? = some v → Value.okWide Try.prog W .any base t v := hval0
  have hW' := hW
  obtain ⟨p, q, hA0, hV, rfl, hfz, hnd⟩ := hW
  have hA : DataW.TrodAll enc Try.prog W 0 (fun _ => true) true Try.f5.params.toList args.toList ds p := hA0
  rw [Try.params5] at hA hval
  obtain ⟨v0, vs0, d0, ds0, p0, q0, hargs, rfl, rfl, h0, r0⟩ := trodAll_cons hA
  obtain ⟨v1, vs1, d1, ds1, p1, q1, rfl, rfl, rfl, h1, r1⟩ := trodAll_cons r0
  obtain ⟨rfl, rfl, rfl⟩ := trodAll_nil r1
  obtain rfl : args = #[v0, v1] := by cases args; simp_all
  obtain ⟨rfl, rfl⟩ := trodVars_none hV
  obtain ⟨x0, z0, y0, u0, n0, rfl, rfl, rfl, e0, g0⟩ := Joins.open_agg2 Try.underlying24 (by kernel_rfl) cnum (hval 0 _ v0 rfl rfl) h0
  obtain ⟨a0, ea0, rfl, wa0⟩ := DataW.trod_int Try.underlying22 e0
  obtain ⟨b0, eb0, rfl, wb0⟩ := DataW.trod_int Try.underlying22 g0
  simp at ea0 eb0
  subst ea0 eb0
  obtain ⟨a1, rfl, rfl, rfl, w1⟩ := open_int Try.underlying22 (hval 1 _ v1 rfl rfl) h1
  clear hA0 hval0
  simp only [List.append_nil] at hW'
  obtain ⟨la0, ma0⟩ := wf_u64 wa0
  obtain ⟨lb0, mb0⟩ := wf_u64 wb0
  obtain ⟨l1, m1⟩ := wf_u64 w1
  refine (walk a0 b0 a1 W la0 ma0 lb0 mb0 l1 m1).mono fun e W' ⟨he, hg⟩ => ?_
  subst he
  exact ⟨_, rfl, post_of_under (pa := []) (pv := []) hW' (fun _ _ _ => (trodAll_cons_mk (shut_bool Try.underlying4 _) trodAll_mk0)) (fun sp _ => (trodAll_cons_mk (numReads a0 b0 wa0 wb0 _ sp) (trodAll_cons_mk (shut_int Try.underlying22 w1) trodAll_mk0))) (fun _ _ => rfl) rfl
    hg (ok_one (by kernel_rfl) rfl (okWide_bool_mk Try.underlying4 _))⟩
theorem over : Rows.wideDivsRow.holds Try.pinned (OpenSpec.ofChange Rows.wideDivsSpec) :=
  OpenClaim.holds_of_wide 5 Try.f5 rfl rfl rfl rfl rfl rfl rfl ⟨rfl, rfl, rfl, rfl, rfl⟩ rfl rfl rfl rfl rfl (by kernel_rfl) Try.func5 (by kernel_rfl)
    (of_decide_eq_true (by kernel_rfl)) (by unfold Func.isWrapper; first | (rw [if_pos (by decide +kernel)]; kernel_rfl) | (rw [if_neg (by decide +kernel)]; exact ⟨rfl, rfl⟩))
    (fun os started H enc _ => lifted os started H enc)
theorem proved : Rows.WideDivsSaid := over
end Go.Proofs.Ytapmnlalnmlcoaa.wideDivs
