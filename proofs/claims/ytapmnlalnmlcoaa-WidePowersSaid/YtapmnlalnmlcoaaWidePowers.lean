/- WidePowers is true of every number of 128 bits and every k of 8, and changes nothing that it was given. -/
import Derived.Test.YtapmnlalnmlcoaaAwakea
import Derived.Test.YtapmnlalnmlcoaaRefo
import Derived.Test.YtapmnlalnmlcoaaWideb
import Derived.Test.YtapmnlalnmlcoaaHelp
import Derived.Test.YtapmnlalnmlcoaaHelpb
import Derived.Test.YtapmnlalnmlcoaaHelpc
import Derived.Test.YtapmnlalnmlcoaaHelpd
import Derived.Test.YtapmnlalnmlcoaaOwnn
import Derived.Test.YtapmnlalnmlcoaaRow
import Derived.Test.YtapmnlalnmlcoaaRows
import Derived.WalkKit
import Derived.ProofKit
import Derived.OpenShut
import Derived.Deep.DeepCutAuto
import Derived.IntWalk
import Derived.Lib.SmallJoins
namespace Go.Proofs.Ytapmnlalnmlcoaa.widePowers
open Go.ChangeShapes Go.WideShapes Go.ChangeAt Go.RowKit Kn
set_option linter.unusedVariables false
theorem own : ownKnob Try.prog.godebug = none := by kernel_rfl
theorem pow_le (a b : Nat) (h : a ≤ b) : (2 : Int) ^ a ≤ 2 ^ b := pow2_mono a b h
theorem right_left (N : Int) (b j : Nat) (n0 : 0 ≤ N) (hb : N < 2 ^ b) (h : b + j ≤ 128) : rightN (leftN N j) j = N := by
  have p : (0 : Int) < 2 ^ j := Int.pow_pos (by decide)
  have q := pow_le (b + j) 128 h
  rw [Int.pow_add, show (2 : Int) ^ 128 = 340282366920938463463374607431768211456 from rfl] at q
  have r := Int.mul_lt_mul_of_pos_right hb p
  have s := Int.mul_nonneg n0 (Int.le_of_lt p)
  unfold rightN leftN
  rw [Int.emod_eq_of_lt s (by omega), Int.mul_ediv_cancel _ (by omega)]
theorem left_small (Q : Int) (j : Nat) (h0 : 0 ≤ Q) (h : Q * 2 ^ j < 340282366920938463463374607431768211456) : leftN Q j = Q * 2 ^ j := by
  unfold leftN; exact Int.emod_eq_of_lt (Int.mul_nonneg h0 (Int.le_of_lt (Int.pow_pos (by decide)))) h
theorem left_left (N : Int) (j : Nat) : leftN (leftN N j) j = leftN N (j + j) := by
  unfold leftN
  rw [Int.mul_emod, Int.emod_emod, ← Int.mul_emod, Int.mul_assoc, ← Int.pow_add]
theorem right_right (N : Int) (j : Nat) : rightN (rightN N j) j = rightN N (j + j) := by
  unfold rightN
  rw [Int.ediv_ediv_of_nonneg (Int.le_of_lt (Int.pow_pos (by decide))), ← Int.pow_add]
set_option maxRecDepth 1000000 in
set_option maxHeartbeats 32000000 in
theorem walk (h l k : Int) (w : World) (h0 : 0 ≤ h) (h1 : h ≤ 18446744073709551615) (l0 : 0 ≤ l) (l1 : l ≤ 18446744073709551615) (k0 : 0 ≤ k) (k1 : k ≤ 255) :
    Calls Try.prog 10 #[.agg #[.int .u64 h, .int .u64 l], .int .u8 k] w fun e w' => e = .returned (.bool true) ∧ Below w.heap.size w w' := by
  have hb := Below.refl w.heap.size w
  have N0 := num0 h l h0 l0
  have N1 := num1 h l h1 l1
  have hN : num h l < 2 ^ nb (num h l) 128 := by
    have sp := (nb_spec (num h l) 128).1
    rw [show (2 : Int) ^ 128 = 340282366920938463463374607431768211456 from rfl, Int.emod_eq_of_lt N0 N1] at sp
    exact sp
  have hbt := nb_bits h l h0 h1 l0 l1
  obtain ⟨j, hj⟩ : ∃ j, k % 64 = j := ⟨_, rfl⟩
  have j0 : 0 ≤ j := by omega
  have j1 : j ≤ 63 := by omega
  obtain ⟨p, hp⟩ : ∃ p, (2 : Int) ^ j.toNat = p := ⟨_, rfl⟩
  have p0 : 0 < p := by rw [← hp]; exact Int.pow_pos (by decide)
  have p1 : p ≤ 9223372036854775808 := by rw [← hp]; exact pow_le j.toNat 63 (by omega)
  obtain ⟨X, hX⟩ : ∃ X, bitsN h l = X := ⟨_, rfl⟩
  have X0 : 0 ≤ X := by rw [← hX, ← hbt]; omega
  have X1 : X ≤ 128 := by rw [← hX, ← hbt]; have := nb_le (num h l) 128; omega
  obtain ⟨T, hT⟩ : ∃ T, leftN (num h l) j.toNat = T := ⟨_, rfl⟩
  have T0 : 0 ≤ T := by rw [← hT]; unfold leftN; omega
  have T1 : T < 340282366920938463463374607431768211456 := by rw [← hT]; unfold leftN; omega
  obtain ⟨Q, hQ⟩ : ∃ Q, num h l / p = Q := ⟨_, rfl⟩
  obtain ⟨R, hR⟩ : ∃ R, num h l % p = R := ⟨_, rfl⟩
  have Q0 : 0 ≤ Q := by rw [← hQ]; exact Int.ediv_nonneg N0 (by omega)
  have Q1 : Q < 340282366920938463463374607431768211456 := by rw [← hQ]; have := Int.ediv_le_self p N0; omega
  have R0 : 0 ≤ R := by rw [← hR]; exact Int.emod_nonneg _ (by omega)
  have R1 : R < p := by rw [← hR]; exact Int.emod_lt_of_pos _ p0
  have eN : Q * p + R = num h l := by rw [← hQ, ← hR, Int.mul_comm]; exact Int.mul_ediv_add_emod _ _
  have hRt : rightN (num h l) j.toNat = Q := by rw [← hQ, ← hp]; rfl
  have V0 : 0 ≤ Q * p := Int.mul_nonneg Q0 (by omega)
  have hV : leftN Q j.toNat = Q * p := by rw [left_small Q _ Q0 (by rw [hp]; omega), hp]
  obtain ⟨V, hVV⟩ : ∃ V, Q * p = V := ⟨_, rfl⟩
  rw [hVV] at eN hV V0
  have V1 : V < 340282366920938463463374607431768211456 := by omega
  have M0 : 0 ≤ l * p := Int.mul_nonneg l0 (by omega)
  have M1 : l * p < 340282366920938463463374607431768211456 := by have := Int.mul_le_mul l1 p1 (by omega) (by omega); omega
  have hM : leftN (num 0 l) j.toNat = l * p := by
    have e : num 0 l = l := by unfold num; omega
    rw [e, left_small l _ l0 (by rw [hp]; exact M1), hp]
  obtain ⟨Y, hY⟩ : ∃ Y, leftN (num h l) (j.toNat + j.toNat) = Y := ⟨_, rfl⟩
  obtain ⟨Z, hZ⟩ : ∃ Z, rightN (num h l) (j.toNat + j.toNat) = Z := ⟨_, rfl⟩
  have hTY : leftN T j.toNat = Y := by rw [← hT, ← hY]; exact left_left _ _
  have hQZ : rightN Q j.toNat = Z := by rw [← hRt, ← hZ]; exact right_right _ _
  have t0 := hi0 _ T0
  have t1 := hi1 _ T1
  have t2 := lo0 T
  have t3 := lo1 T
  have y0 := hi0 _ Q0
  have y1 := hi1 _ Q1
  have y2 := lo0 Q
  have y3 := lo1 Q
  have z0 := hi0 _ V0
  have z1 := hi1 _ V1
  have z2 := lo0 V
  have z3 := lo1 V
  have eT := Lib.hid (num_hi_lo T)
  have eQ := Lib.hid (num_hi_lo Q)
  have eV := Lib.hid (num_hi_lo V)
  have eB := Lib.hid (show addN V (num 0 R) = num h l by unfold addN num; unfold num at eN N1; omega)
  have eh := Lib.hid (hi_num h l l0 l1)
  have el := Lib.hid (lo_num h l l0 l1)
  have jj : (2 * j).toNat = j.toNat + j.toNat := by omega
  have JJ := Lib.hid jj
  have R2 : R ≤ 18446744073709551615 := by omega
  have sh : IntKind.u64.wrap p = p := by rw [wrapu]; omega
  have SH := Lib.hid hp
  have sx : IntKind.i64.wrap (X + j) = X + j := IntWalk.i64_in _ ⟨by omega, by omega⟩
  have sy : IntKind.i64.wrap (2 * j) = 2 * j := IntWalk.i64_in _ ⟨by omega, by omega⟩
  have HX := Lib.hid hX; have HT := Lib.hid hT; have HQ := Lib.hid hQ; have HR := Lib.hid hR; have HRt := Lib.hid hRt; have HV := Lib.hid hV; have HM := Lib.hid hM; have HY := Lib.hid hY; have HZ := Lib.hid hZ; have HTY := Lib.hid hTY; have HQZ := Lib.hid hQZ
  have eRL0 := Lib.hid (show X + j ≤ 128 → rightN T j.toNat = num h l from fun hc => by rw [← hT]; exact right_left (num h l) (nb (num h l) 128) j.toNat N0 hN (by omega))
  clear hX hT hQ hR hRt hV hVV hM hY hZ hTY hQZ eN N0 N1 hN hbt T0 T1 Q0 Q1 V0 V1 M0 M1 jj
  go_enter Try.func10, Try.ntmps10
  go_wp2_with fail
  refine (awakea _).mono ?_
  rintro e w1 ⟨rfl, hb1⟩
  have a0 : w1.cell? ⟨w.heap.size, 0, none⟩ = some (.int .u64 h) := cell_later hb1 (by (repeat (first | with_reducible assumption | (simp [go_sem]; done) | (simp [go_sem, *]; done) | with_reducible refine kdrew ?_ | (with_reducible refine ksame ?_; (simp [go_sem, *]; done)) | with_reducible refine kother ?_ (by simp; try omega) | with_reducible refine kalloc ?_ _)))
  have a1 : w1.cell? ⟨w.heap.size, 1, none⟩ = some (.int .u64 l) := cell_later hb1 (by (repeat (first | with_reducible assumption | (simp [go_sem]; done) | (simp [go_sem, *]; done) | with_reducible refine kdrew ?_ | (with_reducible refine ksame ?_; (simp [go_sem, *]; done)) | with_reducible refine kother ?_ (by simp; try omega) | with_reducible refine kalloc ?_ _)))
  have za0 : w.heap.size < w1.heap.size := klt a0
  replace hb := (show Below w.heap.size w _ from by (repeat (first | exact hb | apply Below.drew | apply below_drewN | refine Below.setCell ?_ (by have := hb.size; (try simp at this); (try simp); (try omega)) _ | refine Below.alloc ?_ (by have := hb.size; (try simp at this); (try simp); (try omega)) _))).trans (hb1.mono (by have := hb.size; (try simp at this); (try simp); (try omega)))
  clear hb1
  go_upto_region 4 with fail
  go_cut [28] (fun s28 wx => s28 = .bool false ∧ wx.cell? ⟨w.heap.size, 0, none⟩ = some (.int .u64 h) ∧ wx.cell? ⟨w.heap.size, 1, none⟩ = some (.int .u64 l) ∧ Below w.heap.size w wx)
  case first =>
    by_cases hB : X + j ≤ 128
    · have eRL := Lib.hid (eRL0.out hB)
      go_region_held3 (fun w' => w'.cell? ⟨w.heap.size, 0, none⟩ = some (.int .u64 h) ∧ w'.cell? ⟨w.heap.size, 1, none⟩ = some (.int .u64 l)) (refine ⟨?_, ?_⟩ <;> (repeat (first | with_reducible assumption | (simp [go_sem]; done) | (simp [go_sem, *]; done) | with_reducible refine kdrew ?_ | (with_reducible refine ksame ?_; (simp [go_sem, *]; done)) | with_reducible refine kother ?_ (by simp; try omega) | with_reducible refine kalloc ?_ _)))
        ((rw [if_pos (by rfl)]; refine wp_enter (by go_simp; exact ⟨rfl, rfl⟩) ?_; (first
          | (go_at_call 33; refine (wbits_any _ _ _ h0 h1 l0 l1).mono ?_; rintro e wn ⟨rfl, hbn⟩; rw [HX.out]; replace a0 : wn.cell? ⟨w.heap.size, 0, none⟩ = some (.int .u64 h) := cell_later hbn (by (repeat (first | with_reducible exact a0 | with_reducible refine kalloc ?_ _ | with_reducible refine kdrew ?_ | with_reducible refine kdrewN ?_ _ | with_reducible refine kother ?_ (by simp; try omega)))); replace a1 : wn.cell? ⟨w.heap.size, 1, none⟩ = some (.int .u64 l) := cell_later hbn (by (repeat (first | with_reducible exact a1 | with_reducible refine kalloc ?_ _ | with_reducible refine kdrew ?_ | with_reducible refine kdrewN ?_ _ | with_reducible refine kother ?_ (by simp; try omega)))); have za0 : w.heap.size < wn.heap.size := klt a0; replace hb := (show Below w.heap.size w _ from by (repeat (first | exact hb | apply Below.drew | apply below_drewN | refine Below.setCell ?_ (by have := hb.size; (try simp at this); (try simp); (try omega)) _ | refine Below.alloc ?_ (by have := hb.size; (try simp at this); (try simp); (try omega)) _))).trans (hbn.mono (by have := hb.size; (try simp at this); (try simp); (try omega))); obtain ⟨hcn, hfn⟩ := bcell hbn; (try (have hsr := Nat.lt_of_lt_of_le hsq hbn.size)); (try (have hsq := Nat.lt_of_lt_of_le hsy hbn.size)); have hsz := hbn.size; (try simp at hsz); (try (have hsy := Nat.lt_of_succ_le hsz)); clear hbn; refine ⟨_, rfl, ?_⟩)
          | (go_at_call 27; refine (wleft_any _ _ _ _ h0 h1 l0 l1 (by omega)).mono ?_; rintro e wn ⟨rfl, hbn⟩; rw [HT.out]; replace a0 : wn.cell? ⟨w.heap.size, 0, none⟩ = some (.int .u64 h) := cell_later hbn (by (repeat (first | with_reducible exact a0 | with_reducible refine kalloc ?_ _ | with_reducible refine kdrew ?_ | with_reducible refine kdrewN ?_ _ | with_reducible refine kother ?_ (by simp; try omega)))); replace a1 : wn.cell? ⟨w.heap.size, 1, none⟩ = some (.int .u64 l) := cell_later hbn (by (repeat (first | with_reducible exact a1 | with_reducible refine kalloc ?_ _ | with_reducible refine kdrew ?_ | with_reducible refine kdrewN ?_ _ | with_reducible refine kother ?_ (by simp; try omega)))); have za0 : w.heap.size < wn.heap.size := klt a0; replace hb := (show Below w.heap.size w _ from by (repeat (first | exact hb | apply Below.drew | apply below_drewN | refine Below.setCell ?_ (by have := hb.size; (try simp at this); (try simp); (try omega)) _ | refine Below.alloc ?_ (by have := hb.size; (try simp at this); (try simp); (try omega)) _))).trans (hbn.mono (by have := hb.size; (try simp at this); (try simp); (try omega))); obtain ⟨hcn, hfn⟩ := bcell hbn; (try (have hsr := Nat.lt_of_lt_of_le hsq hbn.size)); (try (have hsq := Nat.lt_of_lt_of_le hsy hbn.size)); have hsz := hbn.size; (try simp at hsz); (try (have hsy := Nat.lt_of_succ_le hsz)); clear hbn; refine ⟨_, rfl, ?_⟩)
          | (go_at_call 29; refine (wright_any _ _ _ _ t0 t1 t2 t3 (by omega)).mono ?_; rintro e wn ⟨rfl, hbn⟩; rw [eT.out, eRL.out, eh.out, el.out]; replace a0 : wn.cell? ⟨w.heap.size, 0, none⟩ = some (.int .u64 h) := cell_later hbn (by (repeat (first | with_reducible exact a0 | with_reducible refine kalloc ?_ _ | with_reducible refine kdrew ?_ | with_reducible refine kdrewN ?_ _ | with_reducible refine kother ?_ (by simp; try omega)))); replace a1 : wn.cell? ⟨w.heap.size, 1, none⟩ = some (.int .u64 l) := cell_later hbn (by (repeat (first | with_reducible exact a1 | with_reducible refine kalloc ?_ _ | with_reducible refine kdrew ?_ | with_reducible refine kdrewN ?_ _ | with_reducible refine kother ?_ (by simp; try omega)))); have za0 : w.heap.size < wn.heap.size := klt a0; replace hb := (show Below w.heap.size w _ from by (repeat (first | exact hb | apply Below.drew | apply below_drewN | refine Below.setCell ?_ (by have := hb.size; (try simp at this); (try simp); (try omega)) _ | refine Below.alloc ?_ (by have := hb.size; (try simp at this); (try simp); (try omega)) _))).trans (hbn.mono (by have := hb.size; (try simp at this); (try simp); (try omega))); obtain ⟨hcn, hfn⟩ := bcell hbn; (try (have hsr := Nat.lt_of_lt_of_le hsq hbn.size)); (try (have hsq := Nat.lt_of_lt_of_le hsy hbn.size)); have hsz := hbn.size; (try simp at hsz); (try (have hsy := Nat.lt_of_succ_le hsz)); clear hbn; refine ⟨_, rfl, ?_⟩))))
      all_goals (go_wp2_with fail; go_meet; exact ⟨rfl, by (repeat (first | with_reducible assumption | (simp [go_sem]; done) | (simp [go_sem, *]; done) | with_reducible refine kdrew ?_ | (with_reducible refine ksame ?_; (simp [go_sem, *]; done)) | with_reducible refine kother ?_ (by simp; try omega) | with_reducible refine kalloc ?_ _)), by (repeat (first | with_reducible assumption | (simp [go_sem]; done) | (simp [go_sem, *]; done) | with_reducible refine kdrew ?_ | (with_reducible refine ksame ?_; (simp [go_sem, *]; done)) | with_reducible refine kother ?_ (by simp; try omega) | with_reducible refine kalloc ?_ _)), (by (repeat (first | exact hb | apply Below.drew | apply below_drewN | refine Below.setCell ?_ (by have := hb.size; (try simp at this); (try simp); (try omega)) _ | refine Below.alloc ?_ (by have := hb.size; (try simp at this); (try simp); (try omega)) _)))⟩)
    · have hD : decide (X + j ≤ 128) = false := decide_eq_false hB
      refine wp_region_noPanic ?_
      refine wp_region_held_drew (S := fun w' => w'.cell? ⟨w.heap.size, 0, none⟩ = some (.int .u64 h) ∧ w'.cell? ⟨w.heap.size, 1, none⟩ = some (.int .u64 l)) (by kernel_rfl) (by refine ⟨?_, ?_⟩ <;> (repeat (first | with_reducible assumption | (simp [go_sem]; done) | (simp [go_sem, *]; done) | with_reducible refine kdrew ?_ | (with_reducible refine ksame ?_; (simp [go_sem, *]; done)) | with_reducible refine kother ?_ (by simp; try omega) | with_reducible refine kalloc ?_ _))) (fun hHeld => ?_)
      refine wpAnyH_take (i := 0) (v := ?_) rfl (by kernel_rfl) (by kernel_rfl) (by kernel_rfl) (fun _ _ _ h => h) (Or.inl ⟨by rfl, ?_⟩) (by assumption) ?_
      rotate_left
      · (intro wS hSw; (try dsimp only at hSw); (first | (go_simp; done) | (go_simp; with_reducible rfl)))
      try simp only [Act.put, List.getElem_toArray, List.getElem_cons_zero, List.getElem_cons_succ, List.setIfInBounds_toArray, List.set_cons_zero, List.set_cons_succ]
      refine wpAnyH_take (i := 2) (v := ?_) rfl (by kernel_rfl) (by kernel_rfl) (by kernel_rfl) (fun _ _ _ h => h) (Or.inl ⟨by rfl, ?_⟩) (by assumption) ?_
      rotate_left
      · (intro wS hSw; (try dsimp only at hSw); (first | (go_simp; done) | (go_simp; with_reducible rfl)))
      try simp only [Act.put, List.getElem_toArray, List.getElem_cons_zero, List.getElem_cons_succ, List.setIfInBounds_toArray, List.set_cons_zero, List.set_cons_succ]
      refine wpAnyH_ready (rs := [1]) (by kernel_rfl) (by simp) ?_
      refine AllReadyH.cons rfl (fun K hK => ?_) AllReadyH.nil
      rw [if_pos (by rfl)]
      refine wp_enter (by go_simp; exact ⟨rfl, rfl⟩) ?_
      refine (wbits_any _ _ _ h0 h1 l0 l1).mono ?_
      rintro e wn ⟨rfl, hbn⟩
      rw [HX.out]
      replace a0 : wn.cell? ⟨w.heap.size, 0, none⟩ = some (.int .u64 h) := cell_later hbn (by (repeat (first | with_reducible exact a0 | with_reducible refine kalloc ?_ _ | with_reducible refine kdrew ?_ | with_reducible refine kdrewN ?_ _ | with_reducible refine kother ?_ (by simp; try omega))))
      replace a1 : wn.cell? ⟨w.heap.size, 1, none⟩ = some (.int .u64 l) := cell_later hbn (by (repeat (first | with_reducible exact a1 | with_reducible refine kalloc ?_ _ | with_reducible refine kdrew ?_ | with_reducible refine kdrewN ?_ _ | with_reducible refine kother ?_ (by simp; try omega))))
      have za0 : w.heap.size < wn.heap.size := klt a0
      replace hb := (show Below w.heap.size w _ from by (repeat (first | exact hb | apply Below.drew | apply below_drewN | refine Below.setCell ?_ (by have := hb.size; (try simp at this); (try simp); (try omega)) _ | refine Below.alloc ?_ (by have := hb.size; (try simp at this); (try simp); (try omega)) _))).trans (hbn.mono (by have := hb.size; (try simp at this); (try simp); (try omega)))
      clear hbn
      refine ⟨_, rfl, ?_⟩
      refine hK.out _ _ (by refine ⟨?_, ?_⟩ <;> (repeat (first | with_reducible assumption | (simp [go_sem]; done) | (simp [go_sem, *]; done) | with_reducible refine kdrew ?_ | (with_reducible refine ksame ?_; (simp [go_sem, *]; done)) | with_reducible refine kother ?_ (by simp; try omega) | with_reducible refine kalloc ?_ _))) (fun hHeld => ?_)
      clear hK K
      try simp only [Act.put, List.getElem_toArray, List.getElem_cons_zero, List.getElem_cons_succ, List.setIfInBounds_toArray, List.set_cons_zero, List.set_cons_succ]
      refine wpAnyH_take (i := 3) (v := ?_) rfl (by kernel_rfl) (by kernel_rfl) (by kernel_rfl) (fun _ _ _ h => h) (Or.inl ⟨by rfl, ?_⟩) (by assumption) ?_
      rotate_left
      · (intro wS hSw; (try dsimp only at hSw); (first | (go_simp; done) | (go_simp; with_reducible rfl)))
      try simp only [Act.put, List.getElem_toArray, List.getElem_cons_zero, List.getElem_cons_succ, List.setIfInBounds_toArray, List.set_cons_zero, List.set_cons_succ]
      refine wpAnyH_take (i := 4) (v := ?_) rfl (by kernel_rfl) (by kernel_rfl) (by kernel_rfl) (fun _ _ _ h => h) (Or.inl ⟨by rfl, ?_⟩) (by assumption) ?_
      rotate_left
      · (intro wS hSw; (try dsimp only at hSw); (first | (go_simp; done) | (go_simp; with_reducible rfl)))
      try simp only [Act.put, List.getElem_toArray, List.getElem_cons_zero, List.getElem_cons_succ, List.setIfInBounds_toArray, List.set_cons_zero, List.set_cons_succ]
      refine wpAnyH_take (i := 5) (v := ?_) rfl (by kernel_rfl) (by kernel_rfl) (by kernel_rfl) (fun _ _ _ h => h) (Or.inl ⟨by rfl, ?_⟩) (by assumption) ?_
      rotate_left
      · (intro wS hSw; (try dsimp only at hSw); (first | (go_simp; done) | (go_simp; with_reducible rfl)))
      try simp only [Act.put, List.getElem_toArray, List.getElem_cons_zero, List.getElem_cons_succ, List.setIfInBounds_toArray, List.set_cons_zero, List.set_cons_succ]
      refine wpAnyH_take (i := 6) (v := undef) rfl (by kernel_rfl) (by kernel_rfl) (by kernel_rfl) (fun _ _ _ h => h) (Or.inr ⟨by rfl, rfl⟩) (by assumption) ?_
      try simp only [Act.put, List.getElem_toArray, List.getElem_cons_zero, List.getElem_cons_succ, List.setIfInBounds_toArray, List.set_cons_zero, List.set_cons_succ]
      refine wpAnyH_take (i := 7) (v := undef) rfl (by kernel_rfl) (by kernel_rfl) (by kernel_rfl) (fun _ _ _ h => h) (Or.inr ⟨by rfl, rfl⟩) (by assumption) ?_
      try simp only [Act.put, List.getElem_toArray, List.getElem_cons_zero, List.getElem_cons_succ, List.setIfInBounds_toArray, List.set_cons_zero, List.set_cons_succ]
      refine wpAnyH_take (i := 8) (v := undef) rfl (by kernel_rfl) (by kernel_rfl) (by kernel_rfl) (fun _ _ _ h => h) (Or.inr ⟨by rfl, rfl⟩) (by assumption) ?_
      try simp only [Act.put, List.getElem_toArray, List.getElem_cons_zero, List.getElem_cons_succ, List.setIfInBounds_toArray, List.set_cons_zero, List.set_cons_succ]
      refine wpAnyH_take (i := 9) (v := undef) rfl (by kernel_rfl) (by kernel_rfl) (by kernel_rfl) (fun _ _ _ h => h) (Or.inr ⟨by rfl, rfl⟩) (by assumption) ?_
      try simp only [Act.put, List.getElem_toArray, List.getElem_cons_zero, List.getElem_cons_succ, List.setIfInBounds_toArray, List.set_cons_zero, List.set_cons_succ]
      refine wpAnyH_take (i := 10) (v := undef) rfl (by kernel_rfl) (by kernel_rfl) (by kernel_rfl) (fun _ _ _ h => h) (Or.inr ⟨by rfl, rfl⟩) (by assumption) ?_
      try simp only [Act.put, List.getElem_toArray, List.getElem_cons_zero, List.getElem_cons_succ, List.setIfInBounds_toArray, List.set_cons_zero, List.set_cons_succ]
      refine wpAnyH_take (i := 11) (v := undef) rfl (by kernel_rfl) (by kernel_rfl) (by kernel_rfl) (fun _ _ _ h => h) (Or.inr ⟨by rfl, rfl⟩) (by assumption) ?_
      try simp only [Act.put, List.getElem_toArray, List.getElem_cons_zero, List.getElem_cons_succ, List.setIfInBounds_toArray, List.set_cons_zero, List.set_cons_succ]
      refine wpAnyH_take (i := 12) (v := undef) rfl (by kernel_rfl) (by kernel_rfl) (by kernel_rfl) (fun _ _ _ h => h) (Or.inr ⟨by rfl, rfl⟩) (by assumption) ?_
      try simp only [Act.put, List.getElem_toArray, List.getElem_cons_zero, List.getElem_cons_succ, List.setIfInBounds_toArray, List.set_cons_zero, List.set_cons_succ]
      refine wpAnyH_take (i := 13) (v := ?_) rfl (by kernel_rfl) (by kernel_rfl) (by kernel_rfl) (fun _ _ _ h => h) (Or.inl ⟨by rfl, ?_⟩) (by assumption) ?_
      rotate_left
      · (intro wS hSw; (try dsimp only at hSw); (first | (go_simp; done) | (go_simp; with_reducible rfl)))
      try simp only [Act.put, List.getElem_toArray, List.getElem_cons_zero, List.getElem_cons_succ, List.setIfInBounds_toArray, List.set_cons_zero, List.set_cons_succ]
      refine wpAnyH_done (by kernel_rfl) ?_ _
      refine NoPanic.normal ?_
      go_wp2_with fail
      go_meet
      exact ⟨rfl, by (repeat (first | with_reducible assumption | (simp [go_sem]; done) | (simp [go_sem, *]; done) | with_reducible refine kdrew ?_ | (with_reducible refine ksame ?_; (simp [go_sem, *]; done)) | with_reducible refine kother ?_ (by simp; try omega) | with_reducible refine kalloc ?_ _)), by (repeat (first | with_reducible assumption | (simp [go_sem]; done) | (simp [go_sem, *]; done) | with_reducible refine kdrew ?_ | (with_reducible refine ksame ?_; (simp [go_sem, *]; done)) | with_reducible refine kother ?_ (by simp; try omega) | with_reducible refine kalloc ?_ _)), (by (repeat (first | exact hb | apply Below.drew | apply below_drewN | refine Below.setCell ?_ (by have := hb.size; (try simp at this); (try simp); (try omega)) _ | refine Below.alloc ?_ (by have := hb.size; (try simp at this); (try simp); (try omega)) _)))⟩
  case rest =>
    clear hb
    obtain ⟨rfl, a0, a1, hb⟩ := hcut
    have za0 : w.heap.size < wc.heap.size := klt a0
    go_upto_region 6 with fail
    go_cut [6, 7] (fun s6 s7 wx => ∃ g : Nat, s6 = .pointer (some ⟨g, 0, none⟩) ∧ s7 = .int .u64 R ∧ wx.cell? ⟨w.heap.size, 0, none⟩ = some (.int .u64 h) ∧ wx.cell? ⟨w.heap.size, 1, none⟩ = some (.int .u64 l) ∧ wx.cell? ⟨g, 0, none⟩ = some (.int .u64 (hi Q)) ∧ wx.cell? ⟨g, 1, none⟩ = some (.int .u64 (lo Q)) ∧ Below w.heap.size w wx)
    case first =>
      go_region_held3 (fun w' => w'.cell? ⟨w.heap.size, 0, none⟩ = some (.int .u64 h) ∧ w'.cell? ⟨w.heap.size, 1, none⟩ = some (.int .u64 l)) (refine ⟨?_, ?_⟩ <;> (repeat (first | with_reducible assumption | (simp [go_sem]; done) | (simp [go_sem, *]; done) | with_reducible refine kdrew ?_ | (with_reducible refine ksame ?_; (simp [go_sem, *]; done)) | with_reducible refine kother ?_ (by simp; try omega) | with_reducible refine kalloc ?_ _)))
        ((rw [if_pos (by rfl)]; refine wp_enter (by go_simp; exact ⟨rfl, rfl⟩) ?_; (first
          | (go_at_call 23; refine (wdiv_any _ _ _ _ h0 h1 l0 l1 p0 (by omega)).mono ?_; rintro e wn ⟨rfl, hbn⟩; rw [HQ.out, HR.out]; replace a0 : wn.cell? ⟨w.heap.size, 0, none⟩ = some (.int .u64 h) := cell_later hbn (by (repeat (first | with_reducible exact a0 | with_reducible refine kalloc ?_ _ | with_reducible refine kdrew ?_ | with_reducible refine kdrewN ?_ _ | with_reducible refine kother ?_ (by simp; try omega)))); replace a1 : wn.cell? ⟨w.heap.size, 1, none⟩ = some (.int .u64 l) := cell_later hbn (by (repeat (first | with_reducible exact a1 | with_reducible refine kalloc ?_ _ | with_reducible refine kdrew ?_ | with_reducible refine kdrewN ?_ _ | with_reducible refine kother ?_ (by simp; try omega)))); have za0 : w.heap.size < wn.heap.size := klt a0; replace hb := (show Below w.heap.size w _ from by (repeat (first | exact hb | apply Below.drew | apply below_drewN | refine Below.setCell ?_ (by have := hb.size; (try simp at this); (try simp); (try omega)) _ | refine Below.alloc ?_ (by have := hb.size; (try simp at this); (try simp); (try omega)) _))).trans (hbn.mono (by have := hb.size; (try simp at this); (try simp); (try omega))); obtain ⟨hcn, hfn⟩ := bcell hbn; (try (have hsr := Nat.lt_of_lt_of_le hsq hbn.size)); (try (have hsq := Nat.lt_of_lt_of_le hsy hbn.size)); have hsz := hbn.size; (try simp at hsz); (try (have hsy := Nat.lt_of_succ_le hsz)); clear hbn; refine ⟨_, rfl, ?_⟩))))
      all_goals (go_wp2_with fail; go_meet; exact ⟨_, rfl, rfl, by (repeat (first | with_reducible assumption | (simp [go_sem]; done) | (simp [go_sem, *]; done) | with_reducible refine kdrew ?_ | (with_reducible refine ksame ?_; (simp [go_sem, *]; done)) | with_reducible refine kother ?_ (by simp; try omega) | with_reducible refine kalloc ?_ _)), by (repeat (first | with_reducible assumption | (simp [go_sem]; done) | (simp [go_sem, *]; done) | with_reducible refine kdrew ?_ | (with_reducible refine ksame ?_; (simp [go_sem, *]; done)) | with_reducible refine kother ?_ (by simp; try omega) | with_reducible refine kalloc ?_ _)), by (repeat (first | with_reducible assumption | (simp [go_sem]; done) | (simp [go_sem, *]; done) | with_reducible refine kdrew ?_ | (with_reducible refine ksame ?_; (simp [go_sem, *]; done)) | with_reducible refine kother ?_ (by simp; try omega) | with_reducible refine kalloc ?_ _)), by (repeat (first | with_reducible assumption | (simp [go_sem]; done) | (simp [go_sem, *]; done) | with_reducible refine kdrew ?_ | (with_reducible refine ksame ?_; (simp [go_sem, *]; done)) | with_reducible refine kother ?_ (by simp; try omega) | with_reducible refine kalloc ?_ _)), (by (repeat (first | exact hb | apply Below.drew | apply below_drewN | refine Below.setCell ?_ (by have := hb.size; (try simp at this); (try simp); (try omega)) _ | refine Below.alloc ?_ (by have := hb.size; (try simp at this); (try simp); (try omega)) _)))⟩)
    case rest =>
      clear hb
      obtain ⟨g, rfl, rfl, a0, a1, q0, q1, hb⟩ := hcut
      have za0 : w.heap.size < wc.heap.size := klt a0
      have zq0 : g < wc.heap.size := klt q0
      go_wp2_with fail
      refine (wleft_any _ _ _ _ (by omega) (by omega) (by omega) (by omega) (by omega)).mono ?_
      rintro e w2 ⟨rfl, hb2⟩
      rw [eQ.out, HV.out]
      replace a0 : w2.cell? ⟨w.heap.size, 0, none⟩ = some (.int .u64 h) := cell_later hb2 (by (repeat (first | with_reducible exact a0 | with_reducible refine kalloc ?_ _ | with_reducible refine kdrew ?_ | with_reducible refine kdrewN ?_ _ | with_reducible refine kother ?_ (by simp; try omega))))
      replace a1 : w2.cell? ⟨w.heap.size, 1, none⟩ = some (.int .u64 l) := cell_later hb2 (by (repeat (first | with_reducible exact a1 | with_reducible refine kalloc ?_ _ | with_reducible refine kdrew ?_ | with_reducible refine kdrewN ?_ _ | with_reducible refine kother ?_ (by simp; try omega))))
      replace q0 : w2.cell? ⟨g, 0, none⟩ = some (.int .u64 (hi Q)) := cell_later hb2 (by (repeat (first | with_reducible exact q0 | with_reducible refine kalloc ?_ _ | with_reducible refine kdrew ?_ | with_reducible refine kdrewN ?_ _ | with_reducible refine kother ?_ (by simp; try omega))))
      replace q1 : w2.cell? ⟨g, 1, none⟩ = some (.int .u64 (lo Q)) := cell_later hb2 (by (repeat (first | with_reducible exact q1 | with_reducible refine kalloc ?_ _ | with_reducible refine kdrew ?_ | with_reducible refine kdrewN ?_ _ | with_reducible refine kother ?_ (by simp; try omega))))
      have za0 : w.heap.size < w2.heap.size := klt a0
      have zq0 : g < w2.heap.size := klt q0
      replace hb := (show Below w.heap.size w _ from by (repeat (first | exact hb | apply Below.drew | apply below_drewN | refine Below.setCell ?_ (by have := hb.size; (try simp at this); (try simp); (try omega)) _ | refine Below.alloc ?_ (by have := hb.size; (try simp at this); (try simp); (try omega)) _))).trans (hb2.mono (by have := hb.size; (try simp at this); (try simp); (try omega)))
      clear hb2
      go_wp2_with fail
      refine (wof_any _ _).mono ?_
      rintro e w3 ⟨rfl, hb3⟩
      replace a0 : w3.cell? ⟨w.heap.size, 0, none⟩ = some (.int .u64 h) := cell_later hb3 (by (repeat (first | with_reducible exact a0 | with_reducible refine kalloc ?_ _ | with_reducible refine kdrew ?_ | with_reducible refine kdrewN ?_ _ | with_reducible refine kother ?_ (by simp; try omega))))
      replace a1 : w3.cell? ⟨w.heap.size, 1, none⟩ = some (.int .u64 l) := cell_later hb3 (by (repeat (first | with_reducible exact a1 | with_reducible refine kalloc ?_ _ | with_reducible refine kdrew ?_ | with_reducible refine kdrewN ?_ _ | with_reducible refine kother ?_ (by simp; try omega))))
      replace q0 : w3.cell? ⟨g, 0, none⟩ = some (.int .u64 (hi Q)) := cell_later hb3 (by (repeat (first | with_reducible exact q0 | with_reducible refine kalloc ?_ _ | with_reducible refine kdrew ?_ | with_reducible refine kdrewN ?_ _ | with_reducible refine kother ?_ (by simp; try omega))))
      replace q1 : w3.cell? ⟨g, 1, none⟩ = some (.int .u64 (lo Q)) := cell_later hb3 (by (repeat (first | with_reducible exact q1 | with_reducible refine kalloc ?_ _ | with_reducible refine kdrew ?_ | with_reducible refine kdrewN ?_ _ | with_reducible refine kother ?_ (by simp; try omega))))
      have za0 : w.heap.size < w3.heap.size := klt a0
      have zq0 : g < w3.heap.size := klt q0
      replace hb := (show Below w.heap.size w _ from by (repeat (first | exact hb | apply Below.drew | apply below_drewN | refine Below.setCell ?_ (by have := hb.size; (try simp at this); (try simp); (try omega)) _ | refine Below.alloc ?_ (by have := hb.size; (try simp at this); (try simp); (try omega)) _))).trans (hb3.mono (by have := hb.size; (try simp at this); (try simp); (try omega)))
      clear hb3
      go_wp2_with fail
      refine (wadd_any _ _ _ _ _ (by omega) (by omega) (by omega) (by omega) (by omega) (by omega) (by omega) (by omega)).mono ?_
      rintro e w4 ⟨rfl, hb4⟩
      rw [eV.out, eB.out, eh.out, el.out]
      replace a0 : w4.cell? ⟨w.heap.size, 0, none⟩ = some (.int .u64 h) := cell_later hb4 (by (repeat (first | with_reducible exact a0 | with_reducible refine kalloc ?_ _ | with_reducible refine kdrew ?_ | with_reducible refine kdrewN ?_ _ | with_reducible refine kother ?_ (by simp; try omega))))
      replace a1 : w4.cell? ⟨w.heap.size, 1, none⟩ = some (.int .u64 l) := cell_later hb4 (by (repeat (first | with_reducible exact a1 | with_reducible refine kalloc ?_ _ | with_reducible refine kdrew ?_ | with_reducible refine kdrewN ?_ _ | with_reducible refine kother ?_ (by simp; try omega))))
      replace q0 : w4.cell? ⟨g, 0, none⟩ = some (.int .u64 (hi Q)) := cell_later hb4 (by (repeat (first | with_reducible exact q0 | with_reducible refine kalloc ?_ _ | with_reducible refine kdrew ?_ | with_reducible refine kdrewN ?_ _ | with_reducible refine kother ?_ (by simp; try omega))))
      replace q1 : w4.cell? ⟨g, 1, none⟩ = some (.int .u64 (lo Q)) := cell_later hb4 (by (repeat (first | with_reducible exact q1 | with_reducible refine kalloc ?_ _ | with_reducible refine kdrew ?_ | with_reducible refine kdrewN ?_ _ | with_reducible refine kother ?_ (by simp; try omega))))
      have za0 : w.heap.size < w4.heap.size := klt a0
      have zq0 : g < w4.heap.size := klt q0
      replace hb := (show Below w.heap.size w _ from by (repeat (first | exact hb | apply Below.drew | apply below_drewN | refine Below.setCell ?_ (by have := hb.size; (try simp at this); (try simp); (try omega)) _ | refine Below.alloc ?_ (by have := hb.size; (try simp at this); (try simp); (try omega)) _))).trans (hb4.mono (by have := hb.size; (try simp at this); (try simp); (try omega)))
      clear hb4
      go_wp2_with fail
      go_region_held3 (fun w' => w'.cell? ⟨w.heap.size, 0, none⟩ = some (.int .u64 h) ∧ w'.cell? ⟨w.heap.size, 1, none⟩ = some (.int .u64 l) ∧ w'.cell? ⟨g, 0, none⟩ = some (.int .u64 (hi Q)) ∧ w'.cell? ⟨g, 1, none⟩ = some (.int .u64 (lo Q)) ∧ w'.cell? ⟨w4.heap.size, 0, none⟩ = some (.int .u64 h) ∧ w'.cell? ⟨w4.heap.size, 1, none⟩ = some (.int .u64 l)) (refine ⟨?_, ?_, ?_, ?_, ?_, ?_⟩ <;> (repeat (first | with_reducible assumption | (simp [go_sem]; done) | (simp [go_sem, *]; done) | with_reducible refine kdrew ?_ | (with_reducible refine ksame ?_; (simp [go_sem, *]; done)) | with_reducible refine kother ?_ (by simp; try omega) | with_reducible refine kalloc ?_ _)))
        ((rw [if_pos (by rfl)]; refine wp_enter (by go_simp; exact ⟨rfl, rfl⟩) ?_; (first
          | (go_at_call 29; refine (wright_any _ _ _ _ (by omega) (by omega) (by omega) (by omega) (by omega)).mono ?_; rintro e wn ⟨rfl, hbn⟩; (first | rw [eQ.out, HQZ.out] | rw [JJ.out, HZ.out] | rw [HRt.out]); replace a0 : wn.cell? ⟨w.heap.size, 0, none⟩ = some (.int .u64 h) := cell_later hbn (by (repeat (first | with_reducible exact a0 | with_reducible refine kalloc ?_ _ | with_reducible refine kdrew ?_ | with_reducible refine kdrewN ?_ _ | with_reducible refine kother ?_ (by simp; try omega)))); replace a1 : wn.cell? ⟨w.heap.size, 1, none⟩ = some (.int .u64 l) := cell_later hbn (by (repeat (first | with_reducible exact a1 | with_reducible refine kalloc ?_ _ | with_reducible refine kdrew ?_ | with_reducible refine kdrewN ?_ _ | with_reducible refine kother ?_ (by simp; try omega)))); replace q0 : wn.cell? ⟨g, 0, none⟩ = some (.int .u64 (hi Q)) := cell_later hbn (by (repeat (first | with_reducible exact q0 | with_reducible refine kalloc ?_ _ | with_reducible refine kdrew ?_ | with_reducible refine kdrewN ?_ _ | with_reducible refine kother ?_ (by simp; try omega)))); replace q1 : wn.cell? ⟨g, 1, none⟩ = some (.int .u64 (lo Q)) := cell_later hbn (by (repeat (first | with_reducible exact q1 | with_reducible refine kalloc ?_ _ | with_reducible refine kdrew ?_ | with_reducible refine kdrewN ?_ _ | with_reducible refine kother ?_ (by simp; try omega)))); have v0 : wn.cell? ⟨w4.heap.size, 0, none⟩ = some (.int .u64 h) := cell_later hbn (by (repeat (first | with_reducible assumption | (simp [go_sem]; done) | (simp [go_sem, *]; done) | with_reducible refine kdrew ?_ | (with_reducible refine ksame ?_; (simp [go_sem, *]; done)) | with_reducible refine kother ?_ (by simp; try omega) | with_reducible refine kalloc ?_ _))); have v1 : wn.cell? ⟨w4.heap.size, 1, none⟩ = some (.int .u64 l) := cell_later hbn (by (repeat (first | with_reducible assumption | (simp [go_sem]; done) | (simp [go_sem, *]; done) | with_reducible refine kdrew ?_ | (with_reducible refine ksame ?_; (simp [go_sem, *]; done)) | with_reducible refine kother ?_ (by simp; try omega) | with_reducible refine kalloc ?_ _))); have za0 : w.heap.size < wn.heap.size := klt a0; have zq0 : g < wn.heap.size := klt q0; have zv0 : w4.heap.size < wn.heap.size := klt v0; replace hb := (show Below w.heap.size w _ from by (repeat (first | exact hb | apply Below.drew | apply below_drewN | refine Below.setCell ?_ (by have := hb.size; (try simp at this); (try simp); (try omega)) _ | refine Below.alloc ?_ (by have := hb.size; (try simp at this); (try simp); (try omega)) _))).trans (hbn.mono (by have := hb.size; (try simp at this); (try simp); (try omega))); obtain ⟨hcn, hfn⟩ := bcell hbn; (try (have hsr := Nat.lt_of_lt_of_le hsq hbn.size)); (try (have hsq := Nat.lt_of_lt_of_le hsy hbn.size)); have hsz := hbn.size; (try simp at hsz); (try (have hsy := Nat.lt_of_succ_le hsz)); clear hbn; refine ⟨_, rfl, ?_⟩)
          | (go_at_call 27; refine (wleft_any _ _ _ _ (by omega) (by omega) (by omega) (by omega) (by omega)).mono ?_; rintro e wn ⟨rfl, hbn⟩; (first | rw [eT.out, HTY.out] | rw [JJ.out, HY.out] | rw [HM.out] | rw [HT.out]); replace a0 : wn.cell? ⟨w.heap.size, 0, none⟩ = some (.int .u64 h) := cell_later hbn (by (repeat (first | with_reducible exact a0 | with_reducible refine kalloc ?_ _ | with_reducible refine kdrew ?_ | with_reducible refine kdrewN ?_ _ | with_reducible refine kother ?_ (by simp; try omega)))); replace a1 : wn.cell? ⟨w.heap.size, 1, none⟩ = some (.int .u64 l) := cell_later hbn (by (repeat (first | with_reducible exact a1 | with_reducible refine kalloc ?_ _ | with_reducible refine kdrew ?_ | with_reducible refine kdrewN ?_ _ | with_reducible refine kother ?_ (by simp; try omega)))); replace q0 : wn.cell? ⟨g, 0, none⟩ = some (.int .u64 (hi Q)) := cell_later hbn (by (repeat (first | with_reducible exact q0 | with_reducible refine kalloc ?_ _ | with_reducible refine kdrew ?_ | with_reducible refine kdrewN ?_ _ | with_reducible refine kother ?_ (by simp; try omega)))); replace q1 : wn.cell? ⟨g, 1, none⟩ = some (.int .u64 (lo Q)) := cell_later hbn (by (repeat (first | with_reducible exact q1 | with_reducible refine kalloc ?_ _ | with_reducible refine kdrew ?_ | with_reducible refine kdrewN ?_ _ | with_reducible refine kother ?_ (by simp; try omega)))); have v0 : wn.cell? ⟨w4.heap.size, 0, none⟩ = some (.int .u64 h) := cell_later hbn (by (repeat (first | with_reducible assumption | (simp [go_sem]; done) | (simp [go_sem, *]; done) | with_reducible refine kdrew ?_ | (with_reducible refine ksame ?_; (simp [go_sem, *]; done)) | with_reducible refine kother ?_ (by simp; try omega) | with_reducible refine kalloc ?_ _))); have v1 : wn.cell? ⟨w4.heap.size, 1, none⟩ = some (.int .u64 l) := cell_later hbn (by (repeat (first | with_reducible assumption | (simp [go_sem]; done) | (simp [go_sem, *]; done) | with_reducible refine kdrew ?_ | (with_reducible refine ksame ?_; (simp [go_sem, *]; done)) | with_reducible refine kother ?_ (by simp; try omega) | with_reducible refine kalloc ?_ _))); have za0 : w.heap.size < wn.heap.size := klt a0; have zq0 : g < wn.heap.size := klt q0; have zv0 : w4.heap.size < wn.heap.size := klt v0; replace hb := (show Below w.heap.size w _ from by (repeat (first | exact hb | apply Below.drew | apply below_drewN | refine Below.setCell ?_ (by have := hb.size; (try simp at this); (try simp); (try omega)) _ | refine Below.alloc ?_ (by have := hb.size; (try simp at this); (try simp); (try omega)) _))).trans (hbn.mono (by have := hb.size; (try simp at this); (try simp); (try omega))); obtain ⟨hcn, hfn⟩ := bcell hbn; (try (have hsr := Nat.lt_of_lt_of_le hsq hbn.size)); (try (have hsq := Nat.lt_of_lt_of_le hsy hbn.size)); have hsz := hbn.size; (try simp at hsz); (try (have hsy := Nat.lt_of_succ_le hsz)); clear hbn; refine ⟨_, rfl, ?_⟩)
          | (go_at_call 22; refine (wmul_any _ _ _ (by omega) (by omega) (by omega) (by omega)).mono ?_; rintro e wn ⟨rfl, hbn⟩; replace a0 : wn.cell? ⟨w.heap.size, 0, none⟩ = some (.int .u64 h) := cell_later hbn (by (repeat (first | with_reducible exact a0 | with_reducible refine kalloc ?_ _ | with_reducible refine kdrew ?_ | with_reducible refine kdrewN ?_ _ | with_reducible refine kother ?_ (by simp; try omega)))); replace a1 : wn.cell? ⟨w.heap.size, 1, none⟩ = some (.int .u64 l) := cell_later hbn (by (repeat (first | with_reducible exact a1 | with_reducible refine kalloc ?_ _ | with_reducible refine kdrew ?_ | with_reducible refine kdrewN ?_ _ | with_reducible refine kother ?_ (by simp; try omega)))); replace q0 : wn.cell? ⟨g, 0, none⟩ = some (.int .u64 (hi Q)) := cell_later hbn (by (repeat (first | with_reducible exact q0 | with_reducible refine kalloc ?_ _ | with_reducible refine kdrew ?_ | with_reducible refine kdrewN ?_ _ | with_reducible refine kother ?_ (by simp; try omega)))); replace q1 : wn.cell? ⟨g, 1, none⟩ = some (.int .u64 (lo Q)) := cell_later hbn (by (repeat (first | with_reducible exact q1 | with_reducible refine kalloc ?_ _ | with_reducible refine kdrew ?_ | with_reducible refine kdrewN ?_ _ | with_reducible refine kother ?_ (by simp; try omega)))); have v0 : wn.cell? ⟨w4.heap.size, 0, none⟩ = some (.int .u64 h) := cell_later hbn (by (repeat (first | with_reducible assumption | (simp [go_sem]; done) | (simp [go_sem, *]; done) | with_reducible refine kdrew ?_ | (with_reducible refine ksame ?_; (simp [go_sem, *]; done)) | with_reducible refine kother ?_ (by simp; try omega) | with_reducible refine kalloc ?_ _))); have v1 : wn.cell? ⟨w4.heap.size, 1, none⟩ = some (.int .u64 l) := cell_later hbn (by (repeat (first | with_reducible assumption | (simp [go_sem]; done) | (simp [go_sem, *]; done) | with_reducible refine kdrew ?_ | (with_reducible refine ksame ?_; (simp [go_sem, *]; done)) | with_reducible refine kother ?_ (by simp; try omega) | with_reducible refine kalloc ?_ _))); have za0 : w.heap.size < wn.heap.size := klt a0; have zq0 : g < wn.heap.size := klt q0; have zv0 : w4.heap.size < wn.heap.size := klt v0; replace hb := (show Below w.heap.size w _ from by (repeat (first | exact hb | apply Below.drew | apply below_drewN | refine Below.setCell ?_ (by have := hb.size; (try simp at this); (try simp); (try omega)) _ | refine Below.alloc ?_ (by have := hb.size; (try simp at this); (try simp); (try omega)) _))).trans (hbn.mono (by have := hb.size; (try simp at this); (try simp); (try omega))); obtain ⟨hcn, hfn⟩ := bcell hbn; (try (have hsr := Nat.lt_of_lt_of_le hsq hbn.size)); (try (have hsq := Nat.lt_of_lt_of_le hsy hbn.size)); have hsz := hbn.size; (try simp at hsz); (try (have hsy := Nat.lt_of_succ_le hsz)); clear hbn; refine ⟨_, rfl, ?_⟩)
          | (go_at_call 25; refine (wof_any _ _).mono ?_; rintro e wn ⟨rfl, hbn⟩; replace a0 : wn.cell? ⟨w.heap.size, 0, none⟩ = some (.int .u64 h) := cell_later hbn (by (repeat (first | with_reducible exact a0 | with_reducible refine kalloc ?_ _ | with_reducible refine kdrew ?_ | with_reducible refine kdrewN ?_ _ | with_reducible refine kother ?_ (by simp; try omega)))); replace a1 : wn.cell? ⟨w.heap.size, 1, none⟩ = some (.int .u64 l) := cell_later hbn (by (repeat (first | with_reducible exact a1 | with_reducible refine kalloc ?_ _ | with_reducible refine kdrew ?_ | with_reducible refine kdrewN ?_ _ | with_reducible refine kother ?_ (by simp; try omega)))); replace q0 : wn.cell? ⟨g, 0, none⟩ = some (.int .u64 (hi Q)) := cell_later hbn (by (repeat (first | with_reducible exact q0 | with_reducible refine kalloc ?_ _ | with_reducible refine kdrew ?_ | with_reducible refine kdrewN ?_ _ | with_reducible refine kother ?_ (by simp; try omega)))); replace q1 : wn.cell? ⟨g, 1, none⟩ = some (.int .u64 (lo Q)) := cell_later hbn (by (repeat (first | with_reducible exact q1 | with_reducible refine kalloc ?_ _ | with_reducible refine kdrew ?_ | with_reducible refine kdrewN ?_ _ | with_reducible refine kother ?_ (by simp; try omega)))); have v0 : wn.cell? ⟨w4.heap.size, 0, none⟩ = some (.int .u64 h) := cell_later hbn (by (repeat (first | with_reducible assumption | (simp [go_sem]; done) | (simp [go_sem, *]; done) | with_reducible refine kdrew ?_ | (with_reducible refine ksame ?_; (simp [go_sem, *]; done)) | with_reducible refine kother ?_ (by simp; try omega) | with_reducible refine kalloc ?_ _))); have v1 : wn.cell? ⟨w4.heap.size, 1, none⟩ = some (.int .u64 l) := cell_later hbn (by (repeat (first | with_reducible assumption | (simp [go_sem]; done) | (simp [go_sem, *]; done) | with_reducible refine kdrew ?_ | (with_reducible refine ksame ?_; (simp [go_sem, *]; done)) | with_reducible refine kother ?_ (by simp; try omega) | with_reducible refine kalloc ?_ _))); have za0 : w.heap.size < wn.heap.size := klt a0; have zq0 : g < wn.heap.size := klt q0; have zv0 : w4.heap.size < wn.heap.size := klt v0; replace hb := (show Below w.heap.size w _ from by (repeat (first | exact hb | apply Below.drew | apply below_drewN | refine Below.setCell ?_ (by have := hb.size; (try simp at this); (try simp); (try omega)) _ | refine Below.alloc ?_ (by have := hb.size; (try simp at this); (try simp); (try omega)) _))).trans (hbn.mono (by have := hb.size; (try simp at this); (try simp); (try omega))); obtain ⟨hcn, hfn⟩ := bcell hbn; (try (have hsr := Nat.lt_of_lt_of_le hsq hbn.size)); (try (have hsq := Nat.lt_of_lt_of_le hsy hbn.size)); have hsz := hbn.size; (try simp at hsz); (try (have hsy := Nat.lt_of_succ_le hsz)); clear hbn; refine ⟨_, rfl, ?_⟩))))
      all_goals (go_wp2; go_ret; exact ⟨rfl, (by (repeat (first | exact hb | apply Below.drew | apply below_drewN | refine Below.setCell ?_ (by have := hb.size; (try simp at this); (try simp); (try omega)) _ | refine Below.alloc ?_ (by have := hb.size; (try simp at this); (try simp); (try omega)) _)))⟩)
theorem cnum : Try.prog.cellsOf 24 = 2 := by kernel_rfl
theorem numReads {H : Type} {enc : TypeId × Value → H} (a b : Int) (wa : (Lit.int .u64 a).wf = true) (wb : (Lit.int .u64 b).wf = true) (W : World) (sp : Nat → Bool) : DataW.Trod enc Try.prog W 0 sp true 24 (.agg #[.int .u64 a, .int .u64 b]) (.agg [.lit (.int .u64 a), .lit (.int .u64 b)]) [] :=
  Joins.shut_agg2 (y0 := (.lit (.int .u64 a), [])) (y1 := (.lit (.int .u64 b), [])) Try.underlying24 (by kernel_rfl) cnum ⟨1, by simp [DataW.trod, Try.underlying22, wa]⟩ ⟨1, by simp [DataW.trod, Try.underlying22, wb]⟩
set_option maxRecDepth 100000 in
theorem lifted (os : Os) (started : os.Started) (H : Type) (enc : TypeId × Value → H) :
    ReturnsInHanded {} Try.checked os 10 .any (Rows.widePowersSpec.pre6 enc Try.prog Try.f10 Rows.widePowersRow.domain false) (Rows.widePowersSpec.post enc Try.prog Try.f10 false true false false) := by
  refine returnsInHanded_of_change (C := Try.checked) own started (by kernel_rfl) Try.func10
    (ChangeSpec.witness6 (enc := enc) (C := Try.checked) false ⟨#[], #[.agg #[.int .u64 0, .int .u64 0], .int .u8 0], []⟩ 8 (by kernel_rfl) (by kernel_rfl) (by kernel_rfl) (by kernel_rfl)) ?_
  intro W base args ds gs before hval0 hW hcnd _
  have hval : ∀ (j : Nat) t v, Try.f10.params[j]? = some t → args[j]? = some v → Value.okWide Try.prog W .any base t v := hval0
  have hW' := hW
  obtain ⟨p, q, hA0, hV, rfl, hfz, hnd⟩ := hW
  have hA : DataW.TrodAll enc Try.prog W 0 (fun _ => true) true Try.f10.params.toList args.toList ds p := hA0
  rw [Try.params10] at hA hval
  obtain ⟨v0, vs0, d0, ds0, p0, q0, hargs, rfl, rfl, h0, r0⟩ := trodAll_cons hA
  obtain ⟨v1, vs1, d1, ds1, p1, q1, rfl, rfl, rfl, h1, r1⟩ := trodAll_cons r0
  obtain ⟨rfl, rfl, rfl⟩ := trodAll_nil r1
  obtain rfl : args = #[v0, v1] := by cases args; simp_all
  obtain ⟨rfl, rfl⟩ := trodVars_none hV
  obtain ⟨x0, z0, y0, u0, n0, rfl, rfl, rfl, e0, g0⟩ := Joins.open_agg2 Try.underlying24 (by kernel_rfl) cnum (hval 0 _ v0 rfl rfl) h0
  obtain ⟨a0, ea0, rfl, wa0⟩ := DataW.trod_int Try.underlying22 e0
  obtain ⟨b0, eb0, rfl, wb0⟩ := DataW.trod_int Try.underlying22 g0
  simp at ea0 eb0
  subst ea0 eb0
  obtain ⟨a1, rfl, rfl, rfl, w1⟩ := open_int Try.underlying5 (hval 1 _ v1 rfl rfl) h1
  clear hA0 hval0
  simp only [List.append_nil] at hW'
  obtain ⟨la0, ma0⟩ := wf_u64 wa0
  obtain ⟨lb0, mb0⟩ := wf_u64 wb0
  obtain ⟨l1, m1⟩ := wf_u8 w1
  refine (walk a0 b0 a1 W la0 ma0 lb0 mb0 l1 m1).mono fun e W' ⟨he, hg⟩ => ?_
  subst he
  exact ⟨_, rfl, post_of_under (pa := []) (pv := []) hW' (fun _ _ _ => (trodAll_cons_mk (shut_bool Try.underlying4 _) trodAll_mk0)) (fun sp _ => (trodAll_cons_mk (numReads a0 b0 wa0 wb0 _ sp) (trodAll_cons_mk (shut_int Try.underlying5 w1) trodAll_mk0))) (fun _ _ => rfl) rfl
    hg (ok_one (by kernel_rfl) rfl (okWide_bool_mk Try.underlying4 _))⟩
theorem over : Rows.widePowersRow.holds Try.pinned (OpenSpec.ofChange Rows.widePowersSpec) :=
  OpenClaim.holds_of_wide 10 Try.f10 rfl rfl rfl rfl rfl rfl rfl ⟨rfl, rfl, rfl, rfl, rfl⟩ rfl rfl rfl rfl rfl (by kernel_rfl) Try.func10 (by kernel_rfl)
    (of_decide_eq_true (by kernel_rfl)) (by unfold Func.isWrapper; first | (rw [if_pos (by decide +kernel)]; kernel_rfl) | (rw [if_neg (by decide +kernel)]; exact ⟨rfl, rfl⟩))
    (fun os started H enc _ => lifted os started H enc)
theorem proved : Rows.WidePowersSaid := over
end Go.Proofs.Ytapmnlalnmlcoaa.widePowers
