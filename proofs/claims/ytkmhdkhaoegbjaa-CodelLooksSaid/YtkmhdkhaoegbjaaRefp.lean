/- The document's answers of layer 3: does a square, so often, fit? -/
import Derived.Test.YtkmhdkhaoegbjaaRefc
import Derived.Test.YtkmhdkhaoegbjaaRefe
import Derived.Test.YtkmhdkhaoegbjaaHelp
import Derived.Test.YtkmhdkhaoegbjaaHelpb
import Derived.Test.YtkmhdkhaoegbjaaRoota
import Derived.Deep.RegionHeld3
import Derived.Deep.DeepCutAuto
namespace Go.Proofs.Ytkmhdkhaoegbjaa
open Go.ChangeShapes Go.WideShapes Go.ChangeAt Go.RowKit Kn
set_option linter.unusedVariables false
def fitsB (v n N : Int) : Bool := decide (v * v * max n 1 ≤ N)
theorem not_under (a b : Int) : (!Kn.underB a b) = decide (b ≤ a) := by
  unfold Kn.underB
  by_cases h : a < b
  · rw [decide_eq_true h, decide_eq_false (by omega)]; rfl
  · rw [decide_eq_false h, decide_eq_true (by omega)]; rfl
set_option maxHeartbeats 1000000 in
theorem rfits_one (v n h l : Int) (w : World) (v0 : 0 ≤ v) (v1 : v ≤ 18446744073709551615) (n1 : n ≤ 1) (h0 : 0 ≤ h) (h1 : h ≤ 18446744073709551615) (l0 : 0 ≤ l) (l1 : l ≤ 18446744073709551615) :
    Calls Try.prog 43 #[.int .u64 v, .int .u64 n, .agg #[.int .u64 h, .int .u64 l]] w fun e w' => e = .returned (.bool (fitsB v n (num h l))) ∧ Below w.heap.size w w' := by
  have q0 : 0 ≤ v * v := Int.mul_nonneg v0 v0
  have q1 : v * v < 340282366920938463463374607431768211456 := by have := Int.mul_le_mul v1 v1 v0 (by omega); omega
  have k0 := hi0 _ q0
  have k1 := hi1 _ q1
  have k2 := lo0 (v * v)
  have k3 := lo1 (v * v)
  have en := num_hi_lo (v * v)
  have hb := Below.refl w.heap.size w
  have e : fitsB v n (num h l) = (!Kn.underB (num h l) (v * v)) := by
    rw [not_under]; unfold fitsB; rw [show max n 1 = 1 by omega, Int.mul_one]
  have hn : ¬ 1 < n := by omega
  rw [e]; clear e
  go_enter Try.func43, Try.ntmps43
  go_wp2_with (first
    | (go_at_call 35; refine (rmul_any _ _ _ v0 v1 v0 v1).mono ?_; rintro e w1 ⟨rfl, hb1⟩; obtain ⟨hc1, hf1⟩ := bcell hb1; have hz1 : w.heap.size < w1.heap.size := (by have := hb1.size; simp at this; omega); replace hb := (hb.alloc hb.size _).trans (hb1.mono (by simp)))
    | (go_at_call 32; refine (rless_any _ _ _ _ _ h0 h1 l0 l1 k0 k1 k2 k3).mono ?_; rintro e w2 ⟨rfl, hb2⟩; rw [en]))
  go_ret
  exact ⟨rfl, (hb.alloc hb.size _).trans (hb2.mono (by have := hb.size; simp; omega))⟩
theorem split_n (v n : Int) : v * v * n = hi (v * v) * n * 18446744073709551616 + lo (v * v) * n := by
  have e := num_hi_lo (v * v)
  have f : num (hi (v * v)) (lo (v * v)) * n = hi (v * v) * n * 18446744073709551616 + lo (v * v) * n := by
    unfold num
    rw [Int.add_mul, Int.mul_right_comm]
  rw [← f, e]
set_option maxHeartbeats 16000000 in
theorem rfits_more (v n h l : Int) (w : World) (v0 : 0 ≤ v) (v1 : v ≤ 18446744073709551615) (n0 : 1 < n) (n1 : n ≤ 18446744073709551615) (h0 : 0 ≤ h) (h1 : h ≤ 18446744073709551615) (l0 : 0 ≤ l) (l1 : l ≤ 18446744073709551615) :
    Calls Try.prog 43 #[.int .u64 v, .int .u64 n, .agg #[.int .u64 h, .int .u64 l]] w fun e w' => e = .returned (.bool (fitsB v n (num h l))) ∧ Below w.heap.size w w' := by
  have q0 : 0 ≤ v * v := Int.mul_nonneg v0 v0
  have q1 : v * v < 340282366920938463463374607431768211456 := by have := Int.mul_le_mul v1 v1 v0 (by omega); omega
  have k0 := hi0 _ q0
  have k1 := hi1 _ q1
  have k2 := lo0 (v * v)
  have k3 := lo1 (v * v)
  have es := split_n v n
  have N1 := num1 h l h1 l1
  obtain ⟨A, hA⟩ : ∃ A, hi (v * v) = A := ⟨_, rfl⟩
  obtain ⟨B, hBB⟩ : ∃ B, lo (v * v) = B := ⟨_, rfl⟩
  rw [hA] at k0 k1 es
  rw [hBB] at k2 k3 es
  have R0 : 0 ≤ A * n := Int.mul_nonneg k0 (by omega)
  have P0 : 0 ≤ B * n := Int.mul_nonneg k2 (by omega)
  have R1 : A * n < 340282366920938463463374607431768211456 := by have := Int.mul_le_mul k1 n1 (by omega) (by omega); omega
  have P1 : B * n < 340282366920938463463374607431768211456 := by have := Int.mul_le_mul k3 n1 (by omega) (by omega); omega
  have r0 := hi0 _ R0
  have r1 := hi1 _ R1
  have r2 := lo0 (A * n)
  have r3 := lo1 (A * n)
  have p0 := hi0 _ P0
  have p1 := hi1 _ P1
  have p2 := lo0 (B * n)
  have p3 := lo1 (B * n)
  have en := num_hi_lo (B * n)
  have er := num_hi_lo (A * n)
  have hf : fitsB v n (num h l) = decide (A * n * 18446744073709551616 + B * n ≤ num h l) := by
    unfold fitsB; rw [show max n 1 = n by omega, es]
  have HF := Lib.hid hf; clear hf
  have hb := Below.refl w.heap.size w
  have EN := Lib.hid en; clear en
  have ER := Lib.hid er; clear er
  have N1H := Lib.hid N1; have R1H := Lib.hid R1; have P1H := Lib.hid P1; have P0H := Lib.hid P0; have R0H := Lib.hid R0
  clear es q0 q1 R1 P1 N1 P0 R0
  go_enter Try.func43, Try.ntmps43
  go_upto_region 3 with (go_at_call 35; refine (rmul_any _ _ _ v0 v1 v0 v1).mono ?_; rintro e w1 ⟨rfl, hb1⟩; rw [hA, hBB]; obtain ⟨hc1, hf1⟩ := bcell hb1; have hz1 : w.heap.size < w1.heap.size := (by have := hb1.size; simp at this; omega); replace hb := (hb.alloc hb.size _).trans (hb1.mono (by simp)))
  have x0 : (w1.alloc (.cells #[.int .u64 A, .int .u64 B] 56)).cell? ⟨w.heap.size, 0, none⟩ = some (.int .u64 h) := by simp [go_sem, *]
  have x1 : (w1.alloc (.cells #[.int .u64 A, .int .u64 B] 56)).cell? ⟨w.heap.size, 1, none⟩ = some (.int .u64 l) := by simp [go_sem, *]
  have X0 := Lib.hid x0; have X1 := Lib.hid x1
  have hb2 := hb.alloc hb.size (.cells #[.int .u64 A, .int .u64 B] 56)
  clear x0 x1 hc1 hf1 hb1 hb hA hBB
  have hB := Below.refl (w1.heap.size + 1) (w1.alloc (.cells #[.int .u64 A, .int .u64 B] 56))
  go_cut [8, 9] (fun s8 s9 wx => ∃ g k : Nat, s8 = .pointer (some ⟨g, 0, none⟩) ∧ s9 = .pointer (some ⟨k, 0, none⟩) ∧ wx.cell? ⟨g, 0, none⟩ = some (.int .u64 (hi (B * n))) ∧ wx.cell? ⟨g, 1, none⟩ = some (.int .u64 (lo (B * n))) ∧ wx.cell? ⟨k, 0, none⟩ = some (.int .u64 (hi (A * n))) ∧ wx.cell? ⟨k, 1, none⟩ = some (.int .u64 (lo (A * n))) ∧ Below (w1.heap.size + 1) (w1.alloc (.cells #[.int .u64 A, .int .u64 B] 56)) wx)
  case first =>
    go_region_held3 (fun w' => w'.cell? ⟨w1.heap.size, 0, none⟩ = some (.int .u64 A) ∧ w'.cell? ⟨w1.heap.size, 1, none⟩ = some (.int .u64 B)) (refine ⟨?_, ?_⟩ <;> (repeat (first | with_reducible assumption | (simp [go_sem]; done) | (simp [go_sem, *]; done)))) ((go_at_call 35; refine (rmul_any _ _ _ (by omega) (by omega) (by omega) (by omega)).mono ?_; rintro e wn ⟨rfl, hbn⟩; have d0 : wn.cell? ⟨w1.heap.size, 0, none⟩ = some (.int .u64 A) := cell_later hbn (by first | with_reducible assumption | (simp [go_sem, *]; done)); have d1 : wn.cell? ⟨w1.heap.size, 1, none⟩ = some (.int .u64 B) := cell_later hbn (by first | with_reducible assumption | (simp [go_sem, *]; done)); obtain ⟨hcn, hfn⟩ := bcell hbn; have hsz := hbn.size; (try simp at hsz); (try (have hsy := Nat.lt_of_succ_le hsz)); have hyn := klt d0; simp only at hyn; (try (have h7 : w1.heap.size + 1 < wn.heap.size := by omega)); (try (have h8 : w1.heap.size + 1 + 1 < wn.heap.size := by omega)); replace hB := (show Below (w1.heap.size + 1) (w1.alloc (.cells #[.int .u64 A, .int .u64 B] 56)) _ from by (repeat (first | exact hB | apply Below.drew | refine Below.setCell ?_ (by have := hB.size; (try simp at this); (try simp); (try omega)) _ | refine Below.alloc ?_ (by have := hB.size; (try simp at this); (try simp); (try omega)) _))).trans (hbn.mono (by have := hB.size; (try simp at this); (try simp); (try omega)))))
    all_goals (go_wp2_with fail; go_meet; exact ⟨_, _, rfl, rfl, by (repeat (first | with_reducible assumption | (simp [go_sem, *]; done) | (with_reducible refine ksame ?_; (simp [go_sem, *]; done)) | with_reducible refine kother ?_ (by simp; try omega))), by (repeat (first | with_reducible assumption | (simp [go_sem, *]; done) | (with_reducible refine ksame ?_; (simp [go_sem, *]; done)) | with_reducible refine kother ?_ (by simp; try omega))), by (repeat (first | with_reducible assumption | (simp [go_sem, *]; done) | (with_reducible refine ksame ?_; (simp [go_sem, *]; done)) | with_reducible refine kother ?_ (by simp; try omega))), by (repeat (first | with_reducible assumption | (simp [go_sem, *]; done) | (with_reducible refine ksame ?_; (simp [go_sem, *]; done)) | with_reducible refine kother ?_ (by simp; try omega))), by (repeat (first | exact hB | apply Below.drew | refine Below.setCell ?_ (by have := hB.size; (try simp at this); (try simp); (try omega)) _ | refine Below.alloc ?_ (by have := hB.size; (try simp at this); (try simp); (try omega)) _))⟩)
  case rest =>
    obtain ⟨g, k, rfl, rfl, g0, g1, y0, y1, hB⟩ := hcut
    have c0 : wc.cell? ⟨w.heap.size, 0, none⟩ = some (.int .u64 h) := (hB.cell (p := ⟨w.heap.size, 0, none⟩) (by dsimp only; omega)).trans X0.out
    have c1 : wc.cell? ⟨w.heap.size, 1, none⟩ = some (.int .u64 l) := (hB.cell (p := ⟨w.heap.size, 1, none⟩) (by dsimp only; omega)).trans X1.out
    have c2 : wc.cell? ⟨w1.heap.size, 0, none⟩ = some (.int .u64 A) := (hB.cell (p := ⟨w1.heap.size, 0, none⟩) (by dsimp only; omega)).trans (by simp [go_sem])
    have c3 : wc.cell? ⟨w1.heap.size, 1, none⟩ = some (.int .u64 B) := (hB.cell (p := ⟨w1.heap.size, 1, none⟩) (by dsimp only; omega)).trans (by simp [go_sem])
    have f2 : wc.frozen? ⟨w1.heap.size, 0, none⟩ = false := (hB.frozen (p := ⟨w1.heap.size, 0, none⟩) (by dsimp only; omega)).trans (by simp [go_sem])
    have f3 : wc.frozen? ⟨w1.heap.size, 1, none⟩ = false := (hB.frozen (p := ⟨w1.heap.size, 1, none⟩) (by dsimp only; omega)).trans (by simp [go_sem])
    have hb := hb2.trans (hB.mono (by omega))
    have z0 := klt c0
    have z1 := klt c2
    have z2 := klt g0
    have z3 := klt y0
    simp only at z0 z1 z2 z3
    clear hB hb2 X0 X1
    have er := ER.out
    have en := EN.out
    have N1 := N1H.out
    have P0 := P0H.out
    have P1 := P1H.out
    have R0 := R0H.out
    by_cases q1 : 0 < hi (A * n)
    · have ef : fitsB v n (num h l) = false := by
        rw [HF.out, decide_eq_false]
        have : num (hi (A * n)) (lo (A * n)) = hi (A * n) * 18446744073709551616 + lo (A * n) := rfl
        omega
      have EF := Lib.hid ef
      clear ef HF er en N1 P1 R0 N1H P0H P1H R0H R1H P0
      go_wp2_with (go_at_call 30; refine (radd_any _ _ _ _ _ p0 p1 p2 p3 r2 r3 (by omega) (by omega)).mono ?_; rintro e wn ⟨rfl, hbn⟩; rw [EN.out]; obtain ⟨hcn, hfn⟩ := bcell hbn; have hsz := hbn.size; (try simp at hsz); have hs1 : w.heap.size < wn.heap.size := (by omega); have hs2 : w1.heap.size < wn.heap.size := (by omega); have hs3 : g < wn.heap.size := (by omega); have hs4 : k < wn.heap.size := (by omega); replace hb := (show Below w.heap.size w _ from by (repeat (first | exact hb | apply Below.drew | refine Below.setCell ?_ (by have := hb.size; (try simp at this); (try simp); (try omega)) _ | refine Below.alloc ?_ (by have := hb.size; (try simp at this); (try simp); (try omega)) _))).trans (hbn.mono (by have := hb.size; (try simp at this); (try simp); (try omega))))
      go_ret
      rw [EF.out]
      exact ⟨rfl, by (repeat (first | exact hb | apply Below.drew | refine Below.setCell ?_ (by have := hb.size; (try simp at this); (try simp); (try omega)) _ | refine Below.alloc ?_ (by have := hb.size; (try simp at this); (try simp); (try omega)) _))⟩
    · have q2 : hi (A * n) = 0 := by omega
      have q3 : A * n = lo (A * n) := by have t := er; rw [q2] at t; unfold num at t; omega
      have e4 : num (lo (A * n)) 0 = A * n * 18446744073709551616 := by rw [← q3]; unfold num; omega
      by_cases q5 : 340282366920938463463374607431768211456 ≤ B * n + num (lo (A * n)) 0
      · have ef : fitsB v n (num h l) = false := by rw [HF.out, decide_eq_false]; omega
        have q6 : overB (B * n) (num (lo (A * n)) 0) = true := by unfold overB; exact decide_eq_true q5
        have EF := Lib.hid ef
        clear ef HF er en N1 P1 R0 N1H P0H P1H R0H R1H P0 q3 e4 q5 q1
        go_wp2_with (go_at_call 30; refine (radd_any _ _ _ _ _ p0 p1 p2 p3 r2 r3 (by omega) (by omega)).mono ?_; rintro e wn ⟨rfl, hbn⟩; rw [EN.out]; obtain ⟨hcn, hfn⟩ := bcell hbn; have hsz := hbn.size; (try simp at hsz); have hs1 : w.heap.size < wn.heap.size := (by omega); have hs2 : w1.heap.size < wn.heap.size := (by omega); have hs3 : g < wn.heap.size := (by omega); have hs4 : k < wn.heap.size := (by omega); replace hb := (show Below w.heap.size w _ from by (repeat (first | exact hb | apply Below.drew | refine Below.setCell ?_ (by have := hb.size; (try simp at this); (try simp); (try omega)) _ | refine Below.alloc ?_ (by have := hb.size; (try simp at this); (try simp); (try omega)) _))).trans (hbn.mono (by have := hb.size; (try simp at this); (try simp); (try omega))))
        go_ret
        rw [EF.out]
        exact ⟨rfl, by (repeat (first | exact hb | apply Below.drew | refine Below.setCell ?_ (by have := hb.size; (try simp at this); (try simp); (try omega)) _ | refine Below.alloc ?_ (by have := hb.size; (try simp at this); (try simp); (try omega)) _))⟩
      · have q6 : overB (B * n) (num (lo (A * n)) 0) = false := by unfold overB; exact decide_eq_false q5
        obtain ⟨S, hS⟩ : ∃ S, addN (B * n) (num (lo (A * n)) 0) = S := ⟨_, rfl⟩
        have s0 : 0 ≤ S := by rw [← hS]; unfold addN; omega
        have s1 : S < 340282366920938463463374607431768211456 := by rw [← hS]; unfold addN; omega
        have ef : fitsB v n (num h l) = (!Kn.underB (num h l) S) := by
          rw [not_under, HF.out, ← hS]
          unfold addN
          rw [e4, Int.emod_eq_of_lt (by omega) (by omega), Int.add_comm]
        have EF := Lib.hid ef
        replace hS := Lib.hid hS
        clear ef HF er en N1 P1 R0 N1H P0H P1H R0H R1H P0 q3 e4 q5 q1
        have t0 := hi0 _ s0
        have t1 := hi1 _ s1
        have t2 := lo0 S
        have t3 := lo1 S
        have et := num_hi_lo S
        clear s0 s1
        go_wp2_with (first
          | (go_at_call 30; refine (radd_any _ _ _ _ _ p0 p1 p2 p3 r2 r3 (by omega) (by omega)).mono ?_; rintro e wn ⟨rfl, hbn⟩; rw [EN.out, hS.out]; obtain ⟨hcn, hfn⟩ := bcell hbn; have hsz := hbn.size; (try simp at hsz); have hs1 : w.heap.size < wn.heap.size := (by omega); have hs2 : w1.heap.size < wn.heap.size := (by omega); have hs3 : g < wn.heap.size := (by omega); have hs4 : k < wn.heap.size := (by omega); replace hb := (show Below w.heap.size w _ from by (repeat (first | exact hb | apply Below.drew | refine Below.setCell ?_ (by have := hb.size; (try simp at this); (try simp); (try omega)) _ | refine Below.alloc ?_ (by have := hb.size; (try simp at this); (try simp); (try omega)) _))).trans (hbn.mono (by have := hb.size; (try simp at this); (try simp); (try omega))))
          | (go_at_call 32; refine (rless_any _ _ _ _ _ h0 h1 l0 l1 t0 t1 t2 t3).mono ?_; rintro e wn ⟨rfl, hbn⟩; rw [et]; replace hb := (show Below w.heap.size w _ from by (repeat (first | exact hb | apply Below.drew | refine Below.setCell ?_ (by have := hb.size; (try simp at this); (try simp); (try omega)) _ | refine Below.alloc ?_ (by have := hb.size; (try simp at this); (try simp); (try omega)) _))).trans (hbn.mono (by have := hb.size; (try simp at this); (try simp); (try omega)))))
        go_ret
        rw [EF.out]
        exact ⟨rfl, by (repeat (first | exact hb | apply Below.drew | refine Below.setCell ?_ (by have := hb.size; (try simp at this); (try simp); (try omega)) _ | refine Below.alloc ?_ (by have := hb.size; (try simp at this); (try simp); (try omega)) _))⟩
/-- A square, so often: is it at most a number? -/
theorem rfits_any (v n h l : Int) (w : World) (v0 : 0 ≤ v) (v1 : v ≤ 18446744073709551615) (n1 : n ≤ 18446744073709551615) (h0 : 0 ≤ h) (h1 : h ≤ 18446744073709551615) (l0 : 0 ≤ l) (l1 : l ≤ 18446744073709551615) :
    Calls Try.prog 43 #[.int .u64 v, .int .u64 n, .agg #[.int .u64 h, .int .u64 l]] w fun e w' => e = .returned (.bool (fitsB v n (num h l))) ∧ Below w.heap.size w w' := by
  by_cases h : 1 < n
  · exact rfits_more v n _ _ w v0 v1 h n1 h0 h1 l0 l1
  · exact rfits_one v n _ _ w v0 v1 (by omega) h0 h1 l0 l1
end Go.Proofs.Ytkmhdkhaoegbjaa
