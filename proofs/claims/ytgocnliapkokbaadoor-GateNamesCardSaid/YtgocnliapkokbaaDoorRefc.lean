/- The document's answers of layer 1: sums and differences by digits. -/
import Derived.Test.YtgocnliapkokbaaDoorRefb
namespace Go.Proofs.YtgocnliapkokbaaDoor
open Go.ChangeShapes Go.WideShapes Go.ChangeAt Go.RowKit Kn
set_option linter.unusedVariables false
theorem Row.drewN {w : World} {g : Nat} {f : Nat → Int} (h : Row w g f) (n : Nat) : Row (w.drewN n) g f := h
theorem mix_step (x y : Int) (k i : Nat) : (if i = k then dgN x k else if i < k then dgN x i else dgN y i) = if i < k + 1 then dgN x i else dgN y i := by
  by_cases h : i = k
  · subst h; rw [if_pos rfl, if_pos (by omega)]
  · rw [if_neg h]
    by_cases h2 : i < k
    · rw [if_pos h2, if_pos (by omega)]
    · rw [if_neg h2, if_neg (by omega)]
theorem mix_bd (x y : Int) (k i : Nat) : 0 ≤ (if i < k then dgN x i else dgN y i) ∧ (if i < k then dgN x i else dgN y i) ≤ 65535 := by
  split <;> exact ⟨dgN0 _ _, dgN1 _ _⟩
set_option maxHeartbeats 2000000 in
set_option maxRecDepth 1000000 in
theorem radd_any (ah al bh bl : Int) (w : World) (ah0 : 0 ≤ ah) (ah1 : ah ≤ 18446744073709551615) (al0 : 0 ≤ al) (al1 : al ≤ 18446744073709551615) (bh0 : 0 ≤ bh) (bh1 : bh ≤ 18446744073709551615) (bl0 : 0 ≤ bl) (bl1 : bl ≤ 18446744073709551615) :
    Calls Tryd.prog 30 #[.agg #[.int .u64 ah, .int .u64 al], .agg #[.int .u64 bh, .int .u64 bl]] w fun e w' => e = .returned (.tuple #[.agg #[.int .u64 (hi (addN (num ah al) (num bh bl))), .int .u64 (lo (addN (num ah al) (num bh bl)))], .bool (overB (num ah al) (num bh bl))]) ∧ Below w.heap.size w w' := by
  have tok : True := trivial
  have A0 := num0 ah al ah0 al0
  have A1 := num1 ah al ah1 al1
  have B0 := num0 bh bl bh0 bl0
  have B1 := num1 bh bl bh1 bl1
  obtain ⟨A, hA⟩ : ∃ A, num ah al = A := ⟨_, rfl⟩
  obtain ⟨B, hBB⟩ : ∃ B, num bh bl = B := ⟨_, rfl⟩
  rw [hA] at A0 A1 ⊢
  rw [hBB] at B0 B1 ⊢
  have HA := Lib.hid hA; clear hA
  have HB := Lib.hid hBB; clear hBB
  go_enter Tryd.func30, Tryd.ntmps30
  go_wp2
  go_region_held3 (fun w' => w'.cell? ⟨w.heap.size, 0, none⟩ = some (.int .u64 ah) ∧ w'.cell? ⟨w.heap.size, 1, none⟩ = some (.int .u64 al) ∧ w'.cell? ⟨w.heap.size + 1, 0, none⟩ = some (.int .u64 bh) ∧ w'.cell? ⟨w.heap.size + 1, 1, none⟩ = some (.int .u64 bl)) (refine ⟨?_, ?_, ?_, ?_⟩ <;> simp [go_sem, *])
    ((go_at_call 34; refine (digits_row _ _ _ (by omega) (by omega) (by omega) (by omega)).mono ?_; (first
      | (clear tok; rintro e w1 ⟨g1, c1, rfl, hg1, r1, hb1⟩; obtain ⟨hc1, hf1⟩ := bcell hb1; have hz1 : w.heap.size + 2 < w1.heap.size := (by have := r1.lt; simp at *; omega); have hz2 : w.heap.size < w1.heap.size := (by omega); have hz3 : w.heap.size + 1 < w1.heap.size := (by omega))
      | (rintro e w2 ⟨g2, c2, rfl, hg2, r2, hb2⟩; obtain ⟨hc2, hf2⟩ := bcell hb2))))
  have q1 : w.heap.size + 3 ≤ g1 := by simp at hg1; omega
  have q2 : g1 < g2 := by have := r1.lt; omega
  have hB : Below (w.heap.size + 3) (((w.alloc (.cells #[.int .u64 ah, .int .u64 al] 53)).alloc (.cells #[.int .u64 bh, .int .u64 bl] 53)).alloc (.cells #[.int .u64 0, .int .u64 0] 53)) w2 := by
    have hs := hb1.size
    simp at hs
    exact (Below.drew (Below.refl _ _)).trans ((hb1.mono (by simp)).trans (hb2.mono (by omega)))
  have x1 : Row w2 g1 (dgN A) := (r1.below hb2 r1.lt).congr (fun i hi => by rw [← HA.out]; exact dg_num ah al i hi al0 al1)
  have x2 : Row w2 g2 (dgN B) := r2.congr (fun i hi => by rw [← HB.out]; exact dg_num bh bl i hi bl0 bl1)
  clear hg1 hg2 r1 r2 hb1 hb2 hc1 hf1 hc2 hf2 hz1 hz2 hz3
  go_wp2
  go_loopw [8, 9] (fun c i wr => ∃ k : Nat, k ≤ 8 ∧ i = .int .i64 k ∧ c = .int .i64 (cy A B k) ∧ Row wr g1 (fun j => if j < k then dgN (A + B) j else dgN A j) ∧ Row wr g2 (dgN B) ∧ Below (w.heap.size + 3) (((w.alloc (.cells #[.int .u64 ah, .int .u64 al] 53)).alloc (.cells #[.int .u64 bh, .int .u64 bl] 53)).alloc (.cells #[.int .u64 0, .int .u64 0] 53)) wr)
    (fun _ i _ => 8 - (intOf i).toNat)
  case atStart => exact ⟨0, Nat.zero_le _, rfl, by rw [cy_zero], x1.congr (fun i _ => by simp), x2, hB⟩
  case round =>
    clear x1 x2 hB
    obtain ⟨k, hk, rfl, rfl, y1, y2, hB⟩ := hrel
    by_cases hlt : k < 8
    · have m0 := y1.cell hlt
      simp only [Nat.lt_irrefl, if_false] at m0
      have m1 := y2.cell hlt
      have m2 := y1.frozen k
      have n0 := dgN0 A k
      have n1 := dgN1 A k
      have n2 := dgN0 B k
      have n3 := dgN1 B k
      have n4 := cy0 A B k
      have n5 := cy1 A B k
      have e1 := cy_step A B k
      have e2 := cy_next A B k
      go_wp2
      go_quiet (fail)
      go_wp2
      go_roundw
      case rel => exact ⟨k + 1, by omega, by go_num, by rw [e2], ((y1.drewN nq).set k _).congr (fun i hi => mix_step _ _ _ _), (y2.drewN nq).setOther (by show g2 ≠ g1; omega) _, (below_drewN hB nq).setCell (by show _ ≤ g1; omega) _⟩
      case measure => simp [intOf]; omega
    · have hk8 : k = 8 := by omega
      subst hk8
      have v0 : lv (fun j => if j < 8 then dgN (A + B) j else dgN A j) 0 = lo (addN A B) := (lv_congr _ (dgN (A + B)) (fun i hi => if_pos (by omega))).trans (val_lo _)
      have v1 : lv (up (fun j => if j < 8 then dgN (A + B) j else dgN A j)) 0 = hi (addN A B) := (lv_congr _ (up (dgN (A + B))) (fun i hi => if_pos (by omega))).trans (val_hi _)
      have v2 := cy_eight A B A0 A1 B0 B1
      go_wp2_with fail
      refine (value_any _ _ _ _ y1 (fun i hi => mix_bd _ _ _ _)).mono ?_
      rintro e w5 ⟨rfl, hb5⟩
      rw [v0, v1]
      have z5 := hb5.size
      have zB := hB.size
      have p0 : w5.cell? ⟨w.heap.size + 1 + 1, 0, none⟩ = some (.int .u64 0) := (hb5.cell (by simp at zB; show w.heap.size + 1 + 1 < _; omega)).trans ((hB.cell (by show w.heap.size + 1 + 1 < _; omega)).trans (World.cell?_alloc_at _ _ _ _ (by simp)))
      have p1 : w5.cell? ⟨w.heap.size + 1 + 1, 1, none⟩ = some (.int .u64 0) := (hb5.cell (by simp at zB; show w.heap.size + 1 + 1 < _; omega)).trans ((hB.cell (by show w.heap.size + 1 + 1 < _; omega)).trans (World.cell?_alloc_at _ _ _ _ (by simp)))
      have p2 : ∀ o, w5.frozen? ⟨w.heap.size + 1 + 1, o, none⟩ = false := fun o => (hb5.frozen (by simp at zB; show w.heap.size + 1 + 1 < _; omega)).trans ((hB.frozen (by show w.heap.size + 1 + 1 < _; omega)).trans (World.frozen?_alloc_at _ _ _ _ (by simp)))
      go_wp2
      refine bodyPost_ret (v := .tuple #[.agg #[.int .u64 (hi (addN A B)), .int .u64 (lo (addN A B))], .bool (overB A B)]) (by simp [results, Tryd.results30, go_sem, p0, p1]) rfl ⟨rfl, ?_⟩
      exact (((((Below.refl _ _).alloc (Nat.le_refl _) _).alloc (by simp) _).alloc (by simp; omega) _).trans (((hB.mono (by omega)).trans (hb5.mono (by simp at zB; omega))).setCell (by show _ ≤ w.heap.size + 1 + 1; omega) _)).setCell (by show _ ≤ w.heap.size + 1 + 1; omega) _
set_option maxHeartbeats 2000000 in
set_option maxRecDepth 1000000 in
theorem rsub_any (ah al bh bl : Int) (w : World) (ah0 : 0 ≤ ah) (ah1 : ah ≤ 18446744073709551615) (al0 : 0 ≤ al) (al1 : al ≤ 18446744073709551615) (bh0 : 0 ≤ bh) (bh1 : bh ≤ 18446744073709551615) (bl0 : 0 ≤ bl) (bl1 : bl ≤ 18446744073709551615) :
    Calls Tryd.prog 33 #[.agg #[.int .u64 ah, .int .u64 al], .agg #[.int .u64 bh, .int .u64 bl]] w fun e w' => e = .returned (.tuple #[.agg #[.int .u64 (hi (subN (num ah al) (num bh bl))), .int .u64 (lo (subN (num ah al) (num bh bl)))], .bool (underB (num ah al) (num bh bl))]) ∧ Below w.heap.size w w' := by
  have tok : True := trivial
  have A0 := num0 ah al ah0 al0
  have A1 := num1 ah al ah1 al1
  have B0 := num0 bh bl bh0 bl0
  have B1 := num1 bh bl bh1 bl1
  obtain ⟨A, hA⟩ : ∃ A, num ah al = A := ⟨_, rfl⟩
  obtain ⟨B, hBB⟩ : ∃ B, num bh bl = B := ⟨_, rfl⟩
  rw [hA] at A0 A1 ⊢
  rw [hBB] at B0 B1 ⊢
  have HA := Lib.hid hA; clear hA
  have HB := Lib.hid hBB; clear hBB
  go_enter Tryd.func33, Tryd.ntmps33
  go_wp2
  go_region_held3 (fun w' => w'.cell? ⟨w.heap.size, 0, none⟩ = some (.int .u64 ah) ∧ w'.cell? ⟨w.heap.size, 1, none⟩ = some (.int .u64 al) ∧ w'.cell? ⟨w.heap.size + 1, 0, none⟩ = some (.int .u64 bh) ∧ w'.cell? ⟨w.heap.size + 1, 1, none⟩ = some (.int .u64 bl)) (refine ⟨?_, ?_, ?_, ?_⟩ <;> simp [go_sem, *])
    ((go_at_call 34; refine (digits_row _ _ _ (by omega) (by omega) (by omega) (by omega)).mono ?_; (first
      | (clear tok; rintro e w1 ⟨g1, c1, rfl, hg1, r1, hb1⟩; obtain ⟨hc1, hf1⟩ := bcell hb1; have hz1 : w.heap.size + 2 < w1.heap.size := (by have := r1.lt; simp at *; omega); have hz2 : w.heap.size < w1.heap.size := (by omega); have hz3 : w.heap.size + 1 < w1.heap.size := (by omega))
      | (rintro e w2 ⟨g2, c2, rfl, hg2, r2, hb2⟩; obtain ⟨hc2, hf2⟩ := bcell hb2))))
  have q1 : w.heap.size + 3 ≤ g1 := by simp at hg1; omega
  have q2 : g1 < g2 := by have := r1.lt; omega
  have hB : Below (w.heap.size + 3) (((w.alloc (.cells #[.int .u64 ah, .int .u64 al] 53)).alloc (.cells #[.int .u64 bh, .int .u64 bl] 53)).alloc (.cells #[.int .u64 0, .int .u64 0] 53)) w2 := by
    have hs := hb1.size
    simp at hs
    exact (Below.drew (Below.refl _ _)).trans ((hb1.mono (by simp)).trans (hb2.mono (by omega)))
  have x1 : Row w2 g1 (dgN A) := (r1.below hb2 r1.lt).congr (fun i hi => by rw [← HA.out]; exact dg_num ah al i hi al0 al1)
  have x2 : Row w2 g2 (dgN B) := r2.congr (fun i hi => by rw [← HB.out]; exact dg_num bh bl i hi bl0 bl1)
  clear hg1 hg2 r1 r2 hb1 hb2 hc1 hf1 hc2 hf2 hz1 hz2 hz3
  go_wp2
  go_loopw [8, 9] (fun c i wr => ∃ k : Nat, k ≤ 8 ∧ i = .int .i64 k ∧ c = .int .i64 (bw A B k) ∧ Row wr g1 (fun j => if j < k then dgN (A - B) j else dgN A j) ∧ Row wr g2 (dgN B) ∧ Below (w.heap.size + 3) (((w.alloc (.cells #[.int .u64 ah, .int .u64 al] 53)).alloc (.cells #[.int .u64 bh, .int .u64 bl] 53)).alloc (.cells #[.int .u64 0, .int .u64 0] 53)) wr)
    (fun _ i _ => 8 - (intOf i).toNat)
  case atStart => exact ⟨0, Nat.zero_le _, rfl, by rw [bw_zero], x1.congr (fun i _ => by simp), x2, hB⟩
  case round =>
    clear x1 x2 hB
    obtain ⟨k, hk, rfl, rfl, y1, y2, hB⟩ := hrel
    by_cases hlt : k < 8
    · have m0 := y1.cell hlt
      simp only [Nat.lt_irrefl, if_false] at m0
      have m1 := y2.cell hlt
      have m2 := y1.frozen k
      have n0 := dgN0 A k
      have n1 := dgN1 A k
      have n2 := dgN0 B k
      have n3 := dgN1 B k
      have n4 := bw0 A B k
      have n5 := bw1 A B k
      by_cases hs : dgN A k - dgN B k - bw A B k < 0
      · have e1 : dgN A k - dgN B k - bw A B k + 65536 = dgN (A - B) k := by rw [bw_step A B k, if_pos hs]
        have e2 : bw A B (k + 1) = 1 := by rw [bw_next A B k, if_pos hs]
        have E2 := Lib.hid e2; clear e2
        go_wp2
        go_quiet (fail)
        go_wp2
        go_roundw
        case rel => exact ⟨k + 1, by omega, by go_num, by rw [E2.out], ((y1.drewN nq).set k _).congr (fun i hi => mix_step _ _ _ _), (y2.drewN nq).setOther (by show g2 ≠ g1; omega) _, (below_drewN hB nq).setCell (by show _ ≤ g1; omega) _⟩
        case measure => simp [intOf]; omega
      · have e1 : dgN A k - dgN B k - bw A B k = dgN (A - B) k := by rw [bw_step A B k, if_neg hs]
        have e2 : bw A B (k + 1) = 0 := by rw [bw_next A B k, if_neg hs]
        have E2 := Lib.hid e2; clear e2
        go_wp2
        go_quiet (fail)
        go_wp2
        go_roundw
        case rel => exact ⟨k + 1, by omega, by go_num, by rw [E2.out], ((y1.drewN nq).set k _).congr (fun i hi => mix_step _ _ _ _), (y2.drewN nq).setOther (by show g2 ≠ g1; omega) _, (below_drewN hB nq).setCell (by show _ ≤ g1; omega) _⟩
        case measure => simp [intOf]; omega
    · have hk8 : k = 8 := by omega
      subst hk8
      have v0 : lv (fun j => if j < 8 then dgN (A - B) j else dgN A j) 0 = lo (subN A B) := (lv_congr _ (dgN (A - B)) (fun i hi => if_pos (by omega))).trans (val_lo _)
      have v1 : lv (up (fun j => if j < 8 then dgN (A - B) j else dgN A j)) 0 = hi (subN A B) := (lv_congr _ (up (dgN (A - B))) (fun i hi => if_pos (by omega))).trans (val_hi _)
      have v2 := bw_eight A B A0 A1 B0 B1
      go_wp2_with fail
      refine (value_any _ _ _ _ y1 (fun i hi => mix_bd _ _ _ _)).mono ?_
      rintro e w5 ⟨rfl, hb5⟩
      rw [v0, v1]
      have z5 := hb5.size
      have zB := hB.size
      have p0 : w5.cell? ⟨w.heap.size + 1 + 1, 0, none⟩ = some (.int .u64 0) := (hb5.cell (by simp at zB; show w.heap.size + 1 + 1 < _; omega)).trans ((hB.cell (by show w.heap.size + 1 + 1 < _; omega)).trans (World.cell?_alloc_at _ _ _ _ (by simp)))
      have p1 : w5.cell? ⟨w.heap.size + 1 + 1, 1, none⟩ = some (.int .u64 0) := (hb5.cell (by simp at zB; show w.heap.size + 1 + 1 < _; omega)).trans ((hB.cell (by show w.heap.size + 1 + 1 < _; omega)).trans (World.cell?_alloc_at _ _ _ _ (by simp)))
      have p2 : ∀ o, w5.frozen? ⟨w.heap.size + 1 + 1, o, none⟩ = false := fun o => (hb5.frozen (by simp at zB; show w.heap.size + 1 + 1 < _; omega)).trans ((hB.frozen (by show w.heap.size + 1 + 1 < _; omega)).trans (World.frozen?_alloc_at _ _ _ _ (by simp)))
      go_wp2
      refine bodyPost_ret (v := .tuple #[.agg #[.int .u64 (hi (subN A B)), .int .u64 (lo (subN A B))], .bool (underB A B)]) (by simp [results, Tryd.results33, go_sem, p0, p1]) rfl ⟨rfl, ?_⟩
      exact (((((Below.refl _ _).alloc (Nat.le_refl _) _).alloc (by simp) _).alloc (by simp; omega) _).trans (((hB.mono (by omega)).trans (hb5.mono (by simp at zB; omega))).setCell (by show _ ≤ w.heap.size + 1 + 1; omega) _)).setCell (by show _ ≤ w.heap.size + 1 + 1; omega) _
set_option maxHeartbeats 400000 in
theorem rless_any (ah al bh bl : Int) (w : World) (ah0 : 0 ≤ ah) (ah1 : ah ≤ 18446744073709551615) (al0 : 0 ≤ al) (al1 : al ≤ 18446744073709551615) (bh0 : 0 ≤ bh) (bh1 : bh ≤ 18446744073709551615) (bl0 : 0 ≤ bl) (bl1 : bl ≤ 18446744073709551615) :
    Calls Tryd.prog 32 #[.agg #[.int .u64 ah, .int .u64 al], .agg #[.int .u64 bh, .int .u64 bl]] w fun e w' => e = .returned (.bool (underB (num ah al) (num bh bl))) ∧ Below w.heap.size w w' := by
  by_cases h1 : ah < bh
  · have h2 : ¬ ah = bh := by omega
    have H : underB (num ah al) (num bh bl) = true := by unfold underB num; simp; omega
    rw [H]; clear H
    go_enter Tryd.func32, Tryd.ntmps32
    go_wp2
    go_ret
    exact ⟨rfl, ((Below.refl _ _).alloc (Nat.le_refl _) _).alloc (by simp) _⟩
  · by_cases h2 : ah = bh
    · subst h2
      by_cases h4 : al < bl
      · have H : underB (num ah al) (num ah bl) = true := by unfold underB num; simp; omega
        rw [H]; clear H
        go_enter Tryd.func32, Tryd.ntmps32
        go_wp2
        go_ret
        exact ⟨rfl, ((Below.refl _ _).alloc (Nat.le_refl _) _).alloc (by simp) _⟩
      · have H : underB (num ah al) (num ah bl) = false := by unfold underB num; simp; omega
        rw [H]; clear H
        go_enter Tryd.func32, Tryd.ntmps32
        go_wp2
        go_ret
        exact ⟨rfl, ((Below.refl _ _).alloc (Nat.le_refl _) _).alloc (by simp) _⟩
    · have H : underB (num ah al) (num bh bl) = false := by unfold underB num; simp; omega
      rw [H]; clear H
      go_enter Tryd.func32, Tryd.ntmps32
      go_wp2
      go_ret
      exact ⟨rfl, ((Below.refl _ _).alloc (Nat.le_refl _) _).alloc (by simp) _⟩
end Go.Proofs.YtgocnliapkokbaaDoor
