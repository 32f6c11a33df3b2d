/- Texts of this claim, one behind the other: Refc Refh Refo Roota Rootb. -/
import Derived.Test.YtcffeokbipjaoaaGreatMtaa
import Derived.Test.YtcffeokbipjaoaaGreatMtas
import Derived.Test.YtcffeokbipjaoaaGreatMtat
namespace Go.Proofs.YtcffeokbipjaoaaGreat
open Go.ChangeShapes Go.WideShapes Go.ChangeAt Go.RowKit Kn
set_option linter.unusedVariables false
theorem Row.drewN {w : World} {g : Nat} {f : Nat → Int} (h : Row w g f) (n : Nat) : Row (w.drewN n) g f := h
theorem mix_step (x y : Int) (k i : Nat) : (if i = k then dgN x k else if i < k then dgN x i else dgN y i) = if i < k + 1 then dgN x i else dgN y i := by
 by_cases h : i = k
 · subst h; rw [if_pos rfl, if_pos (by omega)]
 · rw [if_neg h]
   by_cases h2 : i < k
   · rw [if_pos h2, if_pos (by omega)]
   · rw [if_neg h2, if_neg (by omega)]
theorem mix_bd (x y : Int) (k i : Nat) : 0 ≤ (if i < k then dgN x i else dgN y i) ∧ (if i < k then dgN x i else dgN y i) ≤ 65535 := by
 split <;> exact ⟨dgN0 _ _, dgN1 _ _⟩
set_option maxHeartbeats 2000000 in
set_option maxRecDepth 1000000 in
theorem radd_any (ah al bh bl : Int) (w : World) (ah0 : 0 ≤ ah) (ah1 : ah ≤ 18446744073709551615) (al0 : 0 ≤ al) (al1 : al ≤ 18446744073709551615) (bh0 : 0 ≤ bh) (bh1 : bh ≤ 18446744073709551615) (bl0 : 0 ≤ bl) (bl1 : bl ≤ 18446744073709551615) :
   Calls Tryz.prog 40 #[.agg #[.int .u64 ah, .int .u64 al], .agg #[.int .u64 bh, .int .u64 bl]] w fun e w' => e = .returned (.tuple #[.agg #[.int .u64 (hi (addN (num ah al) (num bh bl))), .int .u64 (lo (addN (num ah al) (num bh bl)))], .bool (overB (num ah al) (num bh bl))]) ∧ Below w.heap.size w w' := by
 have tok : True := trivial
 have A0 := num0 ah al ah0 al0
 have A1 := num1 ah al ah1 al1
 have B0 := num0 bh bl bh0 bl0
 have B1 := num1 bh bl bh1 bl1
 obtain ⟨A, hA⟩ : ∃ A, num ah al = A := ⟨_, rfl⟩
 obtain ⟨B, hBB⟩ : ∃ B, num bh bl = B := ⟨_, rfl⟩
 rw [hA] at A0 A1 ⊢
 rw [hBB] at B0 B1 ⊢
 have HA := Lib.hid hA; clear hA
 have HB := Lib.hid hBB; clear hBB
 go_enter Tryz.func40, Tryz.ntmps40
 go_wp2
 go_region_held3 (fun w' => w'.cell? ⟨w.heap.size, 0, none⟩ = some (.int .u64 ah) ∧ w'.cell? ⟨w.heap.size, 1, none⟩ = some (.int .u64 al) ∧ w'.cell? ⟨w.heap.size + 1, 0, none⟩ = some (.int .u64 bh) ∧ w'.cell? ⟨w.heap.size + 1, 1, none⟩ = some (.int .u64 bl)) (refine ⟨?_, ?_, ?_, ?_⟩ <;> simp [go_sem, *])
   ((go_at_call 78; refine (digits_row _ _ _ (by omega) (by omega) (by omega) (by omega)).mono ?_; (first
     | (clear tok; rintro e w1 ⟨g1, c1, rfl, hg1, r1, hb1⟩; obtain ⟨hc1, hf1⟩ := bcell hb1; have hz1 : w.heap.size + 2 < w1.heap.size := (by have := r1.lt; simp at *; omega); have hz2 : w.heap.size < w1.heap.size := (by omega); have hz3 : w.heap.size + 1 < w1.heap.size := (by omega))
     | (rintro e w2 ⟨g2, c2, rfl, hg2, r2, hb2⟩; obtain ⟨hc2, hf2⟩ := bcell hb2))))
 have q1 : w.heap.size + 3 ≤ g1 := by simp at hg1; omega
 have q2 : g1 < g2 := by have := r1.lt; omega
 have hB : Below (w.heap.size + 3) (((w.alloc (.cells #[.int .u64 ah, .int .u64 al] 92)).alloc (.cells #[.int .u64 bh, .int .u64 bl] 92)).alloc (.cells #[.int .u64 0, .int .u64 0] 92)) w2 := by
   have hs := hb1.size
   simp at hs
   exact (Below.drew (Below.refl _ _)).trans ((hb1.mono (by simp)).trans (hb2.mono (by omega)))
 have x1 : Row w2 g1 (dgN A) := (r1.below hb2 r1.lt).congr (fun i hi => by rw [← HA.out]; exact dg_num ah al i hi al0 al1)
 have x2 : Row w2 g2 (dgN B) := r2.congr (fun i hi => by rw [← HB.out]; exact dg_num bh bl i hi bl0 bl1)
 clear hg1 hg2 r1 r2 hb1 hb2 hc1 hf1 hc2 hf2 hz1 hz2 hz3
 go_wp2
 go_loopw [8, 9] (fun c i wr => ∃ k : Nat, k ≤ 8 ∧ i = .int .i64 k ∧ c = .int .i64 (cy A B k) ∧ Row wr g1 (fun j => if j < k then dgN (A + B) j else dgN A j) ∧ Row wr g2 (dgN B) ∧ Below (w.heap.size + 3) (((w.alloc (.cells #[.int .u64 ah, .int .u64 al] 92)).alloc (.cells #[.int .u64 bh, .int .u64 bl] 92)).alloc (.cells #[.int .u64 0, .int .u64 0] 92)) wr)
   (fun _ i _ => 8 - (intOf i).toNat)
 case atStart => exact ⟨0, Nat.zero_le _, rfl, by rw [cy_zero], x1.congr (fun i _ => by simp), x2, hB⟩
 case round =>
   clear x1 x2 hB
   obtain ⟨k, hk, rfl, rfl, y1, y2, hB⟩ := hrel
   by_cases hlt : k < 8
   · have m0 := y1.cell hlt
     simp only [Nat.lt_irrefl, if_false] at m0
     have m1 := y2.cell hlt
     have m2 := y1.frozen k
     have n0 := dgN0 A k
     have n1 := dgN1 A k
     have n2 := dgN0 B k
     have n3 := dgN1 B k
     have n4 := cy0 A B k
     have n5 := cy1 A B k
     have e1 := cy_step A B k
     have e2 := cy_next A B k
     go_wp2
     go_quiet (fail)
     go_wp2
     go_roundw
     case rel => exact ⟨k + 1, by omega, by go_num, by rw [e2], ((y1.drewN nq).set k _).congr (fun i hi => mix_step _ _ _ _), (y2.drewN nq).setOther (by show g2 ≠ g1; omega) _, (below_drewN hB nq).setCell (by show _ ≤ g1; omega) _⟩
     case measure => simp [intOf]; omega
   · have hk8 : k = 8 := by omega
     subst hk8
     have v0 : lv (fun j => if j < 8 then dgN (A + B) j else dgN A j) 0 = lo (addN A B) := (lv_congr _ (dgN (A + B)) (fun i hi => if_pos (by omega))).trans (val_lo _)
     have v1 : lv (up (fun j => if j < 8 then dgN (A + B) j else dgN A j)) 0 = hi (addN A B) := (lv_congr _ (up (dgN (A + B))) (fun i hi => if_pos (by omega))).trans (val_hi _)
     have v2 := cy_eight A B A0 A1 B0 B1
     go_wp2_with fail
     refine (value_any _ _ _ _ y1 (fun i hi => mix_bd _ _ _ _)).mono ?_
     rintro e w5 ⟨rfl, hb5⟩
     rw [v0, v1]
     have z5 := hb5.size
     have zB := hB.size
     have p0 : w5.cell? ⟨w.heap.size + 1 + 1, 0, none⟩ = some (.int .u64 0) := (hb5.cell (by simp at zB; show w.heap.size + 1 + 1 < _; omega)).trans ((hB.cell (by show w.heap.size + 1 + 1 < _; omega)).trans (World.cell?_alloc_at _ _ _ _ (by simp)))
     have p1 : w5.cell? ⟨w.heap.size + 1 + 1, 1, none⟩ = some (.int .u64 0) := (hb5.cell (by simp at zB; show w.heap.size + 1 + 1 < _; omega)).trans ((hB.cell (by show w.heap.size + 1 + 1 < _; omega)).trans (World.cell?_alloc_at _ _ _ _ (by simp)))
     have p2 : ∀ o, w5.frozen? ⟨w.heap.size + 1 + 1, o, none⟩ = false := fun o => (hb5.frozen (by simp at zB; show w.heap.size + 1 + 1 < _; omega)).trans ((hB.frozen (by show w.heap.size + 1 + 1 < _; omega)).trans (World.frozen?_alloc_at _ _ _ _ (by simp)))
     go_wp2
     refine bodyPost_ret (v := .tuple #[.agg #[.int .u64 (hi (addN A B)), .int .u64 (lo (addN A B))], .bool (overB A B)]) (by simp [results, Tryz.results40, go_sem, p0, p1]) rfl ⟨rfl, ?_⟩
     exact (((((Below.refl _ _).alloc (Nat.le_refl _) _).alloc (by simp) _).alloc (by simp; omega) _).trans (((hB.mono (by omega)).trans (hb5.mono (by simp at zB; omega))).setCell (by show _ ≤ w.heap.size + 1 + 1; omega) _)).setCell (by show _ ≤ w.heap.size + 1 + 1; omega) _
set_option maxHeartbeats 2000000 in
set_option maxRecDepth 1000000 in
theorem rsub_any (ah al bh bl : Int) (w : World) (ah0 : 0 ≤ ah) (ah1 : ah ≤ 18446744073709551615) (al0 : 0 ≤ al) (al1 : al ≤ 18446744073709551615) (bh0 : 0 ≤ bh) (bh1 : bh ≤ 18446744073709551615) (bl0 : 0 ≤ bl) (bl1 : bl ≤ 18446744073709551615) :
   Calls Tryz.prog 43 #[.agg #[.int .u64 ah, .int .u64 al], .agg #[.int .u64 bh, .int .u64 bl]] w fun e w' => e = .returned (.tuple #[.agg #[.int .u64 (hi (subN (num ah al) (num bh bl))), .int .u64 (lo (subN (num ah al) (num bh bl)))], .bool (underB (num ah al) (num bh bl))]) ∧ Below w.heap.size w w' := by
 have tok : True := trivial
 have A0 := num0 ah al ah0 al0
 have A1 := num1 ah al ah1 al1
 have B0 := num0 bh bl bh0 bl0
 have B1 := num1 bh bl bh1 bl1
 obtain ⟨A, hA⟩ : ∃ A, num ah al = A := ⟨_, rfl⟩
 obtain ⟨B, hBB⟩ : ∃ B, num bh bl = B := ⟨_, rfl⟩
 rw [hA] at A0 A1 ⊢
 rw [hBB] at B0 B1 ⊢
 have HA := Lib.hid hA; clear hA
 have HB := Lib.hid hBB; clear hBB
 go_enter Tryz.func43, Tryz.ntmps43
 go_wp2
 go_region_held3 (fun w' => w'.cell? ⟨w.heap.size, 0, none⟩ = some (.int .u64 ah) ∧ w'.cell? ⟨w.heap.size, 1, none⟩ = some (.int .u64 al) ∧ w'.cell? ⟨w.heap.size + 1, 0, none⟩ = some (.int .u64 bh) ∧ w'.cell? ⟨w.heap.size + 1, 1, none⟩ = some (.int .u64 bl)) (refine ⟨?_, ?_, ?_, ?_⟩ <;> simp [go_sem, *])
   ((go_at_call 78; refine (digits_row _ _ _ (by omega) (by omega) (by omega) (by omega)).mono ?_; (first
     | (clear tok; rintro e w1 ⟨g1, c1, rfl, hg1, r1, hb1⟩; obtain ⟨hc1, hf1⟩ := bcell hb1; have hz1 : w.heap.size + 2 < w1.heap.size := (by have := r1.lt; simp at *; omega); have hz2 : w.heap.size < w1.heap.size := (by omega); have hz3 : w.heap.size + 1 < w1.heap.size := (by omega))
     | (rintro e w2 ⟨g2, c2, rfl, hg2, r2, hb2⟩; obtain ⟨hc2, hf2⟩ := bcell hb2))))
 have q1 : w.heap.size + 3 ≤ g1 := by simp at hg1; omega
 have q2 : g1 < g2 := by have := r1.lt; omega
 have hB : Below (w.heap.size + 3) (((w.alloc (.cells #[.int .u64 ah, .int .u64 al] 92)).alloc (.cells #[.int .u64 bh, .int .u64 bl] 92)).alloc (.cells #[.int .u64 0, .int .u64 0] 92)) w2 := by
   have hs := hb1.size
   simp at hs
   exact (Below.drew (Below.refl _ _)).trans ((hb1.mono (by simp)).trans (hb2.mono (by omega)))
 have x1 : Row w2 g1 (dgN A) := (r1.below hb2 r1.lt).congr (fun i hi => by rw [← HA.out]; exact dg_num ah al i hi al0 al1)
 have x2 : Row w2 g2 (dgN B) := r2.congr (fun i hi => by rw [← HB.out]; exact dg_num bh bl i hi bl0 bl1)
 clear hg1 hg2 r1 r2 hb1 hb2 hc1 hf1 hc2 hf2 hz1 hz2 hz3
 go_wp2
 go_loopw [8, 9] (fun c i wr => ∃ k : Nat, k ≤ 8 ∧ i = .int .i64 k ∧ c = .int .i64 (bw A B k) ∧ Row wr g1 (fun j => if j < k then dgN (A - B) j else dgN A j) ∧ Row wr g2 (dgN B) ∧ Below (w.heap.size + 3) (((w.alloc (.cells #[.int .u64 ah, .int .u64 al] 92)).alloc (.cells #[.int .u64 bh, .int .u64 bl] 92)).alloc (.cells #[.int .u64 0, .int .u64 0] 92)) wr)
   (fun _ i _ => 8 - (intOf i).toNat)
 case atStart => exact ⟨0, Nat.zero_le _, rfl, by rw [bw_zero], x1.congr (fun i _ => by simp), x2, hB⟩
 case round =>
   clear x1 x2 hB
   obtain ⟨k, hk, rfl, rfl, y1, y2, hB⟩ := hrel
   by_cases hlt : k < 8
   · have m0 := y1.cell hlt
     simp only [Nat.lt_irrefl, if_false] at m0
     have m1 := y2.cell hlt
     have m2 := y1.frozen k
     have n0 := dgN0 A k
     have n1 := dgN1 A k
     have n2 := dgN0 B k
     have n3 := dgN1 B k
     have n4 := bw0 A B k
     have n5 := bw1 A B k
     by_cases hs : dgN A k - dgN B k - bw A B k < 0
     · have e1 : dgN A k - dgN B k - bw A B k + 65536 = dgN (A - B) k := by rw [bw_step A B k, if_pos hs]
       have e2 : bw A B (k + 1) = 1 := by rw [bw_next A B k, if_pos hs]
       have E2 := Lib.hid e2; clear e2
       go_wp2
       go_quiet (fail)
       go_wp2
       go_roundw
       case rel => exact ⟨k + 1, by omega, by go_num, by rw [E2.out], ((y1.drewN nq).set k _).congr (fun i hi => mix_step _ _ _ _), (y2.drewN nq).setOther (by show g2 ≠ g1; omega) _, (below_drewN hB nq).setCell (by show _ ≤ g1; omega) _⟩
       case measure => simp [intOf]; omega
     · have e1 : dgN A k - dgN B k - bw A B k = dgN (A - B) k := by rw [bw_step A B k, if_neg hs]
       have e2 : bw A B (k + 1) = 0 := by rw [bw_next A B k, if_neg hs]
       have E2 := Lib.hid e2; clear e2
       go_wp2
       go_quiet (fail)
       go_wp2
       go_roundw
       case rel => exact ⟨k + 1, by omega, by go_num, by rw [E2.out], ((y1.drewN nq).set k _).congr (fun i hi => mix_step _ _ _ _), (y2.drewN nq).setOther (by show g2 ≠ g1; omega) _, (below_drewN hB nq).setCell (by show _ ≤ g1; omega) _⟩
       case measure => simp [intOf]; omega
   · have hk8 : k = 8 := by omega
     subst hk8
     have v0 : lv (fun j => if j < 8 then dgN (A - B) j else dgN A j) 0 = lo (subN A B) := (lv_congr _ (dgN (A - B)) (fun i hi => if_pos (by omega))).trans (val_lo _)
     have v1 : lv (up (fun j => if j < 8 then dgN (A - B) j else dgN A j)) 0 = hi (subN A B) := (lv_congr _ (up (dgN (A - B))) (fun i hi => if_pos (by omega))).trans (val_hi _)
     have v2 := bw_eight A B A0 A1 B0 B1
     go_wp2_with fail
     refine (value_any _ _ _ _ y1 (fun i hi => mix_bd _ _ _ _)).mono ?_
     rintro e w5 ⟨rfl, hb5⟩
     rw [v0, v1]
     have z5 := hb5.size
     have zB := hB.size
     have p0 : w5.cell? ⟨w.heap.size + 1 + 1, 0, none⟩ = some (.int .u64 0) := (hb5.cell (by simp at zB; show w.heap.size + 1 + 1 < _; omega)).trans ((hB.cell (by show w.heap.size + 1 + 1 < _; omega)).trans (World.cell?_alloc_at _ _ _ _ (by simp)))
     have p1 : w5.cell? ⟨w.heap.size + 1 + 1, 1, none⟩ = some (.int .u64 0) := (hb5.cell (by simp at zB; show w.heap.size + 1 + 1 < _; omega)).trans ((hB.cell (by show w.heap.size + 1 + 1 < _; omega)).trans (World.cell?_alloc_at _ _ _ _ (by simp)))
     have p2 : ∀ o, w5.frozen? ⟨w.heap.size + 1 + 1, o, none⟩ = false := fun o => (hb5.frozen (by simp at zB; show w.heap.size + 1 + 1 < _; omega)).trans ((hB.frozen (by show w.heap.size + 1 + 1 < _; omega)).trans (World.frozen?_alloc_at _ _ _ _ (by simp)))
     go_wp2
     refine bodyPost_ret (v := .tuple #[.agg #[.int .u64 (hi (subN A B)), .int .u64 (lo (subN A B))], .bool (underB A B)]) (by simp [results, Tryz.results43, go_sem, p0, p1]) rfl ⟨rfl, ?_⟩
     exact (((((Below.refl _ _).alloc (Nat.le_refl _) _).alloc (by simp) _).alloc (by simp; omega) _).trans (((hB.mono (by omega)).trans (hb5.mono (by simp at zB; omega))).setCell (by show _ ≤ w.heap.size + 1 + 1; omega) _)).setCell (by show _ ≤ w.heap.size + 1 + 1; omega) _
set_option maxHeartbeats 400000 in
theorem rless_any (ah al bh bl : Int) (w : World) (ah0 : 0 ≤ ah) (ah1 : ah ≤ 18446744073709551615) (al0 : 0 ≤ al) (al1 : al ≤ 18446744073709551615) (bh0 : 0 ≤ bh) (bh1 : bh ≤ 18446744073709551615) (bl0 : 0 ≤ bl) (bl1 : bl ≤ 18446744073709551615) :
   Calls Tryz.prog 42 #[.agg #[.int .u64 ah, .int .u64 al], .agg #[.int .u64 bh, .int .u64 bl]] w fun e w' => e = .returned (.bool (underB (num ah al) (num bh bl))) ∧ Below w.heap.size w w' := by
 by_cases h1 : ah < bh
 · have h2 : ¬ ah = bh := by omega
   have H : underB (num ah al) (num bh bl) = true := by unfold underB num; simp; omega
   rw [H]; clear H
   go_enter Tryz.func42, Tryz.ntmps42
   go_wp2
   go_ret
   exact ⟨rfl, ((Below.refl _ _).alloc (Nat.le_refl _) _).alloc (by simp) _⟩
 · by_cases h2 : ah = bh
   · subst h2
     by_cases h4 : al < bl
     · have H : underB (num ah al) (num ah bl) = true := by unfold underB num; simp; omega
       rw [H]; clear H
       go_enter Tryz.func42, Tryz.ntmps42
       go_wp2
       go_ret
       exact ⟨rfl, ((Below.refl _ _).alloc (Nat.le_refl _) _).alloc (by simp) _⟩
     · have H : underB (num ah al) (num ah bl) = false := by unfold underB num; simp; omega
       rw [H]; clear H
       go_enter Tryz.func42, Tryz.ntmps42
       go_wp2
       go_ret
       exact ⟨rfl, ((Below.refl _ _).alloc (Nat.le_refl _) _).alloc (by simp) _⟩
   · have H : underB (num ah al) (num bh bl) = false := by unfold underB num; simp; omega
     rw [H]; clear H
     go_enter Tryz.func42, Tryz.ntmps42
     go_wp2
     go_ret
     exact ⟨rfl, ((Below.refl _ _).alloc (Nat.le_refl _) _).alloc (by simp) _⟩
end Go.Proofs.YtcffeokbipjaoaaGreat
namespace Go.Proofs.YtcffeokbipjaoaaGreat
open Go.ChangeShapes Go.WideShapes Go.ChangeAt Go.RowKit Kn
set_option linter.unusedVariables false
def bitN (n : Int) (i : Nat) : Int := n / 2 ^ i % 2
end Go.Proofs.YtcffeokbipjaoaaGreat
namespace Go.Proofs.YtcffeokbipjaoaaGreat
open Go.ChangeShapes Go.WideShapes Go.ChangeAt Go.RowKit Kn
set_option linter.unusedVariables false
def nb (n : Int) : Nat → Nat
 | 0 => 0
 | k + 1 => if bitN n k = 1 then k + 1 else nb n k
theorem nb_le (n : Int) (k : Nat) : nb n k ≤ k := by
 induction k with
 | zero => exact Nat.le_refl _
 | succ k ih => unfold nb; split <;> omega
theorem mod2_succ (n : Int) (k : Nat) : n % 2 ^ (k + 1) = bitN n k * 2 ^ k + n % 2 ^ k := by
 have p : (0 : Int) < 2 ^ k := Int.pow_pos (by decide)
 have e := Int.mul_ediv_add_emod n (2 ^ k)
 have e2 := Int.mul_ediv_add_emod n (2 ^ (k + 1))
 have e3 := Int.mul_ediv_add_emod (n / 2 ^ k) 2
 have e4 : n / 2 ^ (k + 1) = n / 2 ^ k / 2 := by rw [Int.pow_succ, Int.ediv_ediv_of_nonneg (Int.le_of_lt p)]
 rw [e4, Int.pow_succ] at e2
 unfold bitN
 rw [Int.pow_succ]
 have e5 : 2 ^ k * (2 * (n / 2 ^ k / 2) + n / 2 ^ k % 2) = 2 ^ k * (n / 2 ^ k) := by rw [e3]
 rw [Int.mul_add, ← Int.mul_assoc] at e5
 rw [Int.mul_comm (n / 2 ^ k % 2)]
 omega
theorem pow2_mono (i j : Nat) (h : i ≤ j) : (2 : Int) ^ i ≤ 2 ^ j := by
 rw [show j = i + (j - i) by omega, Int.pow_add]
 have p : (0 : Int) < 2 ^ i := Int.pow_pos (by decide)
 have q : (0 : Int) < 2 ^ (j - i) := Int.pow_pos (by decide)
 have := Int.mul_le_mul_of_nonneg_left (show (1 : Int) ≤ 2 ^ (j - i) by omega) (Int.le_of_lt p)
 omega
theorem nb_spec (n : Int) (k : Nat) : n % 2 ^ k < 2 ^ nb n k ∧ (0 < nb n k → 2 ^ (nb n k - 1) ≤ n % 2 ^ k) := by
 induction k with
 | zero => exact ⟨by rw [show (2 : Int) ^ 0 = 1 from rfl, Int.emod_one]; show (0 : Int) < 1; decide, fun h => absurd h (Nat.lt_irrefl 0)⟩
 | succ k ih =>
   have p : (0 : Int) < 2 ^ k := Int.pow_pos (by decide)
   have m0 := Int.emod_nonneg n (Int.ne_of_gt p)
   have m1 := Int.emod_lt_of_pos n p
   rw [mod2_succ]
   unfold nb
   by_cases hb : bitN n k = 1
   · rw [if_pos hb, hb]
     exact ⟨by rw [Int.pow_succ]; omega, fun _ => by rw [Nat.add_sub_cancel]; omega⟩
   · have h0 : bitN n k = 0 := by unfold bitN at *; omega
     rw [if_neg hb, h0]
     exact ⟨by omega, fun h => by have := ih.2 h; omega⟩
theorem bits_unique (x : Int) (a b : Nat) (a1 : x < 2 ^ a) (a0 : 0 < a → 2 ^ (a - 1) ≤ x) (b1 : x < 2 ^ b) (b0 : 0 < b → 2 ^ (b - 1) ≤ x) (hx : 0 ≤ x) : a = b := by
 rcases Nat.lt_trichotomy a b with h | h | h
 · have := pow2_mono a (b - 1) (by omega)
   have := b0 (by omega)
   omega
 · exact h
 · have := pow2_mono b (a - 1) (by omega)
   have := a0 (by omega)
   omega
theorem bitLen_spec (x : Int) (x0 : 0 ≤ x) (x1 : x ≤ 18446744073709551615) : x < 2 ^ Lib.bitLen x.toNat ∧ (0 < Lib.bitLen x.toNat → 2 ^ (Lib.bitLen x.toNat - 1) ≤ x) := by
 obtain ⟨m, rfl⟩ := Int.eq_ofNat_of_zero_le x0
 rw [Int.toNat_natCast]
 by_cases hm : m = 0
 · subst hm
   exact ⟨by show (0 : Int) < 1; decide, fun h => absurd h (by decide)⟩
 · obtain ⟨a, b, c⟩ := Lib.bitLenAux_bounds 64 m (by omega) hm
   exact ⟨by have := Int.ofNat_lt.2 c; simpa [Lib.bitLen] using this, fun _ => by have := Int.ofNat_le.2 b; simpa [Lib.bitLen] using this⟩
theorem nb_bits (h l : Int) (h0 : 0 ≤ h) (h1 : h ≤ 18446744073709551615) (l0 : 0 ≤ l) (l1 : l ≤ 18446744073709551615) : (nb (num h l) 128 : Int) = bitsN h l := by
 have N0 := num0 h l h0 l0
 have N1 := num1 h l h1 l1
 obtain ⟨a1, a0⟩ := nb_spec (num h l) 128
 rw [show (2 : Int) ^ 128 = 340282366920938463463374607431768211456 from rfl, Int.emod_eq_of_lt N0 N1] at a1 a0
 unfold bitsN
 by_cases hz : h = 0
 · subst hz
   have e : num 0 l = l := by unfold num; omega
   rw [if_pos rfl]
   rw [e] at a1 a0 ⊢
   obtain ⟨b1, b0⟩ := bitLen_spec l l0 l1
   rw [bits_unique l _ _ a1 a0 b1 b0 l0]
 · obtain ⟨b1, b0⟩ := bitLen_spec h h0 h1
   have hp : 0 < Lib.bitLen h.toNat := by
     rcases Nat.eq_zero_or_pos (Lib.bitLen h.toNat) with e | e
     · rw [e] at b1; have : h < 1 := b1; omega
     · exact e
   have b2 := b0 hp
   rw [if_neg hz, bits_unique (num h l) (nb (num h l) 128) (64 + Lib.bitLen h.toNat) a1 a0 ?_ ?_ N0]
   · omega
   · rw [Int.pow_add, show (2 : Int) ^ 64 = 18446744073709551616 from rfl]; unfold num; omega
   · intro _
     rw [show 64 + Lib.bitLen h.toNat - 1 = 64 + (Lib.bitLen h.toNat - 1) by omega, Int.pow_add, show (2 : Int) ^ 64 = 18446744073709551616 from rfl]; unfold num; omega
end Go.Proofs.YtcffeokbipjaoaaGreat
namespace Go.Proofs.YtcffeokbipjaoaaGreat.Kn
def rootF : Nat → Nat
 | 0 => 0
 | n + 1 => if (rootF n + 1) * (rootF n + 1) ≤ n + 1 then rootF n + 1 else rootF n
theorem rootF_le (n : Nat) : rootF n * rootF n ≤ n := by
 induction n with
 | zero => exact Nat.le_refl _
 | succ n ih =>
   unfold rootF
   by_cases h : (rootF n + 1) * (rootF n + 1) ≤ n + 1
   · rw [if_pos h]; exact h
   · rw [if_neg h]; omega
theorem rootF_lt (n : Nat) : n < (rootF n + 1) * (rootF n + 1) := by
 induction n with
 | zero => exact Nat.mul_pos (Nat.succ_pos _) (Nat.succ_pos _)
 | succ n ih =>
   unfold rootF
   by_cases h : (rootF n + 1) * (rootF n + 1) ≤ n + 1
   · rw [if_pos h]
     have : (rootF n + 1 + 1) * (rootF n + 1 + 1) = (rootF n + 1) * (rootF n + 1) + (rootF n + 1) + (rootF n + 1) + 1 := by
       rw [Nat.add_mul, Nat.mul_add]; omega
     omega
   · rw [if_neg h]; omega
def rootN (n : Int) : Int := (rootF n.toNat : Int)
theorem root0 (n : Int) : 0 ≤ rootN n := by unfold rootN; omega
theorem root_le (n : Int) (h : 0 ≤ n) : rootN n * rootN n ≤ n := by
 have := rootF_le n.toNat
 have e : (rootF n.toNat : Int) * (rootF n.toNat : Int) ≤ (n.toNat : Int) := by exact_mod_cast this
 unfold rootN
 omega
theorem root_lt (n : Int) (h : 0 ≤ n) : n < (rootN n + 1) * (rootN n + 1) := by
 have := rootF_lt n.toNat
 have e : (n.toNat : Int) < ((rootF n.toNat : Int) + 1) * ((rootF n.toNat : Int) + 1) := by exact_mod_cast this
 unfold rootN
 omega
theorem sq_mono (a b : Int) (h0 : 0 ≤ a) (h : a ≤ b) : a * a ≤ b * b := Int.mul_le_mul h h h0 (by omega)
theorem sq_lt (a b : Int) (h0 : 0 ≤ b) (h : a * a < b * b) : a < b := by
 by_cases c : a < b
 · exact c
 · have := sq_mono b a h0 (by omega); omega
theorem root_unique (n r : Int) (h0 : 0 ≤ r) (h1 : r * r ≤ n) (h2 : n < (r + 1) * (r + 1)) : rootN n = r := by
 have n0 : 0 ≤ n := by have := Int.mul_nonneg h0 h0; omega
 have a := root_le n n0
 have b := root_lt n n0
 have c := root0 n
 have x := sq_lt (rootN n) (r + 1) (by omega) (by omega)
 have y := sq_lt r (rootN n + 1) (by omega) (by omega)
 omega
theorem root_up (n k : Int) (n0 : 0 ≤ n) (k0 : 0 ≤ k) (h : n < (k + 1) * (k + 1)) : rootN n ≤ k := by
 have a := root_le n n0
 have := sq_lt (rootN n) (k + 1) (by omega) (by omega)
 omega
theorem root_step (n r p : Int) (h1 : r * r ≤ n) (h2 : n < (r + 2 * p) * (r + 2 * p)) :
   ((r + p) * (r + p) ≤ n → (r + p) * (r + p) ≤ n ∧ n < (r + p + p) * (r + p + p)) ∧ (¬ (r + p) * (r + p) ≤ n → r * r ≤ n ∧ n < (r + p) * (r + p)) := by
 have e : r + p + p = r + 2 * p := by omega
 rw [e]
 exact ⟨fun h => ⟨h, h2⟩, fun h => ⟨h1, by omega⟩⟩
def lawN (i n : Int) : Int := rootN (i * i / max n 1)
theorem law0 (i n : Int) : 0 ≤ lawN i n := root0 _
theorem law_q0 (i n : Int) : 0 ≤ i * i / max n 1 := Int.ediv_nonneg (by by_cases h : 0 ≤ i; exact Int.mul_nonneg h h; exact Int.le_of_lt (Int.mul_pos_of_neg_of_neg (by omega) (by omega))) (by omega)
theorem law_le (i n : Int) (h : 0 ≤ i) : lawN i n ≤ i := by
 unfold lawN
 refine root_up _ _ (law_q0 i n) h ?_
 have a : i * i / max n 1 ≤ i * i := Int.ediv_le_self _ (Int.mul_nonneg h h)
 have b : (i + 1) * (i + 1) = i * i + i + i + 1 := by rw [Int.add_mul, Int.mul_add]; omega
 omega
end Go.Proofs.YtcffeokbipjaoaaGreat.Kn
namespace Go.Proofs.YtcffeokbipjaoaaGreat
open Go.ChangeShapes Go.WideShapes Go.ChangeAt Go.RowKit Kn
set_option linter.unusedVariables false
theorem pow_two_succ (k : Nat) (h : 0 < k) : (2 : Int) ^ k = 2 * 2 ^ (k - 1) := by
 obtain ⟨j, rfl⟩ : ∃ j, k = j + 1 := ⟨k - 1, by omega⟩
 rw [Int.pow_succ, Int.mul_comm]; rfl
theorem bits_half (h l : Int) (h0 : 0 ≤ h) (h1 : h ≤ 18446744073709551615) (l0 : 0 ≤ l) (l1 : l ≤ 18446744073709551615) :
   ∃ k : Nat, k ≤ 64 ∧ (bitsN h l + 1) / 2 = k ∧ num h l < 2 ^ k * 2 ^ k := by
 have e := nb_bits h l h0 h1 l0 l1
 have le := nb_le (num h l) 128
 have sp := (nb_spec (num h l) 128).1
 have n0 := num0 h l h0 l0
 have n1 := num1 h l h1 l1
 rw [show (2 : Int) ^ 128 = 340282366920938463463374607431768211456 from rfl, Int.emod_eq_of_lt n0 n1] at sp
 refine ⟨(nb (num h l) 128 + 1) / 2, by omega, by omega, ?_⟩
 have := pow2_mono (nb (num h l) 128) ((nb (num h l) 128 + 1) / 2 + (nb (num h l) 128 + 1) / 2) (by omega)
 rw [← Int.pow_add]
 omega
theorem or_bit (r : Int) (k : Nat) (hk : 0 < k) (k64 : k ≤ 64) (r0 : 0 ≤ r) (hm : r % 2 ^ k = 0) (hr : r + 2 ^ k ≤ 18446744073709551616) :
   bits .or .u64 r (2 ^ (k - 1)) = r + 2 ^ (k - 1) := by
 have p : (0 : Int) < 2 ^ (k - 1) := Int.pow_pos (by decide)
 have e := pow_two_succ k hk
 exact bits_join .u64 64 (by decide) wraps64 k _ _ r0 hm (by omega) (by omega) (by omega) (by omega)
set_option maxHeartbeats 1000000 in
theorem rtwide_any (h l : Int) (w : World) (h0 : 0 ≤ h) (h1 : h ≤ 18446744073709551615) (l0 : 0 ≤ l) (l1 : l ≤ 18446744073709551615) :
   Calls Tryz.prog 254 #[.agg #[.int .u64 h, .int .u64 l]] w fun e w' => e = .returned (.int .u64 (rootN (num h l))) ∧ Below w.heap.size w w' := by
 obtain ⟨K, hK, eK, hN⟩ := bits_half h l h0 h1 l0 l1
 have N0 := num0 h l h0 l0
 have hb0 : 0 ≤ bitsN h l := by unfold bitsN; split <;> omega
 have e4 : wrap64 ((wrap64 (bitsN h l + 1)).tdiv 2) = (K : Int) := by
   have hu : bitsN h l ≤ 128 := by omega
   have e : wrap64 (bitsN h l + 1) = bitsN h l + 1 := by unfold wrap64; omega
   rw [e, Int.tdiv_eq_ediv_of_nonneg (by omega), eK]
   unfold wrap64; omega
 clear eK hb0
 go_enter Tryz.func254, Tryz.ntmps254
 go_wp2_with (first
   | (go_at_call 269; refine (wbits_any _ _ _ h0 h1 l0 l1).mono ?_; rintro e w1 ⟨rfl, hb1⟩))
 have E4 := Lib.hid e4; clear e4
 have hs1 := hb1.size
 simp at hs1
 go_loopw [3, 4] (fun root i wr => ∃ (r : Int) (k : Nat), root = .int .u64 r ∧ i = .int .i64 k ∧ k ≤ 64 ∧ 0 ≤ r ∧ r % 2 ^ k = 0 ∧ r + 2 ^ k ≤ 18446744073709551616 ∧ r * r ≤ num h l ∧ num h l < (r + 2 ^ k) * (r + 2 ^ k) ∧ Below w.heap.size w wr ∧ w.heap.size < wr.heap.size ∧ wr.cell? ⟨w.heap.size, 0, none⟩ = some (.int .u64 h) ∧ wr.cell? ⟨w.heap.size, 1, none⟩ = some (.int .u64 l)) (fun _ i _ => (intOf i).toNat)
 case atStart =>
   refine ⟨0, K, rfl, by rw [E4.out], hK, Int.le_refl _, Int.zero_emod _, ?_, ?_, ?_, ?_, ?_, ?_, ?_⟩
   · have := pow2_mono K 64 hK; rw [show (2 : Int) ^ 64 = 18446744073709551616 from rfl] at this; omega
   · omega
   · rw [Int.zero_add]; exact hN
   · exact ((Below.refl _ _).alloc (Nat.le_refl _) _).trans (hb1.mono (by simp))
   · omega
   · rw [(bcell hb1).1 _ _ (by simp)]; simp [go_sem]
   · rw [(bcell hb1).1 _ _ (by simp)]; simp [go_sem]
 case round =>
   clear hb1 hs1 hN hK
   obtain ⟨r, k, rfl, rfl, hk, r0, hm, hr, hle, hlt, hb, hsz, c0, c1⟩ := hrel
   by_cases hk0 : 0 < k
   · have p0 : (0 : Int) < 2 ^ (k - 1) := Int.pow_pos (by decide)
     have ep := pow_two_succ k hk0
     obtain ⟨g, hg⟩ : ∃ g, g = r + 2 ^ (k - 1) := ⟨_, rfl⟩
     have e1 : bits .or .u64 r (IntKind.u64.wrap (2 ^ (k - 1))) = g := by
       have : IntKind.u64.wrap (2 ^ (k - 1)) = 2 ^ (k - 1) := by rw [wrapu]; omega
       rw [this, hg]; exact or_bit r k hk0 hk r0 hm hr
     have g0 : 0 ≤ g := by omega
     have g1 : g ≤ 18446744073709551615 := by omega
     have q0 : 0 ≤ g * g := Int.mul_nonneg g0 g0
     have q1 : g * g < 340282366920938463463374607431768211456 := by have := Int.mul_le_mul g1 g1 g0 (by omega); omega
     have k0 := hi0 _ q0
     have k1 := hi1 _ q1
     have k2 := lo0 (g * g)
     have k3 := lo1 (g * g)
     have en := num_hi_lo (g * g)
     have st : (g * g ≤ num h l → g % 2 ^ (k - 1) = 0 ∧ g + 2 ^ (k - 1) ≤ 18446744073709551616 ∧ g * g ≤ num h l ∧ num h l < (g + 2 ^ (k - 1)) * (g + 2 ^ (k - 1))) ∧ (¬ g * g ≤ num h l → r % 2 ^ (k - 1) = 0 ∧ r + 2 ^ (k - 1) ≤ 18446744073709551616 ∧ r * r ≤ num h l ∧ num h l < (r + 2 ^ (k - 1)) * (r + 2 ^ (k - 1))) := by
       have a := root_step (num h l) r (2 ^ (k - 1)) hle (by rw [← ep]; exact hlt)
       rw [← hg] at a
       have hr0 : r % 2 ^ (k - 1) = 0 := by
         rw [ep] at hm
         have := Int.emod_emod_of_dvd r (show (2 : Int) ^ (k - 1) ∣ 2 * 2 ^ (k - 1) from ⟨2, Int.mul_comm _ _⟩)
         rw [hm] at this; rw [← this]; exact Int.zero_emod _
       have hg0 : g % 2 ^ (k - 1) = 0 := by rw [hg, Int.add_emod_right]; exact hr0
       exact ⟨fun c => ⟨hg0, by omega, a.1 c⟩, fun c => ⟨hr0, by omega, by rw [← hg]; exact a.2 c⟩⟩
     have HG := Lib.hid hg; clear hg
     have ST := Lib.hid st; clear st
     clear ep hm hr hle hlt
     by_cases hf : g * g ≤ num h l
     · have hc : cmpN (g * g) (num h l) ≤ 0 := by unfold cmpN; split; omega; split <;> omega
       go_wp2
       go_region_held3 (fun w' => w'.cell? ⟨w.heap.size, 0, none⟩ = some (.int .u64 h) ∧ w'.cell? ⟨w.heap.size, 1, none⟩ = some (.int .u64 l)) (refine ⟨?_, ?_⟩ <;> simp [go_sem, *])
         (first
           | (go_at_call 252; refine (wmul_any _ _ _ g0 g1 g0 g1).mono ?_; rintro e w2 ⟨rfl, hb2⟩; replace c0 := (hb2.cell (p := ⟨w.heap.size, 0, none⟩) hsz).trans c0; replace c1 := (hb2.cell (p := ⟨w.heap.size, 1, none⟩) hsz).trans c1; replace hsz := Nat.lt_of_lt_of_le hsz hb2.size; replace hb := (show Below w.heap.size w w2 from by first | exact under0 hb hb2 | exact under0 hb.drew hb2); clear hb2)
           | (go_at_call 270; refine (wcmp_any _ _ _ _ _ k0 k1 k2 k3 h0 h1 l0 l1).mono ?_; rintro e w3 ⟨rfl, hb3⟩; rw [en]; replace c0 := (hb3.cell (p := ⟨w.heap.size, 0, none⟩) hsz).trans c0; replace c1 := (hb3.cell (p := ⟨w.heap.size, 1, none⟩) hsz).trans c1; replace hsz := Nat.lt_of_lt_of_le hsz hb3.size; replace hb := (show Below w.heap.size w w3 from by first | exact under0 hb hb3 | exact under0 hb.drew hb3); clear hb3))
       go_wp2
       obtain ⟨s1, s2, s3, s4⟩ := ST.out.1 hf
       go_roundw
       case rel => exact ⟨g, k - 1, rfl, congrArg (Value.int .i64) (by omega), by omega, g0, s1, s2, s3, s4, hb, hsz, c0, c1⟩
       case measure => simp [intOf]; omega
     · have hc : ¬ cmpN (g * g) (num h l) ≤ 0 := by unfold cmpN; split; omega; split <;> omega
       go_wp2
       go_region_held3 (fun w' => w'.cell? ⟨w.heap.size, 0, none⟩ = some (.int .u64 h) ∧ w'.cell? ⟨w.heap.size, 1, none⟩ = some (.int .u64 l)) (refine ⟨?_, ?_⟩ <;> simp [go_sem, *])
         (first
           | (go_at_call 252; refine (wmul_any _ _ _ g0 g1 g0 g1).mono ?_; rintro e w2 ⟨rfl, hb2⟩; replace c0 := (hb2.cell (p := ⟨w.heap.size, 0, none⟩) hsz).trans c0; replace c1 := (hb2.cell (p := ⟨w.heap.size, 1, none⟩) hsz).trans c1; replace hsz := Nat.lt_of_lt_of_le hsz hb2.size; replace hb := (show Below w.heap.size w w2 from by first | exact under0 hb hb2 | exact under0 hb.drew hb2); clear hb2)
           | (go_at_call 270; refine (wcmp_any _ _ _ _ _ k0 k1 k2 k3 h0 h1 l0 l1).mono ?_; rintro e w3 ⟨rfl, hb3⟩; rw [en]; replace c0 := (hb3.cell (p := ⟨w.heap.size, 0, none⟩) hsz).trans c0; replace c1 := (hb3.cell (p := ⟨w.heap.size, 1, none⟩) hsz).trans c1; replace hsz := Nat.lt_of_lt_of_le hsz hb3.size; replace hb := (show Below w.heap.size w w3 from by first | exact under0 hb hb3 | exact under0 hb.drew hb3); clear hb3))
       go_wp2
       obtain ⟨s1, s2, s3, s4⟩ := ST.out.2 hf
       go_roundw
       case rel => exact ⟨r, k - 1, rfl, congrArg (Value.int .i64) (by omega), by omega, r0, s1, s2, s3, s4, hb, hsz, c0, c1⟩
       case measure => simp [intOf]; omega
   · have hk' : k = 0 := by omega
     have H := root_unique (num h l) r r0 hle (by rw [hk', Int.pow_zero] at hlt; exact hlt)
     clear hk'
     have HH := Lib.hid H; clear H
     go_wp2
     go_ret
     rw [HH.out]; exact ⟨rfl, hb⟩
end Go.Proofs.YtcffeokbipjaoaaGreat
