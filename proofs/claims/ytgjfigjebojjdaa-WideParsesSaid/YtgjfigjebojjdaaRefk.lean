/- The document's answers of layer 1: shifted up, by doubling. -/
import Derived.Test.YtgjfigjebojjdaaRefh
namespace Go.Proofs.Ytgjfigjebojjdaa
open Go.ChangeShapes Go.WideShapes Go.ChangeAt Go.RowKit Kn
set_option linter.unusedVariables false
theorem left_step (n : Int) (j : Nat) : addN (leftN n j) (leftN n j) = leftN n (j + 1) := by
  unfold addN leftN
  rw [Int.pow_succ, ← Int.mul_assoc]
  omega
theorem left_big (n : Int) (j : Nat) (h : 128 ≤ j) : leftN n j = 0 := by
  unfold leftN
  rw [show j = (j - 128) + 128 by omega, Int.pow_add, ← Int.mul_assoc, show (2 : Int) ^ 128 = 340282366920938463463374607431768211456 from rfl]
  exact Int.mul_emod_left _ _
theorem left0 (n : Int) (j : Nat) : 0 ≤ leftN n j ∧ leftN n j < 340282366920938463463374607431768211456 := by unfold leftN; omega
theorem left_zero (n : Int) (h0 : 0 ≤ n) (h1 : n < 340282366920938463463374607431768211456) : leftN n 0 = n := by unfold leftN; rw [Int.pow_zero, Int.mul_one, Int.emod_eq_of_lt h0 h1]
set_option maxHeartbeats 2000000 in
set_option maxRecDepth 1000000 in
theorem rleft_any (h l k : Int) (w : World) (h0 : 0 ≤ h) (h1 : h ≤ 18446744073709551615) (l0 : 0 ≤ l) (l1 : l ≤ 18446744073709551615) :
    Calls Try.prog 54 #[.agg #[.int .u64 h, .int .u64 l], .int .i64 k] w fun e w' => e = .returned (.agg #[.int .u64 (hi (leftN (num h l) k.toNat)), .int .u64 (lo (leftN (num h l) k.toNat))]) ∧ Below w.heap.size w w' := by
  have N0 := num0 h l h0 l0
  have N1 := num1 h l h1 l1
  have eh := hi_num h l l0 l1
  have el := lo_num h l l0 l1
  obtain ⟨N, hN⟩ : ∃ N, num h l = N := ⟨_, rfl⟩
  rw [hN] at N0 N1 eh el ⊢
  clear hN
  rw [← eh, ← el]
  have ez := left_zero N N0 N1
  have E0 : hi N = hi (leftN N 0) := by rw [ez]
  have E1 : lo N = lo (leftN N 0) := by rw [ez]
  rw [E0, E1]
  have EZ := Lib.hid ez
  clear eh el h0 h1 l0 l1 E0 E1 ez
  go_enter Try.func54, Try.ntmps54
  go_wp2
  go_loopw [5] (fun i wr => ∃ j : Nat, j ≤ 128 ∧ ((j : Int) ≤ k ∨ j = 0) ∧ i = .int .i64 j ∧ Below w.heap.size w wr ∧ w.heap.size + 2 ≤ wr.heap.size ∧
      wr.cell? ⟨w.heap.size, 0, none⟩ = some (.int .u64 (hi (leftN N j))) ∧ wr.cell? ⟨w.heap.size, 1, none⟩ = some (.int .u64 (lo (leftN N j))) ∧
      wr.cell? ⟨w.heap.size + 1, 0, none⟩ = some (.int .u64 0) ∧ wr.cell? ⟨w.heap.size + 1, 1, none⟩ = some (.int .u64 0) ∧
      wr.frozen? ⟨w.heap.size, 0, none⟩ = false ∧ wr.frozen? ⟨w.heap.size, 1, none⟩ = false ∧ wr.frozen? ⟨w.heap.size + 1, 0, none⟩ = false ∧ wr.frozen? ⟨w.heap.size + 1, 1, none⟩ = false)
    (fun i _ => 128 - (intOf i).toNat)
  case atStart => exact ⟨0, by omega, .inr rfl, rfl, ((Below.refl _ _).alloc (Nat.le_refl _) _).alloc (by simp) _, by simp, by simp [go_sem], by simp [go_sem], by simp [go_sem], by simp [go_sem], by simp [go_sem], by simp [go_sem], by simp [go_sem], by simp [go_sem]⟩
  case round =>
    obtain ⟨j, hj, hjk, rfl, hb, hsz, n0, n1, z0, z1, f0, f1, f2, f3⟩ := hrel
    obtain ⟨a0, a1⟩ := left0 N j
    have b0 := hi0 _ a0
    have b1 := hi1 _ a1
    have b2 := lo0 (leftN N j)
    have b3 := lo1 (leftN N j)
    have en := num_hi_lo (leftN N j)
    by_cases hk : (j : Int) < k
    · by_cases h128 : j < 128
      · have es := left_step N j
        go_wp2_with (go_at_call 55; refine (rtwice_any _ _ _ b0 b1 b2 b3).mono ?_; rintro e w1 ⟨rfl, hbn⟩; rw [en, es]; have hz := hbn.size; have c0 : w1.cell? ⟨w.heap.size, 0, none⟩ = some (.int .u64 (hi (leftN N j))) := (hbn.cell (by (show w.heap.size < _; omega))).trans n0; have c1 : w1.cell? ⟨w.heap.size, 1, none⟩ = some (.int .u64 (lo (leftN N j))) := (hbn.cell (by (show w.heap.size < _; omega))).trans n1; have g0 : w1.frozen? ⟨w.heap.size, 0, none⟩ = false := (hbn.frozen (by (show w.heap.size < _; omega))).trans f0; have g1 : w1.frozen? ⟨w.heap.size, 1, none⟩ = false := (hbn.frozen (by (show w.heap.size < _; omega))).trans f1)
        have c2 : w1.cell? ⟨w.heap.size + 1, 0, none⟩ = some (.int .u64 0) := (hbn.cell (by (show w.heap.size + 1 < _; omega))).trans z0
        have c3 : w1.cell? ⟨w.heap.size + 1, 1, none⟩ = some (.int .u64 0) := (hbn.cell (by (show w.heap.size + 1 < _; omega))).trans z1
        have g2 : w1.frozen? ⟨w.heap.size + 1, 0, none⟩ = false := (hbn.frozen (by (show w.heap.size + 1 < _; omega))).trans f2
        have g3 : w1.frozen? ⟨w.heap.size + 1, 1, none⟩ = false := (hbn.frozen (by (show w.heap.size + 1 < _; omega))).trans f3
        go_roundw
        case rel =>
          refine ⟨j + 1, by omega, .inl (by omega), by go_num, ((hb.trans (hbn.mono (by omega))).setCell (p := ⟨w.heap.size, 0, none⟩) (Nat.le_refl _) _).setCell (p := ⟨w.heap.size, 1, none⟩) (Nat.le_refl _) _, by ((try simp); omega), ?_, ?_, ?_, ?_, ?_, ?_, ?_, ?_⟩ <;> simp [go_sem, c0, c1, c2, c3, g0, g1, g2, g3]
        case measure => simp [intOf]; omega
      · have ej : leftN N j = leftN N k.toNat := by rw [left_big N j (by omega), left_big N k.toNat (by omega)]
        rw [ej] at n0 n1
        clear ej EZ en a0 a1 b0 b1 b2 b3
        go_wp2
        refine bodyPost_ret (v := .agg #[.int .u64 (hi (leftN N k.toNat)), .int .u64 (lo (leftN N k.toNat))]) (by simp [results, Try.results54, go_sem, z0, z1]) rfl ⟨rfl, ?_⟩
        exact (hb.setCell (p := ⟨w.heap.size + 1, 0, none⟩) (by dsimp only; omega) _).setCell (p := ⟨w.heap.size + 1, 1, none⟩) (by dsimp only; omega) _
    · have ej : leftN N j = leftN N k.toNat := by congr 1; omega
      rw [ej] at n0 n1
      clear ej EZ en a0 a1 b0 b1 b2 b3
      go_wp2
      refine bodyPost_ret (v := .agg #[.int .u64 (hi (leftN N k.toNat)), .int .u64 (lo (leftN N k.toNat))]) (by simp [results, Try.results54, go_sem, z0, z1]) rfl ⟨rfl, ?_⟩
      exact (hb.setCell (p := ⟨w.heap.size + 1, 0, none⟩) (by dsimp only; omega) _).setCell (p := ⟨w.heap.size + 1, 1, none⟩) (by dsimp only; omega) _
end Go.Proofs.Ytgjfigjebojjdaa
