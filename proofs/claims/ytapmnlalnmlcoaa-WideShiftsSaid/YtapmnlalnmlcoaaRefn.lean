/- The document's answers of layer 1: shifted down, by halving. -/
import Derived.Test.YtapmnlalnmlcoaaRefm
namespace Go.Proofs.Ytapmnlalnmlcoaa
open Go.ChangeShapes Go.WideShapes Go.ChangeAt Go.RowKit Kn
set_option linter.unusedVariables false
theorem right_step (n : Int) (j : Nat) : rightN n j / 2 = rightN n (j + 1) := by
  unfold rightN
  rw [Int.pow_succ, Int.ediv_ediv_of_nonneg (Int.le_of_lt (Int.pow_pos (by decide)))]
theorem right_big (n : Int) (j : Nat) (h : 128 ≤ j) (n0 : 0 ≤ n) (n1 : n < 340282366920938463463374607431768211456) : rightN n j = 0 := by
  unfold rightN
  rw [show j = 128 + (j - 128) by omega, Int.pow_add, ← Int.ediv_ediv_of_nonneg (by decide), show (2 : Int) ^ 128 = 340282366920938463463374607431768211456 from rfl, Int.ediv_eq_zero_of_lt n0 n1, Int.zero_ediv]
theorem right0 (n : Int) (j : Nat) (n0 : 0 ≤ n) (n1 : n < 340282366920938463463374607431768211456) : 0 ≤ rightN n j ∧ rightN n j < 340282366920938463463374607431768211456 := by
  unfold rightN
  have := Int.ediv_le_self (a := n) (2 ^ j) n0
  exact ⟨Int.ediv_nonneg n0 (Int.le_of_lt (Int.pow_pos (by decide))), by omega⟩
theorem right_zero (n : Int) : rightN n 0 = n := by unfold rightN; rw [Int.pow_zero, Int.ediv_one]
set_option maxHeartbeats 2000000 in
set_option maxRecDepth 1000000 in
theorem rright_any (h l k : Int) (w : World) (h0 : 0 ≤ h) (h1 : h ≤ 18446744073709551615) (l0 : 0 ≤ l) (l1 : l ≤ 18446744073709551615) :
    Calls Try.prog 30 #[.agg #[.int .u64 h, .int .u64 l], .int .i64 k] w fun e w' => e = .returned (.agg #[.int .u64 (hi (rightN (num h l) k.toNat)), .int .u64 (lo (rightN (num h l) k.toNat))]) ∧ Below w.heap.size w w' := by
  have N0 := num0 h l h0 l0
  have N1 := num1 h l h1 l1
  have eh := hi_num h l l0 l1
  have el := lo_num h l l0 l1
  obtain ⟨N, hN⟩ : ∃ N, num h l = N := ⟨_, rfl⟩
  rw [hN] at N0 N1 eh el ⊢
  clear hN
  rw [← eh, ← el]
  have ez := right_zero N
  have E0 : hi N = hi (rightN N 0) := by rw [ez]
  have E1 : lo N = lo (rightN N 0) := by rw [ez]
  rw [E0, E1]
  have EZ := Lib.hid ez
  clear eh el h0 h1 l0 l1 E0 E1 ez
  go_enter Try.func30, Try.ntmps30
  go_wp2
  go_loopw [5] (fun i wr => ∃ j : Nat, j ≤ 128 ∧ ((j : Int) ≤ k ∨ j = 0) ∧ i = .int .i64 j ∧ Below w.heap.size w wr ∧ w.heap.size + 2 ≤ wr.heap.size ∧
      wr.cell? ⟨w.heap.size, 0, none⟩ = some (.int .u64 (hi (rightN N j))) ∧ wr.cell? ⟨w.heap.size, 1, none⟩ = some (.int .u64 (lo (rightN N j))) ∧
      wr.cell? ⟨w.heap.size + 1, 0, none⟩ = some (.int .u64 0) ∧ wr.cell? ⟨w.heap.size + 1, 1, none⟩ = some (.int .u64 0) ∧
      wr.frozen? ⟨w.heap.size, 0, none⟩ = false ∧ wr.frozen? ⟨w.heap.size, 1, none⟩ = false ∧ wr.frozen? ⟨w.heap.size + 1, 0, none⟩ = false ∧ wr.frozen? ⟨w.heap.size + 1, 1, none⟩ = false)
    (fun i _ => 128 - (intOf i).toNat)
  case atStart => exact ⟨0, by omega, .inr rfl, rfl, ((Below.refl _ _).alloc (Nat.le_refl _) _).alloc (by simp) _, by simp, by simp [go_sem], by simp [go_sem], by simp [go_sem], by simp [go_sem], by simp [go_sem], by simp [go_sem], by simp [go_sem], by simp [go_sem]⟩
  case round =>
    obtain ⟨j, hj, hjk, rfl, hb, hsz, n0, n1, z0, z1, f0, f1, f2, f3⟩ := hrel
    obtain ⟨a0, a1⟩ := right0 N j N0 N1
    have b0 := hi0 _ a0
    have b1 := hi1 _ a1
    have b2 := lo0 (rightN N j)
    have b3 := lo1 (rightN N j)
    have en := num_hi_lo (rightN N j)
    by_cases hk : (j : Int) < k
    · by_cases h128 : j < 128
      · have es := right_step N j
        go_wp2_with (go_at_call 55; refine (rhalf_any _ _ _ b0 b1 b2 b3).mono ?_; rintro e w1 ⟨rfl, hbn⟩; rw [en, es]; have hz := hbn.size; have c0 : w1.cell? ⟨w.heap.size, 0, none⟩ = some (.int .u64 (hi (rightN N j))) := (hbn.cell (by (show w.heap.size < _; omega))).trans n0; have c1 : w1.cell? ⟨w.heap.size, 1, none⟩ = some (.int .u64 (lo (rightN N j))) := (hbn.cell (by (show w.heap.size < _; omega))).trans n1; have g0 : w1.frozen? ⟨w.heap.size, 0, none⟩ = false := (hbn.frozen (by (show w.heap.size < _; omega))).trans f0; have g1 : w1.frozen? ⟨w.heap.size, 1, none⟩ = false := (hbn.frozen (by (show w.heap.size < _; omega))).trans f1)
        have c2 : w1.cell? ⟨w.heap.size + 1, 0, none⟩ = some (.int .u64 0) := (hbn.cell (by (show w.heap.size + 1 < _; omega))).trans z0
        have c3 : w1.cell? ⟨w.heap.size + 1, 1, none⟩ = some (.int .u64 0) := (hbn.cell (by (show w.heap.size + 1 < _; omega))).trans z1
        have g2 : w1.frozen? ⟨w.heap.size + 1, 0, none⟩ = false := (hbn.frozen (by (show w.heap.size + 1 < _; omega))).trans f2
        have g3 : w1.frozen? ⟨w.heap.size + 1, 1, none⟩ = false := (hbn.frozen (by (show w.heap.size + 1 < _; omega))).trans f3
        go_roundw
        case rel =>
          refine ⟨j + 1, by omega, .inl (by omega), by go_num, ((hb.trans (hbn.mono (by omega))).setCell (p := ⟨w.heap.size, 0, none⟩) (Nat.le_refl _) _).setCell (p := ⟨w.heap.size, 1, none⟩) (Nat.le_refl _) _, by ((try simp); omega), ?_, ?_, ?_, ?_, ?_, ?_, ?_, ?_⟩ <;> simp [go_sem, c0, c1, c2, c3, g0, g1, g2, g3]
        case measure => simp [intOf]; omega
      · have ej : rightN N j = rightN N k.toNat := by rw [right_big N j (by omega) N0 N1, right_big N k.toNat (by omega) N0 N1]
        rw [ej] at n0 n1
        clear ej EZ en a0 a1 b0 b1 b2 b3
        go_wp2
        refine bodyPost_ret (v := .agg #[.int .u64 (hi (rightN N k.toNat)), .int .u64 (lo (rightN N k.toNat))]) (by simp [results, Try.results30, go_sem, z0, z1]) rfl ⟨rfl, ?_⟩
        exact (hb.setCell (p := ⟨w.heap.size + 1, 0, none⟩) (by dsimp only; omega) _).setCell (p := ⟨w.heap.size + 1, 1, none⟩) (by dsimp only; omega) _
    · have ej : rightN N j = rightN N k.toNat := by congr 1; omega
      rw [ej] at n0 n1
      clear ej EZ en a0 a1 b0 b1 b2 b3
      go_wp2
      refine bodyPost_ret (v := .agg #[.int .u64 (hi (rightN N k.toNat)), .int .u64 (lo (rightN N k.toNat))]) (by simp [results, Try.results30, go_sem, z0, z1]) rfl ⟨rfl, ?_⟩
      exact (hb.setCell (p := ⟨w.heap.size + 1, 0, none⟩) (by dsimp only; omega) _).setCell (p := ⟨w.heap.size + 1, 1, none⟩) (by dsimp only; omega) _
end Go.Proofs.Ytapmnlalnmlcoaa
