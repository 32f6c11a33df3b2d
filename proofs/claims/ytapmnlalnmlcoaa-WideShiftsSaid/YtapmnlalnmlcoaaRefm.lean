/- The document's answers of layer 1: halves. -/
import Derived.Test.YtapmnlalnmlcoaaRefc
namespace Go.Proofs.Ytapmnlalnmlcoaa
open Go.ChangeShapes Go.WideShapes Go.ChangeAt Go.RowKit Kn
set_option linter.unusedVariables false
/-- The bit that falls out above digit i. -/
def fb (n : Int) (i : Nat) : Int := n / 65536 ^ i % 2
theorem half_step (n : Int) (i : Nat) : (dgN n i + 65536 * fb n (i + 1)) / 2 = dgN (n / 2) i ∧ (dgN n i + 65536 * fb n (i + 1)) % 2 = fb n i := by
  unfold dgN fb
  rw [Int.pow_succ, ← Int.ediv_ediv_of_nonneg (Int.le_of_lt (pp i)), Int.ediv_ediv_of_nonneg (show (0 : Int) ≤ 2 by decide), Int.mul_comm 2, ← Int.ediv_ediv_of_nonneg (Int.le_of_lt (pp i))]
  omega
def mixh (n : Int) (q j : Nat) : Int := if q ≤ j then dgN (n / 2) j else dgN n j
theorem mixh_step (n : Int) (p j : Nat) : (if j = p then dgN (n / 2) p else mixh n (p + 1) j) = mixh n p j := by
  unfold mixh
  by_cases h : j = p
  · subst h; rw [if_pos rfl, if_pos (by omega)]
  · rw [if_neg h]
    by_cases h2 : p + 1 ≤ j
    · rw [if_pos h2, if_pos (by omega)]
    · rw [if_neg h2, if_neg (by omega)]
set_option maxHeartbeats 2000000 in
set_option maxRecDepth 1000000 in
theorem rhalf_any (h l : Int) (w : World) (h0 : 0 ≤ h) (h1 : h ≤ 18446744073709551615) (l0 : 0 ≤ l) (l1 : l ≤ 18446744073709551615) :
    Calls Try.prog 55 #[.agg #[.int .u64 h, .int .u64 l]] w fun e w' => e = .returned (.tuple #[.agg #[.int .u64 (hi (num h l / 2)), .int .u64 (lo (num h l / 2))], .int .i64 (num h l % 2)]) ∧ Below w.heap.size w w' := by
  have N0 := num0 h l h0 l0
  have N1 := num1 h l h1 l1
  obtain ⟨N, hN⟩ : ∃ N, num h l = N := ⟨_, rfl⟩
  rw [hN] at N0 N1 ⊢
  have HN := Lib.hid hN; clear hN
  go_enter Try.func55, Try.ntmps55
  go_wp2_with (go_at_call 49; refine (digits_row _ _ _ h0 h1 l0 l1).mono ?_; rintro e w1 ⟨g1, c1, rfl, hg1, r1, hb1⟩)
  have q1 : w.heap.size + 2 ≤ g1 := by simp at hg1; omega
  have hB : Below (w.heap.size + 2) ((w.alloc (.cells #[.int .u64 h, .int .u64 l] 28)).alloc (.cells #[.int .u64 0, .int .u64 0] 28)) w1 := hb1.mono (by simp)
  have x1 : Row w1 g1 (mixh N 8) := r1.congr (fun i hi => by unfold mixh; rw [if_neg (by omega), ← HN.out]; exact dg_num h l i hi l0 l1)
  clear hg1 hb1 r1
  go_loopw [5, 6] (fun c i wr => ∃ q : Nat, q ≤ 8 ∧ i = .int .i64 ((q : Int) - 1) ∧ c = .int .i64 (fb N q) ∧ Row wr g1 (mixh N q) ∧ Below (w.heap.size + 2) ((w.alloc (.cells #[.int .u64 h, .int .u64 l] 28)).alloc (.cells #[.int .u64 0, .int .u64 0] 28)) wr)
    (fun _ i _ => (intOf i + 1).toNat)
  case atStart =>
    refine ⟨8, by omega, rfl, ?_, x1, hB⟩
    have e : fb N 8 = 0 := by unfold fb; rw [show (65536 : Int) ^ 8 = 340282366920938463463374607431768211456 from rfl, Int.ediv_eq_zero_of_lt N0 N1]; rfl
    rw [e]
  case round =>
    clear x1 hB
    obtain ⟨q, hq, rfl, rfl, y1, hB⟩ := hrel
    cases q with
    | zero =>
      have v0 : lv (mixh N 0) 0 = lo (N / 2) := by
        rw [lv_congr _ (dgN (N / 2)) (fun i hi => by unfold mixh; rw [if_pos (by omega)]), val_lo, Int.emod_eq_of_lt (by omega) (by omega)]
      have v1 : lv (up (mixh N 0)) 0 = hi (N / 2) := by
        rw [lv_congr _ (up (dgN (N / 2))) (fun i hi => by unfold up mixh; rw [if_pos (by omega)]), val_hi, Int.emod_eq_of_lt (by omega) (by omega)]
      have v2 : fb N 0 = N % 2 := by unfold fb; rw [Int.pow_zero, Int.ediv_one]
      go_wp2_with fail
      refine (value_any _ _ _ _ y1 (fun i hi => by unfold mixh; split <;> exact ⟨dgN0 _ _, dgN1 _ _⟩)).mono ?_
      rintro e w5 ⟨rfl, hb5⟩
      rw [v0, v1]
      have zB := hB.size
      simp at zB
      have p0 : w5.cell? ⟨w.heap.size + 1, 0, none⟩ = some (.int .u64 0) := (hb5.cell (by show w.heap.size + 1 < _; omega)).trans ((hB.cell (by show w.heap.size + 1 < _; omega)).trans (World.cell?_alloc_at _ _ _ _ (by simp)))
      have p1 : w5.cell? ⟨w.heap.size + 1, 1, none⟩ = some (.int .u64 0) := (hb5.cell (by show w.heap.size + 1 < _; omega)).trans ((hB.cell (by show w.heap.size + 1 < _; omega)).trans (World.cell?_alloc_at _ _ _ _ (by simp)))
      have p2 : ∀ o, w5.frozen? ⟨w.heap.size + 1, o, none⟩ = false := fun o => (hb5.frozen (by show w.heap.size + 1 < _; omega)).trans ((hB.frozen (by show w.heap.size + 1 < _; omega)).trans (World.frozen?_alloc_at _ _ _ _ (by simp)))
      go_wp2
      refine bodyPost_ret (v := .tuple #[.agg #[.int .u64 (hi (N / 2)), .int .u64 (lo (N / 2))], .int .i64 (N % 2)]) (by simp [results, Try.results55, go_sem, p0, p1]) rfl ⟨rfl, ?_⟩
      exact (((((Below.refl _ _).alloc (Nat.le_refl _) _).alloc (by simp) _).trans ((hB.mono (by omega)).trans (hb5.mono (by omega)))).setCell (p := ⟨w.heap.size + 1, 0, none⟩) (by dsimp only; omega) _).setCell (p := ⟨w.heap.size + 1, 1, none⟩) (by dsimp only; omega) _
    | succ p =>
      have m0 := y1.cell (i := p) (by omega)
      have em : mixh N (p + 1) p = dgN N p := by unfold mixh; rw [if_neg (by omega)]
      rw [em] at m0
      clear em
      have m2 := y1.frozen p
      have n0 := dgN0 N p
      have n1 := dgN1 N p
      have n2 : 0 ≤ fb N (p + 1) := by unfold fb; omega
      have n3 : fb N (p + 1) ≤ 1 := by unfold fb; omega
      obtain ⟨e1, e2⟩ := half_step N p
      go_wp2
      go_roundw
      case rel => exact ⟨p, by omega, rfl, by rw [e2], (y1.set p _).congr (fun i hi => mixh_step _ _ _), hB.setCell (by show _ ≤ g1; omega) _⟩
      case measure => simp [intOf]
end Go.Proofs.Ytapmnlalnmlcoaa
