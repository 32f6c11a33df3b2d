/- The document's answers of layer 3: the greatest number whose square, so often, fits. -/
import Derived.Test.YtkmhdkhaoegbjaaRefp
namespace Go.Proofs.Ytkmhdkhaoegbjaa
open Go.ChangeShapes Go.WideShapes Go.ChangeAt Go.RowKit Kn
set_option linter.unusedVariables false
theorem fits_root (v n N : Int) (v0 : 0 ≤ v) (N0 : 0 ≤ N) : fitsB v n N = decide (v ≤ rootN (N / max n 1)) := by
  unfold fitsB
  have := root_fits v (max n 1) N v0 (by omega) N0
  by_cases h : v ≤ rootN (N / max n 1)
  · rw [decide_eq_true h, decide_eq_true (this.2 h)]
  · rw [decide_eq_false h, decide_eq_false (fun c => h (this.1 c))]
set_option maxHeartbeats 1000000 in
theorem rmost_any (n h l : Int) (w : World) (n0 : 0 ≤ n) (n1 : n ≤ 18446744073709551615) (h0 : 0 ≤ h) (h1 : h ≤ 18446744073709551615) (l0 : 0 ≤ l) (l1 : l ≤ 18446744073709551615) :
    Calls Try.prog 34 #[.int .u64 n, .agg #[.int .u64 h, .int .u64 l]] w fun e w' => e = .returned (.int .u64 (rootN (num h l / max n 1))) ∧ Below w.heap.size w w' := by
  have N0 := num0 h l h0 l0
  have N1 := num1 h l h1 l1
  obtain ⟨R, hR⟩ : ∃ R, rootN (num h l / max n 1) = R := ⟨_, rfl⟩
  have R0 : 0 ≤ R := by rw [← hR]; exact root0 _
  have R1 : R ≤ 18446744073709551615 := by
    rw [← hR]; exact root_64 _ (Int.ediv_nonneg N0 (by omega)) (by have := Int.ediv_le_self (max n 1) N0; omega)
  have hF : ∀ v, 0 ≤ v → fitsB v n (num h l) = decide (v ≤ R) := fun v v0 => by rw [← hR]; exact fits_root v n _ v0 N0
  have HF := Lib.hid hF
  rw [hR]
  clear hF hR N0 N1
  have hc0 : (w.alloc (.cells #[.int .u64 h, .int .u64 l] 56)).cell? ⟨w.heap.size, 0, none⟩ = some (.int .u64 h) := by simp [go_sem]
  have hc1 : (w.alloc (.cells #[.int .u64 h, .int .u64 l] 56)).cell? ⟨w.heap.size, 1, none⟩ = some (.int .u64 l) := by simp [go_sem]
  go_enter Try.func34, Try.ntmps34
  go_wp2
  go_loopw [5, 6] (fun sl sh wr => ∃ a b : Int, sl = .int .u64 a ∧ sh = .int .u64 b ∧ 0 ≤ a ∧ a ≤ R ∧ R ≤ b ∧ b ≤ 18446744073709551615 ∧ Below w.heap.size w wr ∧ wr.cell? ⟨w.heap.size, 0, none⟩ = some (.int .u64 h) ∧ wr.cell? ⟨w.heap.size, 1, none⟩ = some (.int .u64 l)) (fun sl sh _ => (intOf sh - intOf sl).toNat)
  case atStart => exact ⟨0, 18446744073709551615, rfl, rfl, Int.le_refl _, R0, R1, Int.le_refl _, (Below.refl _ _).alloc (Nat.le_refl _) _, hc0, hc1⟩
  case round =>
    clear hc0 hc1
    obtain ⟨a, b, rfl, rfl, a0, aR, bR, b1, hb, c0, c1⟩ := hrel
    have hz := klt c0
    simp only at hz
    by_cases hlt : a < b
    · obtain ⟨m, hm⟩ : ∃ m, a + (b - a) / 2 + (b - a) % 2 = m := ⟨_, rfl⟩
      have m0 : 0 ≤ m := by omega
      have m1 : m ≤ 18446744073709551615 := by omega
      have m2 : a < m := by omega
      have m3 : m ≤ b := by omega
      by_cases hf : m ≤ R
      · have F : fitsB m n (num h l) = true := by rw [HF.out m m0]; exact decide_eq_true hf
        go_wp2_with (go_at_call 43; refine (rfits_any _ _ _ _ _ m0 m1 n1 h0 h1 l0 l1).mono ?_; rintro e wn ⟨rfl, hbn⟩; rw [F]; replace c0 := cell_later hbn c0; replace c1 := cell_later hbn c1; replace hb := under0 hb hbn)
        go_roundw
        case rel => exact ⟨m, b, rfl, rfl, m0, hf, bR, b1, hb, c0, c1⟩
        case measure => simp [intOf]; omega
      · have F : fitsB m n (num h l) = false := by rw [HF.out m m0]; exact decide_eq_false hf
        go_wp2_with (go_at_call 43; refine (rfits_any _ _ _ _ _ m0 m1 n1 h0 h1 l0 l1).mono ?_; rintro e wn ⟨rfl, hbn⟩; rw [F]; replace c0 := cell_later hbn c0; replace c1 := cell_later hbn c1; replace hb := under0 hb hbn)
        go_roundw
        case rel => exact ⟨a, m - 1, rfl, rfl, a0, aR, by omega, by omega, hb, c0, c1⟩
        case measure => simp [intOf]; omega
    · obtain rfl : R = a := by omega
      go_wp2
      go_ret
      exact ⟨rfl, hb⟩
/-- The document's law of any interval. -/
def lawR (i n : Int) : Int := if i ≤ 0 then 0 else lawN i n
theorem lawR_pos (i n : Int) (i0 : 0 < i) : lawR i n = rootN (i * i / max n 1) := by unfold lawR lawN; rw [if_neg (by omega)]
set_option maxHeartbeats 400000 in
theorem rrlaw_any (i n : Int) (w : World) (i1 : i ≤ 9223372036854775807) (n0 : 0 ≤ n) (n1 : n ≤ 18446744073709551615) :
    Calls Try.prog 19 #[.int .i64 i, .int .u64 n] w fun e w' => e = .returned (.int .i64 (lawR i n)) ∧ Below w.heap.size w w' := by
  by_cases h : i ≤ 0
  · have e : lawR i n = 0 := by unfold lawR; rw [if_pos h]
    rw [e]; clear e
    go_enter Try.func19, Try.ntmps19
    go_wp2
    go_ret
    exact ⟨rfl, Below.refl _ _⟩
  · have i0 : 0 ≤ i := by omega
    have q0 : 0 ≤ i * i := Int.mul_nonneg i0 i0
    have q1 : i * i < 340282366920938463463374607431768211456 := by have := Int.mul_le_mul i1 i1 i0 (by omega); omega
    have k0 := hi0 _ q0
    have k1 := hi1 _ q1
    have k2 := lo0 (i * i)
    have k3 := lo1 (i * i)
    have en := num_hi_lo (i * i)
    have el := lawR_pos i n (by omega)
    have L0 := law0 i n
    have L1 := law_le i n i0
    have L2 : lawR i n = lawN i n := by unfold lawR; rw [if_neg h]
    rw [← L2] at L0 L1
    have EL := Lib.hid el
    have EN := Lib.hid en
    clear el en L2 q0 q1
    go_enter Try.func19, Try.ntmps19
    go_wp2_with (first
      | (go_at_call 35; refine (rmul_any _ _ _ i0 (by omega) i0 (by omega)).mono ?_; rintro e w1 ⟨rfl, hb1⟩)
      | (go_at_call 34; refine (rmost_any _ _ _ _ n0 n1 k0 k1 k2 k3).mono ?_; rintro e w2 ⟨rfl, hb2⟩; rw [EN.out, ← EL.out]))
    go_ret
    exact ⟨rfl, under0 hb1 hb2⟩
end Go.Proofs.Ytkmhdkhaoegbjaa
