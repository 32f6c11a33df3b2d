/- The document's answers of layer 1: products by digits. -/
import Derived.Test.YtfbkimhblfpibaaRefc
import Derived.Test.YtfbkimhblfpibaaDigm
namespace Go.Proofs.Ytfbkimhblfpibaa
open Go.ChangeShapes Go.WideShapes Go.ChangeAt Go.RowKit Kn
set_option linter.unusedVariables false
theorem rowIs_drewN {w : World} {b : Nat} {t : TypeId} {n : Nat} {f : Nat → Value} (h : w.rowIs b t n f) (k : Nat) : (w.drewN k).rowIs b t n f := h
theorem row_of_nine {w : World} {g : Nat} {f : Nat → Int} (h : w.rowIs g 3 9 (fun j => .int .i64 (f j))) : Row w g f := ⟨9, _, by omega, h, fun _ _ => rfl⟩
set_option maxHeartbeats 4000000 in
set_option maxRecDepth 1000000 in
theorem rmul_any (a b : Int) (w : World) (a0 : 0 ≤ a) (a1 : a ≤ 18446744073709551615) (b0 : 0 ≤ b) (b1 : b ≤ 18446744073709551615) :
    Calls Try.prog 33 #[.int .u64 a, .int .u64 b] w fun e w' => e = .returned (.agg #[.int .u64 (hi (a * b)), .int .u64 (lo (a * b))]) ∧ Below w.heap.size w w' := by
  have hmk : ∀ w : World, (Instr.makeSlice 65 (.int .i64 9) (.int .i64 9)).run Try.prog w = .ok (.slice (some ⟨w.heap.size, 0, none⟩) 9 9) (w.alloc (.cells (madeCells #[.int .i64 0] 9) 3)) :=
    run_make_row' (P := Try.prog) 65 3 (.int .i64 0) 8 Try.underlying65 infoInt rfl .i64 .i64 9 (by omega) (by omega)
  have tok : True := trivial
  go_enter Try.func33, Try.ntmps33
  go_wp2_with (go_at_call 42; refine (digits_row _ _ _ (by omega) (by omega) (by omega) (by omega)).mono ?_; (first
      | (clear tok; rintro e w1 ⟨g1, c1, rfl, hg1, r1, hb1⟩)
      | (rintro e w2 ⟨g2, c2, rfl, hg2, r2, hb2⟩)))
  clear hmk
  have hs1 := hb1.size
  have hs2 := hb2.size
  have l1 := r1.lt
  have l2 := r2.lt
  simp at hs1 hg1
  have hB : Below (w.heap.size + 1) (w.alloc (.cells #[.int .u64 0, .int .u64 0] 52)) (w2.alloc (.cells (madeCells #[.int .i64 0] 9) 3)) := ((hb1.mono (by simp)).trans (hb2.mono (by omega))).alloc (by omega) _
  have x0 : (w2.alloc (.cells (madeCells #[.int .i64 0] 9) 3)).rowIs w2.heap.size 3 9 (fun j => .int .i64 (dgN (rowp a b 0) j)) := (World.rowIs_made w2 (.int .i64 0) 9 3).congr (fun j _ => by rw [rowp_zero, dgN_zero])
  have x1 : Row (w2.alloc (.cells (madeCells #[.int .i64 0] 9) 3)) g1 (dgN a) := ((r1.below hb2 l1).congr (fun i hi => by rw [dg_num 0 a i hi a0 a1]; unfold num; rw [Int.zero_mul, Int.zero_add])).alloc _
  have x2 : Row (w2.alloc (.cells (madeCells #[.int .i64 0] 9) 3)) g2 (dgN b) := (r2.congr (fun i hi => by rw [dg_num 0 b i hi b0 b1]; unfold num; rw [Int.zero_mul, Int.zero_add])).alloc _
  obtain ⟨g3, hg3⟩ : ∃ g3, w2.heap.size = g3 := ⟨_, rfl⟩
  rw [hg3] at x0 ⊢
  have q1 : w.heap.size + 1 ≤ g1 := by omega
  have q2 : g1 < g3 := by omega
  have q3 : g2 < g3 := by omega
  have q4 : g1 < g2 := by omega
  generalize w2.alloc (.cells (madeCells #[.int .i64 0] 9) 3) = w3 at x0 x1 x2 hB ⊢
  clear hb1 hb2 hs1 hs2 l1 l2 r1 r2 hg1 hg2 hg3
  have b2 : b < 18446744073709551616 := by omega
  go_loopw [8] (fun i wr => ∃ k : Nat, k ≤ 4 ∧ i = .int .i64 k ∧ wr.rowIs g3 3 9 (fun j => .int .i64 (dgN (rowp a b k) j)) ∧ Row wr g1 (dgN a) ∧ Row wr g2 (dgN b) ∧ Below (w.heap.size + 1) (w.alloc (.cells #[.int .u64 0, .int .u64 0] 52)) wr)
    (fun i _ => 4 - (intOf i).toNat)
  case atStart => exact ⟨0, Nat.zero_le _, rfl, x0, x1, x2, hB⟩
  case round =>
    clear x0 x1 x2 hB
    obtain ⟨i, hi, rfl, x0, x1, x2, hB⟩ := hrel
    by_cases hlt : i < 4
    · go_wp2
      go_loopw [9, 10] (fun c k wi => ∃ k' : Nat, k' ≤ 4 ∧ k = .int .i64 k' ∧ c = .int .i64 (mc (rowp a b i) (dgN a i) b i k') ∧ wi.rowIs g3 3 9 (fun j => .int .i64 (mixm a b i (i + k') j)) ∧ Row wi g1 (dgN a) ∧ Row wi g2 (dgN b) ∧ Below (w.heap.size + 1) (w.alloc (.cells #[.int .u64 0, .int .u64 0] 52)) wi)
        (fun _ k _ => 4 - (intOf k).toNat)
      case atStart => exact ⟨0, Nat.zero_le _, rfl, by rw [mc_zero], x0.congr (fun j _ => by rw [mixm_start]), x1, x2, hB⟩
      case round =>
        clear x0 x1 x2 hB
        obtain ⟨k, hk, rfl, rfl, x0, x1, x2, hB⟩ := hrel
        have n0 := dgN0 a i
        have n1 := dgN1 a i
        have n2 := dgN0 b k
        have n3 := dgN1 b k
        have n4 := mc0 (rowp a b i) (dgN a i) b i k n0 n1
        have n5 := mc1 (rowp a b i) (dgN a i) b i k n0 n1
        by_cases hk4 : k < 4
        · have m0 := x0.cell (i := i + k) (by omega)
          rw [mixm_at] at m0
          have m1 := x1.cell (i := i) (by omega)
          have m2 := x2.cell (i := k) (by omega)
          have m3 := x0.frozen (i + k)
          have n6 := dgN0 (rowp a b i) (i + k)
          have n7 := dgN1 (rowp a b i) (i + k)
          have n8 := Int.mul_nonneg n0 n2
          have n9 := Int.mul_le_mul n1 n3 n2 (by omega)
          have e1 := mc_step (rowp a b i) (dgN a i) b i k
          rw [← rowp_succ] at e1
          have e2 := mc_next (rowp a b i) (dgN a i) b i k
          go_wp2
          go_quiet (fail)
          go_wp2
          go_roundw
          case rel => exact ⟨k + 1, by omega, by go_num, by rw [e2], ((rowIs_drewN x0 nq).set (i + k) _).congr (fun j _ => by rw [← Nat.add_assoc, ← mixm_step]; split <;> rfl), (x1.drewN nq).setOther (by show g1 ≠ g3; omega) _, (x2.drewN nq).setOther (by show g2 ≠ g3; omega) _, (below_drewN hB nq).setCell (by show _ ≤ g3; omega) _⟩
          case measure => simp [intOf]; omega
        · have hk5 : k = 4 := by omega
          subst hk5
          have m0 := x0.cell (i := i + 4) (by omega)
          rw [mixm_four a b i b0 b2] at m0
          have m3 := x0.frozen (i + 4)
          have e1 := mc_four a b i b0 b2
          have n6 := dgN0 (rowp a b (i + 1)) (i + 4)
          have n7 := dgN1 (rowp a b (i + 1)) (i + 4)
          go_wp2
          refine ⟨⟨i + 1, by omega, by go_num, (x0.set (i + 4) _).congr (fun j _ => ?_), x1.setOther (by show g1 ≠ g3; omega) _, x2.setOther (by show g2 ≠ g3; omega) _, hB.setCell (by show _ ≤ g3; omega) _⟩, by simp [intOf]; omega⟩
          have hst := mixm_step a b i (i + 4) j
          rw [mixm_end a b i j b0 b2] at hst
          rw [← hst]
          split <;> rfl
    · have hi4 : i = 4 := by omega
      rw [hi4, rowp_four a b a0 (by omega)] at x0
      have ha := Int.mul_nonneg a0 b0
      have hm : a * b % 340282366920938463463374607431768211456 = a * b := by
        have := Int.mul_le_mul a1 b1 b0 (by omega)
        omega
      have v0 : lv (dgN (a * b)) 0 = lo (a * b) := by rw [val_lo, hm]
      have v1 : lv (up (dgN (a * b))) 0 = Kn.hi (a * b) := by rw [val_hi, hm]
      clear hi4 ha hm
      go_wp2_with fail
      refine (value_any _ _ _ _ (row_of_nine x0) (fun i _ => ⟨dgN0 _ _, dgN1 _ _⟩)).mono ?_
      rintro e w5 ⟨rfl, hb5⟩
      rw [v0, v1]
      have zB := hB.size
      simp at zB
      have p0 : w5.cell? ⟨w.heap.size, 0, none⟩ = some (.int .u64 0) := (hb5.cell (by show w.heap.size < _; omega)).trans ((hB.cell (by show w.heap.size < _; omega)).trans (World.cell?_alloc_at _ _ _ _ rfl))
      have p1 : w5.cell? ⟨w.heap.size, 1, none⟩ = some (.int .u64 0) := (hb5.cell (by show w.heap.size < _; omega)).trans ((hB.cell (by show w.heap.size < _; omega)).trans (World.cell?_alloc_at _ _ _ _ rfl))
      have p2 : ∀ o, w5.frozen? ⟨w.heap.size, o, none⟩ = false := fun o => (hb5.frozen (by show w.heap.size < _; omega)).trans ((hB.frozen (by show w.heap.size < _; omega)).trans (World.frozen?_alloc_at _ _ _ _ rfl))
      go_wp2
      refine bodyPost_ret (v := .agg #[.int .u64 (Kn.hi (a * b)), .int .u64 (lo (a * b))]) (by simp [results, Try.results33, go_sem, p0, p1]) rfl ⟨rfl, ?_⟩
      exact ((((Below.refl _ _).alloc (Nat.le_refl _) _).trans ((hB.mono (by omega)).trans (hb5.mono (by omega)))).setCell (by show _ ≤ w.heap.size; omega) _).setCell (by show _ ≤ w.heap.size; omega) _
end Go.Proofs.Ytfbkimhblfpibaa
