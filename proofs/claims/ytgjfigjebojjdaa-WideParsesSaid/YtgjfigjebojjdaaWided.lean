/- What the calls of package wide answer: the decimal digits. -/
import Derived.Test.YtgjfigjebojjdaaWide
import Derived.Laws.IdiomStrings
import Derived.ScopeJumps
import Derived.WalkMore
import Derived.LoopTactic
import Derived.Deep.OwnRows
import Derived.Tactics2
namespace Go.Proofs.Ytgjfigjebojjdaa
open Go.ChangeShapes Go.WideShapes Go.ChangeAt Go.RowKit Kn
set_option linter.unusedVariables false
def dch (n : Int) (k j : Nat) : Int := if k ≤ j then 48 + n / 10 ^ (38 - j) % 10 else 0
structure TextAt (w wr : World) (n : Int) (k : Nat) (m : Int) : Prop where
  below : Below w.heap.size w wr
  size : w.heap.size + 2 ≤ wr.heap.size
  n0 : wr.cell? ⟨w.heap.size, 0, none⟩ = some (.int .u64 (hi m))
  n1 : wr.cell? ⟨w.heap.size, 1, none⟩ = some (.int .u64 (lo m))
  f0 : wr.frozen? ⟨w.heap.size, 0, none⟩ = false
  f1 : wr.frozen? ⟨w.heap.size, 1, none⟩ = false
  row : wr.rowIs (w.heap.size + 1) 108 39 (fun j => .int .u8 (dch n k j))
  k1 : 1 ≤ k
  k2 : k ≤ 39
  m0 : 0 ≤ m
  m1 : m < 340282366920938463463374607431768211456
  hm : Hid (m = n / 10 ^ (39 - k))
  nz : k = 39 ∨ ¬ m = 0
def txt (n : Int) (p : Nat) : List UInt8 := (List.range (39 - p)).map fun i => UInt8.ofNat (48 + n / 10 ^ (38 - (p + i)) % 10).toNat
theorem txt_len (n : Int) (p : Nat) : (txt n p).length = 39 - p := by simp [txt]
theorem dch_step (n m : Int) (p j : Nat) (hm : m = n / 10 ^ (38 - p)) : (if j = p then 48 + m % 10 else dch n (p + 1) j) = dch n p j := by
  unfold dch
  by_cases h : j = p
  · subst h; rw [if_pos rfl, if_pos (Nat.le_refl _), hm]
  · rw [if_neg h]
    by_cases h2 : p + 1 ≤ j
    · rw [if_pos h2, if_pos (by omega)]
    · rw [if_neg h2, if_neg (by omega)]
set_option maxRecDepth 100000 in
theorem slice39 (W : World) (b p : Nat) (hp : p < 39) : (Instr.sliceAt 108 (.pointer (some ⟨b, 0, none⟩)) (some (.int .i64 p)) none none).run Try.prog W = .ok (.slice (some ⟨b, p, none⟩) (39 - p) (39 - p)) W := by
  have hal : Try.prog.arrayLen 108 = 39 := by kernel_rfl
  have e := run_sliceAt_array_l (P := Try.prog) W 108 ⟨b, 0, none⟩ (by kernel_rfl) .i64 (p : Int) (by omega) (by rw [hal]; omega)
  have hs : (sizeOf (Try.prog.elem 108)).run Try.prog W = .ok 1 W := by kernel_rfl
  rw [e, hs, hal]
  simp [Result.andThen, slicedAt, Addr.add]
  rw [if_neg (by omega)]
  split
  · subst_vars; rfl
  · rfl
theorem string39 (W : World) (b p : Nat) (n : Int) (hp : p < 39) (hr : W.rowIs b 108 39 (fun j => .int .u8 (dch n p j))) : (convert 87 9 (.slice (some ⟨b, p, none⟩) (39 - p) (39 - p))).run Try.prog W = .ok (.string ⟨(txt n p).toArray⟩) W := by
  have h := run_convert_bytes_back (P := Try.prog) W 87 9 5 ⟨b, p, none⟩ (39 - p) (txt n p) (by kernel_rfl) (by kernel_rfl) (by kernel_rfl) (fun j hj => by
    have hj' : j < 39 - p := by rw [txt_len] at hj; exact hj
    have hc := hr.cell (i := p + j) (by omega)
    have ha : (⟨b, p, none⟩ : Addr).add j = ⟨b, p + j, none⟩ := by unfold Addr.add; split <;> simp_all
    rw [ha, hc]
    have hel : (txt n p)[j] = UInt8.ofNat (48 + n / 10 ^ (38 - (p + j)) % 10).toNat := by simp [txt]
    rw [hel]
    unfold dch
    rw [if_pos (by omega)]
    have d0 : 0 ≤ n / 10 ^ (38 - (p + j)) % 10 := Int.emod_nonneg _ (by decide)
    have d1 : n / 10 ^ (38 - (p + j)) % 10 < 10 := Int.emod_lt_of_pos _ (by decide)
    generalize n / 10 ^ (38 - (p + j)) % 10 = d at d0 d1
    have e2 : (UInt8.ofNat (48 + d).toNat).toNat = (48 + d).toNat := by simp; omega
    rw [e2]
    congr 2; omega)
  rw [txt_len] at h
  exact h
set_option maxHeartbeats 8000000 in
set_option maxRecDepth 100000 in
theorem wtext_num (N : Int) (w : World) (N0 : 0 ≤ N) (N1 : N < 340282366920938463463374607431768211456) :
    Calls Try.prog 17 #[.agg #[.int .u64 (hi N), .int .u64 (lo N)]] w fun e w' => (∃ p : Nat, p < 39 ∧ N / 10 ^ (39 - p) = 0 ∧ (p = 38 ∨ ¬ N / 10 ^ (38 - p) = 0) ∧ e = .returned (.string ⟨(txt N p).toArray⟩)) ∧ Below w.heap.size w w' := by
  go_enter Try.func17, Try.ntmps17
  go_wp2_with fail
  refine wp_scope_jumps 0 (fun a' w' => ∃ (k : Nat) (m : Int) (u5 u6 u7 u8 u9 u10 u11 u12 u13 u14 u15 u16 u17 u18 u19 u20 u21 u22 u23 u24 u25 : Value), a' = { tmps := #[.agg #[.int .u64 (hi N), .int .u64 (lo N)], .pointer (some ⟨w.heap.size, 0, none⟩), .string ⟨#[]⟩, .pointer (some ⟨w.heap.size + 1, 0, none⟩), .int .i64 k, u5, u6, u7, u8, u9, u10, u11, u12, u13, u14, u15, u16, u17, u18, u19, u20, u21, u22, u23, u24, u25], defers := [] } ∧ TextAt w w' N k m) (fun a' _ => (intOf (a'.tmps.getD 4 undef)).toNat) rfl ?_ ?_
  · go_wp2_with fail
    go_step3
    have hT : TextAt w ((w.alloc (.cells #[.int .u64 (hi N), .int .u64 (lo N)] 25)).alloc (.cells #[.int .u8 0, .int .u8 0, .int .u8 0, .int .u8 0, .int .u8 0, .int .u8 0, .int .u8 0, .int .u8 0, .int .u8 0, .int .u8 0, .int .u8 0, .int .u8 0, .int .u8 0, .int .u8 0, .int .u8 0, .int .u8 0, .int .u8 0, .int .u8 0, .int .u8 0, .int .u8 0, .int .u8 0, .int .u8 0, .int .u8 0, .int .u8 0, .int .u8 0, .int .u8 0, .int .u8 0, .int .u8 0, .int .u8 0, .int .u8 0, .int .u8 0, .int .u8 0, .int .u8 0, .int .u8 0, .int .u8 0, .int .u8 0, .int .u8 0, .int .u8 0, .int .u8 0] 108)) N 39 N := by
      refine ⟨((Below.refl _ _).alloc (Nat.le_refl _) _).alloc (by simp) _, by simp, by simp [go_sem], by simp [go_sem], by simp [go_sem], by simp [go_sem], ?_, by omega, by omega, N0, N1, Lib.hid (by rw [show 39 - 39 = 0 from rfl, Int.pow_zero, Int.ediv_one]), .inl rfl⟩
      have hr := World.rowIs_alloc (w.alloc (.cells #[.int .u64 (hi N), .int .u64 (lo N)] 25)) #[.int .u8 0, .int .u8 0, .int .u8 0, .int .u8 0, .int .u8 0, .int .u8 0, .int .u8 0, .int .u8 0, .int .u8 0, .int .u8 0, .int .u8 0, .int .u8 0, .int .u8 0, .int .u8 0, .int .u8 0, .int .u8 0, .int .u8 0, .int .u8 0, .int .u8 0, .int .u8 0, .int .u8 0, .int .u8 0, .int .u8 0, .int .u8 0, .int .u8 0, .int .u8 0, .int .u8 0, .int .u8 0, .int .u8 0, .int .u8 0, .int .u8 0, .int .u8 0, .int .u8 0, .int .u8 0, .int .u8 0, .int .u8 0, .int .u8 0, .int .u8 0, .int .u8 0] 108 (fun j => .int .u8 (dch N 39 j)) (fun i hi => by
        have e : dch N 39 i = 0 := by unfold dch; exact if_neg (by have : i < 39 := hi; omega)
        rw [e]
        show (Array.replicate 39 (Value.int .u8 0))[i]? = _
        have hi2 : i < 39 := hi
        rw [Array.getElem?_replicate, if_pos hi2])
      simpa using hr
    generalize ((w.alloc (.cells #[.int .u64 (hi N), .int .u64 (lo N)] 25)).alloc (.cells #[.int .u8 0, .int .u8 0, .int .u8 0, .int .u8 0, .int .u8 0, .int .u8 0, .int .u8 0, .int .u8 0, .int .u8 0, .int .u8 0, .int .u8 0, .int .u8 0, .int .u8 0, .int .u8 0, .int .u8 0, .int .u8 0, .int .u8 0, .int .u8 0, .int .u8 0, .int .u8 0, .int .u8 0, .int .u8 0, .int .u8 0, .int .u8 0, .int .u8 0, .int .u8 0, .int .u8 0, .int .u8 0, .int .u8 0, .int .u8 0, .int .u8 0, .int .u8 0, .int .u8 0, .int .u8 0, .int .u8 0, .int .u8 0, .int .u8 0, .int .u8 0, .int .u8 0] 108)) = w' at hT ⊢
    obtain ⟨m, hmN⟩ : ∃ m, m = N := ⟨_, rfl⟩
    obtain ⟨hb, hsz, n0, n1, f0, f1, row, k1, k2, m0, m1, hm, nz⟩ := hT
    rw [← hmN] at n0 n1 m0 m1
    have hm : Hid (m = N / 10 ^ (39 - 39)) := Lib.hid (by rw [hmN]; exact hm.out)
    have nz : (39 : Nat) = 39 ∨ ¬ m = 0 := .inl rfl
    clear hmN
    have a0 := hi0 m m0
    have a1 := hi1 m m1
    have a2 := lo0 m
    have a3 := lo1 m
    have en := num_hi_lo m
    have hsl : ∀ W : World, (Instr.sliceAt 108 (.pointer (some ⟨w.heap.size + 1, 0, none⟩)) (some (.int .i64 38)) none none).run Try.prog W = .ok (.slice (some ⟨w.heap.size + 1, 38, none⟩) 1 1) W := fun W => slice39 W (w.heap.size + 1) 38 (by omega)
    by_cases hq : m / 10 = 0
    · have HQ := Lib.hid hq
      have eh : hi (m / 10) = 0 := by rw [hq]; rfl
      have el : lo (m / 10) = 0 := by rw [hq]; rfl
      clear hq
      have exz : N / 10 ^ (39 - 38) = 0 := by
        have := HQ.out
        rw [hm.out, Int.ediv_ediv_of_nonneg (Int.le_of_lt (Int.pow_pos (by decide))), ← Int.pow_succ, show (39 - 39 : Nat).succ = 39 - 38 by omega] at this
        exact this
      have exn : 38 = 38 ∨ ¬ N / 10 ^ (38 - 38) = 0 := by
        rcases nz with e | e
        · exact .inl (by omega)
        · refine .inr ?_
          rw [hm.out, show 39 - 39 = 38 - 38 by omega] at e
          exact e
      have EXZ := Lib.hid exz; clear exz exn
      go_wp2_with (go_at_call 56; refine (wdiv_any _ _ _ _ a0 a1 a2 a3 (by omega) (by omega)).mono ?_; rintro e w1 ⟨rfl, hb1⟩; rw [en, eh, el]; have hz1 := hb1.size; have c0 : w1.cell? ⟨w.heap.size, 0, none⟩ = some (.int .u64 (hi m)) := (hb1.cell (by (show w.heap.size < _; omega))).trans n0; have c1 : w1.cell? ⟨w.heap.size, 1, none⟩ = some (.int .u64 (lo m)) := (hb1.cell (by (show w.heap.size < _; omega))).trans n1; have g0 : w1.frozen? ⟨w.heap.size, 0, none⟩ = false := (hb1.frozen (by (show w.heap.size < _; omega))).trans f0; have g1 : w1.frozen? ⟨w.heap.size, 1, none⟩ = false := (hb1.frozen (by (show w.heap.size < _; omega))).trans f1; have rw1 := row.of_block (hb1.block _ (by omega)); have d0 := rw1.cell (i := 38) (by omega); have d1 := rw1.frozen 38; have hz2 : w.heap.size < w1.heap.size := (by omega); have hz3 : w.heap.size + 1 < w1.heap.size := (by omega); have HROW := Lib.hid (fun X Y Q => (((((rw1.set 38 (.int .u8 (48 + m % 10))).setOther (a := ⟨w.heap.size, 0, none⟩) (by show w.heap.size + 1 ≠ w.heap.size; omega) X).setOther (a := ⟨w.heap.size, 1, none⟩) (by show w.heap.size + 1 ≠ w.heap.size; omega) Y).alloc Q).congr (g := fun j => .int .u8 (dch (N) 38 j)) (fun j _ => by (rw [← dch_step (N) m 38 j (by rw [hm.out, show 39 - 39 = 38 - 38 by omega])]; split <;> rfl)))); have hcv := string39 _ (w.heap.size + 1) 38 N (by omega) (HROW.out (.int .u64 0) (.int .u64 0) (.cells #[.int .u64 0, .int .u64 0] 25)))
      simp only [Exit.jump]
      go_ret
      exact ⟨⟨38, by omega, EXZ.out, .inl rfl, rfl⟩, ((((hb.trans (hb1.mono (by omega))).setCell (p := ⟨w.heap.size + 1, 38, none⟩) (by dsimp only; omega) _).setCell (p := ⟨w.heap.size, 0, none⟩) (Nat.le_refl _) _).setCell (p := ⟨w.heap.size, 1, none⟩) (Nat.le_refl _) _).alloc (by ((try simp); omega)) _⟩
    · have HQ := Lib.hid hq
      by_cases hz : hi (m / 10) = 0
      · have ez : (lo (m / 10) == 0) = false := by
          rw [beq_eq_false_iff_ne]; intro e; apply hq; have := num_hi_lo (m / 10); rw [hz, e] at this; rw [← this]; rfl
        clear hq
        go_wp2_with (go_at_call 56; refine (wdiv_any _ _ _ _ a0 a1 a2 a3 (by omega) (by omega)).mono ?_; rintro e w1 ⟨rfl, hb1⟩; rw [en, hz]; have hz1 := hb1.size; have c0 : w1.cell? ⟨w.heap.size, 0, none⟩ = some (.int .u64 (hi m)) := (hb1.cell (by (show w.heap.size < _; omega))).trans n0; have c1 : w1.cell? ⟨w.heap.size, 1, none⟩ = some (.int .u64 (lo m)) := (hb1.cell (by (show w.heap.size < _; omega))).trans n1; have g0 : w1.frozen? ⟨w.heap.size, 0, none⟩ = false := (hb1.frozen (by (show w.heap.size < _; omega))).trans f0; have g1 : w1.frozen? ⟨w.heap.size, 1, none⟩ = false := (hb1.frozen (by (show w.heap.size < _; omega))).trans f1; have rw1 := row.of_block (hb1.block _ (by omega)); have d0 := rw1.cell (i := 38) (by omega); have d1 := rw1.frozen 38; have hz2 : w.heap.size < w1.heap.size := (by omega); have hz3 : w.heap.size + 1 < w1.heap.size := (by omega); have HROW := Lib.hid (fun X Y Q => (((((rw1.set 38 (.int .u8 (48 + m % 10))).setOther (a := ⟨w.heap.size, 0, none⟩) (by show w.heap.size + 1 ≠ w.heap.size; omega) X).setOther (a := ⟨w.heap.size, 1, none⟩) (by show w.heap.size + 1 ≠ w.heap.size; omega) Y).alloc Q).congr (g := fun j => .int .u8 (dch (N) 38 j)) (fun j _ => by (rw [← dch_step (N) m 38 j (by rw [hm.out, show 39 - 39 = 38 - 38 by omega])]; split <;> rfl)))))
        go_step3
        have hne : ¬ m / 10 = 0 := HQ.out
        have hpz : 1 ≤ 38 := by omega
        have hw := HROW.out
        have hm2 : m / 10 = N / 10 ^ (39 - 38) := by rw [hm.out, Int.ediv_ediv_of_nonneg (Int.le_of_lt (Int.pow_pos (by decide))), ← Int.pow_succ, show (39 - 39 : Nat).succ = 39 - 38 by omega]
        have HM2 := Lib.hid hm2; clear hm2
        refine ⟨rfl, 38, m / 10, _, _, _, _, _, _, _, _, _, _, _, _, _, _, _, _, _, _, _, _, _, rfl, ?_⟩
        exact ⟨((((hb.trans (hb1.mono (by omega))).setCell (p := ⟨w.heap.size + 1, 38, none⟩) (by dsimp only; omega) _).setCell (p := ⟨w.heap.size, 0, none⟩) (Nat.le_refl _) _).setCell (p := ⟨w.heap.size, 1, none⟩) (Nat.le_refl _) _).alloc (by ((try simp); omega)) _, by ((try simp); omega), by simp [go_sem, *], by simp [go_sem, *], by simp [go_sem, *], by simp [go_sem, *], hw _ _ _, hpz, by omega, by omega, by omega, HM2, .inr hne⟩
      · have ez : (hi (m / 10) == 0) = false := by simpa using hz
        clear hq hz
        go_wp2_with (go_at_call 56; refine (wdiv_any _ _ _ _ a0 a1 a2 a3 (by omega) (by omega)).mono ?_; rintro e w1 ⟨rfl, hb1⟩; rw [en]; have hz1 := hb1.size; have c0 : w1.cell? ⟨w.heap.size, 0, none⟩ = some (.int .u64 (hi m)) := (hb1.cell (by (show w.heap.size < _; omega))).trans n0; have c1 : w1.cell? ⟨w.heap.size, 1, none⟩ = some (.int .u64 (lo m)) := (hb1.cell (by (show w.heap.size < _; omega))).trans n1; have g0 : w1.frozen? ⟨w.heap.size, 0, none⟩ = false := (hb1.frozen (by (show w.heap.size < _; omega))).trans f0; have g1 : w1.frozen? ⟨w.heap.size, 1, none⟩ = false := (hb1.frozen (by (show w.heap.size < _; omega))).trans f1; have rw1 := row.of_block (hb1.block _ (by omega)); have d0 := rw1.cell (i := 38) (by omega); have d1 := rw1.frozen 38; have hz2 : w.heap.size < w1.heap.size := (by omega); have hz3 : w.heap.size + 1 < w1.heap.size := (by omega); have HROW := Lib.hid (fun X Y Q => (((((rw1.set 38 (.int .u8 (48 + m % 10))).setOther (a := ⟨w.heap.size, 0, none⟩) (by show w.heap.size + 1 ≠ w.heap.size; omega) X).setOther (a := ⟨w.heap.size, 1, none⟩) (by show w.heap.size + 1 ≠ w.heap.size; omega) Y).alloc Q).congr (g := fun j => .int .u8 (dch (N) 38 j)) (fun j _ => by (rw [← dch_step (N) m 38 j (by rw [hm.out, show 39 - 39 = 38 - 38 by omega])]; split <;> rfl)))))
        go_step3
        have hne : ¬ m / 10 = 0 := HQ.out
        have hpz : 1 ≤ 38 := by omega
        have hw := HROW.out
        have hm2 : m / 10 = N / 10 ^ (39 - 38) := by rw [hm.out, Int.ediv_ediv_of_nonneg (Int.le_of_lt (Int.pow_pos (by decide))), ← Int.pow_succ, show (39 - 39 : Nat).succ = 39 - 38 by omega]
        have HM2 := Lib.hid hm2; clear hm2
        refine ⟨rfl, 38, m / 10, _, _, _, _, _, _, _, _, _, _, _, _, _, _, _, _, _, _, _, _, _, rfl, ?_⟩
        exact ⟨((((hb.trans (hb1.mono (by omega))).setCell (p := ⟨w.heap.size + 1, 38, none⟩) (by dsimp only; omega) _).setCell (p := ⟨w.heap.size, 0, none⟩) (Nat.le_refl _) _).setCell (p := ⟨w.heap.size, 1, none⟩) (Nat.le_refl _) _).alloc (by ((try simp); omega)) _, by ((try simp); omega), by simp [go_sem, *], by simp [go_sem, *], by simp [go_sem, *], by simp [go_sem, *], hw _ _ _, hpz, by omega, by omega, by omega, HM2, .inr hne⟩
  · rintro a' w' ⟨k, m, u5, u6, u7, u8, u9, u10, u11, u12, u13, u14, u15, u16, u17, u18, u19, u20, u21, u22, u23, u24, u25, rfl, hT⟩
    obtain ⟨hb, hsz, n0, n1, f0, f1, row, k1, k2, m0, m1, hm, nz⟩ := hT
    obtain ⟨p, rfl⟩ : ∃ p, k = p + 1 := ⟨k - 1, by omega⟩
    have a0 := hi0 m m0
    have a1 := hi1 m m1
    have a2 := lo0 m
    have a3 := lo1 m
    have en := num_hi_lo m
    have hsl := fun W => slice39 W (w.heap.size + 1) p (by omega)
    by_cases hq : m / 10 = 0
    · have HQ := Lib.hid hq
      have eh : hi (m / 10) = 0 := by rw [hq]; rfl
      have el : lo (m / 10) = 0 := by rw [hq]; rfl
      clear hq
      have exz : N / 10 ^ (39 - p) = 0 := by
        have := HQ.out
        rw [hm.out, Int.ediv_ediv_of_nonneg (Int.le_of_lt (Int.pow_pos (by decide))), ← Int.pow_succ, show (39 - (p + 1)).succ = 39 - p by omega] at this
        exact this
      have exn : p = 38 ∨ ¬ N / 10 ^ (38 - p) = 0 := by
        rcases nz with e | e
        · exact .inl (by omega)
        · refine .inr ?_
          rw [hm.out, show 39 - (p + 1) = 38 - p by omega] at e
          exact e
      have EXZ := Lib.hid exz; have EXN := Lib.hid exn; clear exz exn
      go_wp2_with (go_at_call 56; refine (wdiv_any _ _ _ _ a0 a1 a2 a3 (by omega) (by omega)).mono ?_; rintro e w1 ⟨rfl, hb1⟩; rw [en, eh, el]; have hz1 := hb1.size; have c0 : w1.cell? ⟨w.heap.size, 0, none⟩ = some (.int .u64 (hi m)) := (hb1.cell (by (show w.heap.size < _; omega))).trans n0; have c1 : w1.cell? ⟨w.heap.size, 1, none⟩ = some (.int .u64 (lo m)) := (hb1.cell (by (show w.heap.size < _; omega))).trans n1; have g0 : w1.frozen? ⟨w.heap.size, 0, none⟩ = false := (hb1.frozen (by (show w.heap.size < _; omega))).trans f0; have g1 : w1.frozen? ⟨w.heap.size, 1, none⟩ = false := (hb1.frozen (by (show w.heap.size < _; omega))).trans f1; have rw1 := row.of_block (hb1.block _ (by omega)); have d0 := rw1.cell (i := p) (by omega); have d1 := rw1.frozen p; have hz2 : w.heap.size < w1.heap.size := (by omega); have hz3 : w.heap.size + 1 < w1.heap.size := (by omega); have HROW := Lib.hid (fun X Y Q => (((((rw1.set p (.int .u8 (48 + m % 10))).setOther (a := ⟨w.heap.size, 0, none⟩) (by show w.heap.size + 1 ≠ w.heap.size; omega) X).setOther (a := ⟨w.heap.size, 1, none⟩) (by show w.heap.size + 1 ≠ w.heap.size; omega) Y).alloc Q).congr (g := fun j => .int .u8 (dch (N) p j)) (fun j _ => by (rw [← dch_step (N) m p j (by rw [hm.out, show 39 - (p + 1) = 38 - p by omega])]; split <;> rfl)))); have hcv := string39 _ (w.heap.size + 1) p N (by omega) (HROW.out (.int .u64 0) (.int .u64 0) (.cells #[.int .u64 0, .int .u64 0] 25)))
      simp only [Exit.jump]
      go_ret
      exact ⟨⟨p, by omega, EXZ.out, EXN.out, rfl⟩, ((((hb.trans (hb1.mono (by omega))).setCell (p := ⟨w.heap.size + 1, p, none⟩) (by dsimp only; omega) _).setCell (p := ⟨w.heap.size, 0, none⟩) (Nat.le_refl _) _).setCell (p := ⟨w.heap.size, 1, none⟩) (Nat.le_refl _) _).alloc (by ((try simp); omega)) _⟩
    · have HQ := Lib.hid hq
      by_cases hz : hi (m / 10) = 0
      · have ez : (lo (m / 10) == 0) = false := by
          rw [beq_eq_false_iff_ne]; intro e; apply hq; have := num_hi_lo (m / 10); rw [hz, e] at this; rw [← this]; rfl
        clear hq
        go_wp2_with (go_at_call 56; refine (wdiv_any _ _ _ _ a0 a1 a2 a3 (by omega) (by omega)).mono ?_; rintro e w1 ⟨rfl, hb1⟩; rw [en, hz]; have hz1 := hb1.size; have c0 : w1.cell? ⟨w.heap.size, 0, none⟩ = some (.int .u64 (hi m)) := (hb1.cell (by (show w.heap.size < _; omega))).trans n0; have c1 : w1.cell? ⟨w.heap.size, 1, none⟩ = some (.int .u64 (lo m)) := (hb1.cell (by (show w.heap.size < _; omega))).trans n1; have g0 : w1.frozen? ⟨w.heap.size, 0, none⟩ = false := (hb1.frozen (by (show w.heap.size < _; omega))).trans f0; have g1 : w1.frozen? ⟨w.heap.size, 1, none⟩ = false := (hb1.frozen (by (show w.heap.size < _; omega))).trans f1; have rw1 := row.of_block (hb1.block _ (by omega)); have d0 := rw1.cell (i := p) (by omega); have d1 := rw1.frozen p; have hz2 : w.heap.size < w1.heap.size := (by omega); have hz3 : w.heap.size + 1 < w1.heap.size := (by omega); have HROW := Lib.hid (fun X Y Q => (((((rw1.set p (.int .u8 (48 + m % 10))).setOther (a := ⟨w.heap.size, 0, none⟩) (by show w.heap.size + 1 ≠ w.heap.size; omega) X).setOther (a := ⟨w.heap.size, 1, none⟩) (by show w.heap.size + 1 ≠ w.heap.size; omega) Y).alloc Q).congr (g := fun j => .int .u8 (dch (N) p j)) (fun j _ => by (rw [← dch_step (N) m p j (by rw [hm.out, show 39 - (p + 1) = 38 - p by omega])]; split <;> rfl)))))
        go_step3
        have hne : ¬ m / 10 = 0 := HQ.out
        have hpz : 1 ≤ p := by
          rcases Nat.eq_zero_or_pos p with e | e
          · exfalso; apply hne
            rw [hm.out, e, Int.ediv_ediv_of_nonneg (by decide)]
            exact Int.ediv_eq_zero_of_lt N0 (by omega)
          · exact e
        have hw := HROW.out
        have hm2 : m / 10 = N / 10 ^ (39 - p) := by rw [hm.out, Int.ediv_ediv_of_nonneg (Int.le_of_lt (Int.pow_pos (by decide))), ← Int.pow_succ, show (39 - (p + 1)).succ = 39 - p by omega]
        have HM2 := Lib.hid hm2; clear hm2
        refine ⟨rfl, ⟨p, m / 10, _, _, _, _, _, _, _, _, _, _, _, _, _, _, _, _, _, _, _, _, _, rfl, ?_⟩, by simp [intOf]⟩
        exact ⟨((((hb.trans (hb1.mono (by omega))).setCell (p := ⟨w.heap.size + 1, p, none⟩) (by dsimp only; omega) _).setCell (p := ⟨w.heap.size, 0, none⟩) (Nat.le_refl _) _).setCell (p := ⟨w.heap.size, 1, none⟩) (Nat.le_refl _) _).alloc (by ((try simp); omega)) _, by ((try simp); omega), by simp [go_sem, *], by simp [go_sem, *], by simp [go_sem, *], by simp [go_sem, *], hw _ _ _, hpz, by omega, by omega, by omega, HM2, .inr hne⟩
      · have ez : (hi (m / 10) == 0) = false := by simpa using hz
        clear hq hz
        go_wp2_with (go_at_call 56; refine (wdiv_any _ _ _ _ a0 a1 a2 a3 (by omega) (by omega)).mono ?_; rintro e w1 ⟨rfl, hb1⟩; rw [en]; have hz1 := hb1.size; have c0 : w1.cell? ⟨w.heap.size, 0, none⟩ = some (.int .u64 (hi m)) := (hb1.cell (by (show w.heap.size < _; omega))).trans n0; have c1 : w1.cell? ⟨w.heap.size, 1, none⟩ = some (.int .u64 (lo m)) := (hb1.cell (by (show w.heap.size < _; omega))).trans n1; have g0 : w1.frozen? ⟨w.heap.size, 0, none⟩ = false := (hb1.frozen (by (show w.heap.size < _; omega))).trans f0; have g1 : w1.frozen? ⟨w.heap.size, 1, none⟩ = false := (hb1.frozen (by (show w.heap.size < _; omega))).trans f1; have rw1 := row.of_block (hb1.block _ (by omega)); have d0 := rw1.cell (i := p) (by omega); have d1 := rw1.frozen p; have hz2 : w.heap.size < w1.heap.size := (by omega); have hz3 : w.heap.size + 1 < w1.heap.size := (by omega); have HROW := Lib.hid (fun X Y Q => (((((rw1.set p (.int .u8 (48 + m % 10))).setOther (a := ⟨w.heap.size, 0, none⟩) (by show w.heap.size + 1 ≠ w.heap.size; omega) X).setOther (a := ⟨w.heap.size, 1, none⟩) (by show w.heap.size + 1 ≠ w.heap.size; omega) Y).alloc Q).congr (g := fun j => .int .u8 (dch (N) p j)) (fun j _ => by (rw [← dch_step (N) m p j (by rw [hm.out, show 39 - (p + 1) = 38 - p by omega])]; split <;> rfl)))))
        go_step3
        have hne : ¬ m / 10 = 0 := HQ.out
        have hpz : 1 ≤ p := by
          rcases Nat.eq_zero_or_pos p with e | e
          · exfalso; apply hne
            rw [hm.out, e, Int.ediv_ediv_of_nonneg (by decide)]
            exact Int.ediv_eq_zero_of_lt N0 (by omega)
          · exact e
        have hw := HROW.out
        have hm2 : m / 10 = N / 10 ^ (39 - p) := by rw [hm.out, Int.ediv_ediv_of_nonneg (Int.le_of_lt (Int.pow_pos (by decide))), ← Int.pow_succ, show (39 - (p + 1)).succ = 39 - p by omega]
        have HM2 := Lib.hid hm2; clear hm2
        refine ⟨rfl, ⟨p, m / 10, _, _, _, _, _, _, _, _, _, _, _, _, _, _, _, _, _, _, _, _, _, rfl, ?_⟩, by simp [intOf]⟩
        exact ⟨((((hb.trans (hb1.mono (by omega))).setCell (p := ⟨w.heap.size + 1, p, none⟩) (by dsimp only; omega) _).setCell (p := ⟨w.heap.size, 0, none⟩) (Nat.le_refl _) _).setCell (p := ⟨w.heap.size, 1, none⟩) (Nat.le_refl _) _).alloc (by ((try simp); omega)) _, by ((try simp); omega), by simp [go_sem, *], by simp [go_sem, *], by simp [go_sem, *], by simp [go_sem, *], hw _ _ _, hpz, by omega, by omega, by omega, HM2, .inr hne⟩
end Go.Proofs.Ytgjfigjebojjdaa
