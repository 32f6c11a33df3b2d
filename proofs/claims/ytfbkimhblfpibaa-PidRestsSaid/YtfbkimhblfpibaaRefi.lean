/- The document's answers of layer 1: the quotient, bit by bit. -/
import Derived.Test.YtfbkimhblfpibaaRefh
namespace Go.Proofs.Ytfbkimhblfpibaa
open Go.ChangeShapes Go.WideShapes Go.ChangeAt Go.RowKit Kn
set_option linter.unusedVariables false
/-- One bit more of the quotient. -/
theorem bit_step (n d : Int) (j : Nat) (d0 : 0 < d) : n / 2 ^ j = 2 * (n / 2 ^ (j + 1)) + bitN n j ∧ 0 ≤ bitN n j ∧ bitN n j ≤ 1 := by
  unfold bitN
  rw [Int.pow_succ, ← Int.ediv_ediv_of_nonneg (Int.le_of_lt (Int.pow_pos (by decide)))]
  omega
theorem quo_step (n d : Int) (j : Nat) (d0 : 0 < d) :
    (d ≤ 2 * (n / 2 ^ (j + 1) % d) + bitN n j → n / 2 ^ j / d = 2 * (n / 2 ^ (j + 1) / d) + 1 ∧ n / 2 ^ j % d = 2 * (n / 2 ^ (j + 1) % d) + bitN n j - d) ∧
    (2 * (n / 2 ^ (j + 1) % d) + bitN n j < d → n / 2 ^ j / d = 2 * (n / 2 ^ (j + 1) / d) ∧ n / 2 ^ j % d = 2 * (n / 2 ^ (j + 1) % d) + bitN n j) := by
  obtain ⟨e, b0, b1⟩ := bit_step n d j d0
  have e2 := Int.mul_ediv_add_emod (n / 2 ^ (j + 1)) d
  have r0 := Int.emod_nonneg (n / 2 ^ (j + 1)) (Int.ne_of_gt d0)
  have r1 := Int.emod_lt_of_pos (n / 2 ^ (j + 1)) d0
  rw [e]
  generalize bitN n j = b at *
  generalize hq : n / 2 ^ (j + 1) / d = q at *
  generalize n / 2 ^ (j + 1) % d = r at *
  generalize n / 2 ^ (j + 1) = m at *
  rw [Int.mul_comm] at e2
  refine ⟨fun h => ?_, fun h => ?_⟩
  · exact div_unique _ d _ _ (by rw [Int.add_mul, Int.mul_assoc]; omega) (by omega) (by omega)
  · exact div_unique _ d _ _ (by rw [Int.mul_assoc]; omega) (by omega) (by omega)
set_option maxHeartbeats 1000000 in
theorem rdiv_zero (h l : Int) (w : World) :
    Calls Try.prog 32 #[.agg #[.int .u64 h, .int .u64 l], .int .u64 0] w fun e w' => e = .returned (.tuple #[.agg #[.int .u64 0, .int .u64 0], .int .u64 0]) ∧ Below w.heap.size w w' := by
  go_enter Try.func32, Try.ntmps32
  go_wp2
  refine bodyPost_ret (v := .tuple #[.agg #[.int .u64 0, .int .u64 0], .int .u64 0]) (by simp [results, Try.results32, go_sem]) rfl ⟨rfl, ((Below.refl _ _).alloc (Nat.le_refl _) _).alloc (by simp) _⟩
/-- What is kept while the bits are gone through. -/
structure DivAt (w wr : World) (N d q r : Int) : Prop where
  below : Below w.heap.size w wr
  size : w.heap.size + 5 ≤ wr.heap.size
  n0 : wr.cell? ⟨w.heap.size, 0, none⟩ = some (.int .u64 (hi N))
  n1 : wr.cell? ⟨w.heap.size, 1, none⟩ = some (.int .u64 (lo N))
  z0 : wr.cell? ⟨w.heap.size + 1, 0, none⟩ = some (.int .u64 0)
  z1 : wr.cell? ⟨w.heap.size + 1, 1, none⟩ = some (.int .u64 0)
  q0 : wr.cell? ⟨w.heap.size + 1 + 1, 0, none⟩ = some (.int .u64 (hi q))
  q1 : wr.cell? ⟨w.heap.size + 1 + 1, 1, none⟩ = some (.int .u64 (lo q))
  r0 : wr.cell? ⟨w.heap.size + 1 + 1 + 1, 0, none⟩ = some (.int .u64 (hi r))
  r1 : wr.cell? ⟨w.heap.size + 1 + 1 + 1, 1, none⟩ = some (.int .u64 (lo r))
  d0 : wr.cell? ⟨w.heap.size + 1 + 1 + 1 + 1, 0, none⟩ = some (.int .u64 0)
  d1 : wr.cell? ⟨w.heap.size + 1 + 1 + 1 + 1, 1, none⟩ = some (.int .u64 d)
  f0 : wr.frozen? ⟨w.heap.size + 1, 0, none⟩ = false
  f1 : wr.frozen? ⟨w.heap.size + 1, 1, none⟩ = false
  f2 : wr.frozen? ⟨w.heap.size + 1 + 1, 0, none⟩ = false
  f3 : wr.frozen? ⟨w.heap.size + 1 + 1, 1, none⟩ = false
  f4 : wr.frozen? ⟨w.heap.size + 1 + 1 + 1, 0, none⟩ = false
  f5 : wr.frozen? ⟨w.heap.size + 1 + 1 + 1, 1, none⟩ = false
namespace DivAt
variable {w W w1 : World} {N d q r : Int}
theorem drew (h : DivAt w W N d q r) : DivAt w W.drew N d q r := ⟨h.below.drew, h.size, h.n0, h.n1, h.z0, h.z1, h.q0, h.q1, h.r0, h.r1, h.d0, h.d1, h.f0, h.f1, h.f2, h.f3, h.f4, h.f5⟩
theorem call (h : DivAt w W N d q r) (hb : Below W.heap.size W w1) : DivAt w w1 N d q r := by
  have hs := h.size
  exact ⟨h.below.trans (hb.mono (by omega)), Nat.le_trans hs hb.size, (hb.cell (p := ⟨w.heap.size, 0, none⟩) (by show w.heap.size < _; omega)).trans h.n0, (hb.cell (p := ⟨w.heap.size, 1, none⟩) (by show w.heap.size < _; omega)).trans h.n1, (hb.cell (p := ⟨w.heap.size + 1, 0, none⟩) (by show w.heap.size + 1 < _; omega)).trans h.z0, (hb.cell (p := ⟨w.heap.size + 1, 1, none⟩) (by show w.heap.size + 1 < _; omega)).trans h.z1, (hb.cell (p := ⟨w.heap.size + 1 + 1, 0, none⟩) (by show w.heap.size + 1 + 1 < _; omega)).trans h.q0, (hb.cell (p := ⟨w.heap.size + 1 + 1, 1, none⟩) (by show w.heap.size + 1 + 1 < _; omega)).trans h.q1, (hb.cell (p := ⟨w.heap.size + 1 + 1 + 1, 0, none⟩) (by show w.heap.size + 1 + 1 + 1 < _; omega)).trans h.r0, (hb.cell (p := ⟨w.heap.size + 1 + 1 + 1, 1, none⟩) (by show w.heap.size + 1 + 1 + 1 < _; omega)).trans h.r1, (hb.cell (p := ⟨w.heap.size + 1 + 1 + 1 + 1, 0, none⟩) (by show w.heap.size + 1 + 1 + 1 + 1 < _; omega)).trans h.d0, (hb.cell (p := ⟨w.heap.size + 1 + 1 + 1 + 1, 1, none⟩) (by show w.heap.size + 1 + 1 + 1 + 1 < _; omega)).trans h.d1, (hb.frozen (p := ⟨w.heap.size + 1, 0, none⟩) (by show w.heap.size + 1 < _; omega)).trans h.f0, (hb.frozen (p := ⟨w.heap.size + 1, 1, none⟩) (by show w.heap.size + 1 < _; omega)).trans h.f1, (hb.frozen (p := ⟨w.heap.size + 1 + 1, 0, none⟩) (by show w.heap.size + 1 + 1 < _; omega)).trans h.f2, (hb.frozen (p := ⟨w.heap.size + 1 + 1, 1, none⟩) (by show w.heap.size + 1 + 1 < _; omega)).trans h.f3, (hb.frozen (p := ⟨w.heap.size + 1 + 1 + 1, 0, none⟩) (by show w.heap.size + 1 + 1 + 1 < _; omega)).trans h.f4, (hb.frozen (p := ⟨w.heap.size + 1 + 1 + 1, 1, none⟩) (by show w.heap.size + 1 + 1 + 1 < _; omega)).trans h.f5⟩
theorem setQ (h : DivAt w W N d q r) (x : Int) : DivAt w ((W.setCell ⟨w.heap.size + 1 + 1, 0, none⟩ (.int .u64 (hi x))).setCell ⟨w.heap.size + 1 + 1, 1, none⟩ (.int .u64 (lo x))) N d x r := by
  obtain ⟨hb, hsz, n0, n1, z0, z1, q0, q1, r0, r1, y0, y1, f0, f1, f2, f3, f4, f5⟩ := h
  exact ⟨(hb.setCell (p := ⟨w.heap.size + 1 + 1, 0, none⟩) (by dsimp only; omega) _).setCell (p := ⟨w.heap.size + 1 + 1, 1, none⟩) (by dsimp only; omega) _, by simpa [World.setCell] using hsz, by simp [go_sem, *], by simp [go_sem, *], by simp [go_sem, *], by simp [go_sem, *], by simp [go_sem, *], by simp [go_sem, *], by simp [go_sem, *], by simp [go_sem, *], by simp [go_sem, *], by simp [go_sem, *], by simp [go_sem, *], by simp [go_sem, *], by simp [go_sem, *], by simp [go_sem, *], by simp [go_sem, *], by simp [go_sem, *]⟩
theorem setR (h : DivAt w W N d q r) (x : Int) : DivAt w ((W.setCell ⟨w.heap.size + 1 + 1 + 1, 0, none⟩ (.int .u64 (hi x))).setCell ⟨w.heap.size + 1 + 1 + 1, 1, none⟩ (.int .u64 (lo x))) N d q x := by
  obtain ⟨hb, hsz, n0, n1, z0, z1, q0, q1, r0, r1, y0, y1, f0, f1, f2, f3, f4, f5⟩ := h
  exact ⟨(hb.setCell (p := ⟨w.heap.size + 1 + 1 + 1, 0, none⟩) (by dsimp only; omega) _).setCell (p := ⟨w.heap.size + 1 + 1 + 1, 1, none⟩) (by dsimp only; omega) _, by simpa [World.setCell] using hsz, by simp [go_sem, *], by simp [go_sem, *], by simp [go_sem, *], by simp [go_sem, *], by simp [go_sem, *], by simp [go_sem, *], by simp [go_sem, *], by simp [go_sem, *], by simp [go_sem, *], by simp [go_sem, *], by simp [go_sem, *], by simp [go_sem, *], by simp [go_sem, *], by simp [go_sem, *], by simp [go_sem, *], by simp [go_sem, *]⟩
end DivAt
set_option maxHeartbeats 4000000 in
set_option maxRecDepth 1000000 in
theorem rdiv_any (h l d : Int) (w : World) (h0 : 0 ≤ h) (h1 : h ≤ 18446744073709551615) (l0 : 0 ≤ l) (l1 : l ≤ 18446744073709551615) (d0 : 0 < d) (d1 : d ≤ 18446744073709551615) :
    Calls Try.prog 32 #[.agg #[.int .u64 h, .int .u64 l], .int .u64 d] w fun e w' => e = .returned (.tuple #[.agg #[.int .u64 (hi (num h l / d)), .int .u64 (lo (num h l / d))], .int .u64 (num h l % d)]) ∧ Below w.heap.size w w' := by
  have hd : (d == 0) = false := by simp; omega
  have NN := num_hi_lo (num h l)
  have N0 := num0 h l h0 l0
  have N1 := num1 h l h1 l1
  have eh := hi_num h l l0 l1
  have el := lo_num h l l0 l1
  obtain ⟨N, hN⟩ : ∃ N, num h l = N := ⟨_, rfl⟩
  rw [hN] at NN N0 N1 eh el ⊢
  clear hN
  rw [← eh, ← el]
  clear eh el h0 h1 l0 l1
  have p0 := hi0 N N0
  have p1 := hi1 N N1
  have p2 := lo0 N
  have p3 := lo1 N
  go_enter Try.func32, Try.ntmps32
  go_wp2
  go_loopw [9] (fun i wr => ∃ j : Nat, j ≤ 128 ∧ i = .int .i64 ((j : Int) - 1) ∧ DivAt w wr N d (N / 2 ^ j / d) (N / 2 ^ j % d))
    (fun i _ => (intOf i + 1).toNat)
  case atStart =>
    have z : N / 2 ^ 128 = 0 := Int.ediv_eq_zero_of_lt N0 N1
    refine ⟨128, by omega, rfl, ?_⟩
    rw [z]
    have z1 : (0 : Int) / d = 0 := Int.zero_ediv d
    have z2 : (0 : Int) % d = 0 := Int.zero_emod d
    rw [z1, z2]
    exact ⟨((((((Below.refl _ _).alloc (Nat.le_refl _) _).alloc (by simp) _).alloc (by simp; omega) _).alloc (by simp; omega) _).alloc (by simp; omega) _), by simp, by simp [go_sem], by simp [go_sem], by simp [go_sem], by simp [go_sem], by simp [go_sem]; rfl, by simp [go_sem]; rfl, by simp [go_sem]; rfl, by simp [go_sem]; rfl, by simp [go_sem], by simp [go_sem], by simp [go_sem], by simp [go_sem], by simp [go_sem], by simp [go_sem], by simp [go_sem], by simp [go_sem]⟩
  case round =>
    obtain ⟨j, hj, rfl, hD⟩ := hrel
    cases j with
    | zero =>
      have e0 : N / 2 ^ 0 = N := by rw [Int.pow_zero, Int.ediv_one]
      rw [e0] at hD
      clear e0
      have R0 : 0 ≤ N % d := Int.emod_nonneg _ (Int.ne_of_gt d0)
      have R1 : N % d < d := Int.emod_lt_of_pos _ d0
      have er : lo (N % d) = N % d := by unfold lo; omega
      have hD2 := hD
      obtain ⟨hb, hsz, n0, n1, z0, z1, q0, q1, r0, r1, y0, y1, f0, f1, f2, f3, f4, f5⟩ := hD2
      rw [er] at r1
      clear er R0 R1
      go_wp2
      go_region
      all_goals
        go_wp2
        refine bodyPost_ret (v := .tuple #[.agg #[.int .u64 (hi (N / d)), .int .u64 (lo (N / d))], .int .u64 (N % d)]) (by simp [results, Try.results32, go_sem, z0, z1]) rfl ⟨rfl, ?_⟩
        exact ((hb.setCell (p := ⟨w.heap.size + 1, 0, none⟩) (by dsimp only; omega) _).setCell (p := ⟨w.heap.size + 1, 1, none⟩) (by dsimp only; omega) _).drew
    | succ j =>
      have hD2 := hD
      obtain ⟨u1, u2⟩ := quo_step N d j d0
      obtain ⟨u3, b0, b1⟩ := bit_step N d j d0
      have P0 : 0 ≤ N / 2 ^ (j + 1) := Int.ediv_nonneg N0 (Int.le_of_lt (Int.pow_pos (by decide)))
      have P1 : N / 2 ^ (j + 1) ≤ 170141183460469231731687303715884105727 := by
        have a1 : N / 2 ^ (j + 1) = N / 2 / 2 ^ j := by rw [Int.pow_succ, Int.mul_comm, Int.ediv_ediv_of_nonneg (by decide)]
        rw [a1]
        have := Int.ediv_le_self (a := N / 2) (2 ^ j) (by omega)
        omega
      have R0 : 0 ≤ N / 2 ^ (j + 1) % d := Int.emod_nonneg _ (Int.ne_of_gt d0)
      have R1 : N / 2 ^ (j + 1) % d < d := Int.emod_lt_of_pos _ d0
      have Q0 : 0 ≤ N / 2 ^ (j + 1) / d := Int.ediv_nonneg P0 (Int.le_of_lt d0)
      have Q1 : N / 2 ^ (j + 1) / d ≤ N / 2 ^ (j + 1) := Int.ediv_le_self _ P0
      clear u3
      obtain ⟨q, hq⟩ : ∃ q, N / 2 ^ (j + 1) / d = q := ⟨_, rfl⟩
      obtain ⟨r, hr⟩ : ∃ r, N / 2 ^ (j + 1) % d = r := ⟨_, rfl⟩
      obtain ⟨b, hbit⟩ : ∃ b, bitN N j = b := ⟨_, rfl⟩
      rw [hq] at hD u1 u2 Q0 Q1
      rw [hr] at hD u1 u2 R0 R1
      rw [hbit] at u1 u2 b0 b1
      clear hq hr hD2
      have hD2 := hD
      obtain ⟨hb, hsz, n0, n1, z0, z1, q0, q1, r0, r1, y0, y1, f0, f1, f2, f3, f4, f5⟩ := hD2
      have Q2 : q ≤ 170141183460469231731687303715884105727 := by omega
      clear P0 P1 Q1
      have nq := num_hi_lo q
      have nr := num_hi_lo r
      have nq2 := num_hi_lo (2 * q)
      have nr2 := num_hi_lo (2 * r)
      have eq2 : addN q q = 2 * q := by unfold addN; omega
      have er2 : addN r r = 2 * r := by unfold addN; omega
      have b00 := hi0 q Q0
      have b01 := hi1 q (by omega)
      have b02 := lo0 q
      have b03 := lo1 q
      have b10 := hi0 r R0
      have b11 := hi1 r (by omega)
      have b12 := lo0 r
      have b13 := lo1 r
      have n01 : num 0 1 = 1 := rfl
      have nd : num 0 d = d := by unfold num; omega
      have vq0 := hi0 (2 * q) (by omega)
      have vq1 := hi1 (2 * q) (by omega)
      have vq2 := lo0 (2 * q)
      have vq3 := lo1 (2 * q)
      have vr0 := hi0 (2 * r) (by omega)
      have vr1 := hi1 (2 * r) (by omega)
      have vr2 := lo0 (2 * r)
      have vr3 := lo1 (2 * r)
      have U1 := Lib.hid u1; have U2 := Lib.hid u2; clear u1 u2
      go_wp2
      go_region_with (go_at_call 40; refine (rtwice_any _ _ _ (by omega) (by omega) (by omega) (by omega)).mono ?_; first | (rintro e wn ⟨rfl, hbn⟩; rw [nq, eq2]; replace hD := (by first | exact hD.call hbn | exact hD.drew.call hbn : DivAt w wn N d q r); have hD2 := hD; obtain ⟨hb, hsz, n0, n1, z0, z1, q0, q1, r0, r1, y0, y1, f0, f1, f2, f3, f4, f5⟩ := hD2; clear hbn) | (rintro e wn ⟨rfl, hbn⟩; rw [nr, er2]; replace hD := (by first | exact hD.call hbn | exact hD.drew.call hbn : DivAt w wn N d q r); have hD2 := hD; obtain ⟨hb, hsz, n0, n1, z0, z1, q0, q1, r0, r1, y0, y1, f0, f1, f2, f3, f4, f5⟩ := hD2; clear hbn))
      all_goals
        have hb01 : b = 0 ∨ b = 1 := by omega
        rcases hb01 with rfl | rfl
        · by_cases hge : d ≤ 2 * r
          · have eU : underB (2 * r) d = false := by unfold underB; simp; omega
            have eS : subN (2 * r) d = 2 * r - d := by unfold subN; omega
            have eQ : addN (2 * q) 1 = 2 * q + 1 := by unfold addN; omega
            go_wp2_with (first
              | (go_at_call 41; refine (rbit_any _ _ _ _ (by omega) (by omega) (by omega) (by omega) (by omega)).mono ?_; rintro e wn ⟨rfl, hbn⟩; rw [NN, hbit]; replace hD := (by first | exact ((hD.setQ (2 * q)).setR (2 * r)).call hbn | exact ((hD.setQ (2 * q)).setR (2 * r)).drew.call hbn | exact ((hD.setQ (2 * q)).setR (2 * r)).call hbn : DivAt w wn N d _ _); have hD2 := hD; obtain ⟨hb, hsz, n0, n1, z0, z1, q0, q1, r0, r1, y0, y1, f0, f1, f2, f3, f4, f5⟩ := hD2; clear hbn)
              | (go_at_call 37; refine (rless_any _ _ _ _ _ (by omega) (by omega) (by omega) (by omega) (by omega) (by omega) (by omega) (by omega)).mono ?_; rintro e wn ⟨rfl, hbn⟩; rw [nr2, nd, eU]; replace hD := (by first | exact (hD).call hbn | exact (hD).drew.call hbn | exact (hD).call hbn : DivAt w wn N d _ _); have hD2 := hD; obtain ⟨hb, hsz, n0, n1, z0, z1, q0, q1, r0, r1, y0, y1, f0, f1, f2, f3, f4, f5⟩ := hD2; clear hbn)
              | (go_at_call 38; refine (rsub_any _ _ _ _ _ (by omega) (by omega) (by omega) (by omega) (by omega) (by omega) (by omega) (by omega)).mono ?_; rintro e wn ⟨rfl, hbn⟩; rw [nr2, nd, eS]; replace hD := (by first | exact (hD).call hbn | exact (hD).drew.call hbn | exact (hD).call hbn : DivAt w wn N d _ _); have hD2 := hD; obtain ⟨hb, hsz, n0, n1, z0, z1, q0, q1, r0, r1, y0, y1, f0, f1, f2, f3, f4, f5⟩ := hD2; clear hbn)
              | (go_at_call 35; refine (radd_any _ _ _ _ _ (by omega) (by omega) (by omega) (by omega) (by omega) (by omega) (by omega) (by omega)).mono ?_; rintro e wn ⟨rfl, hbn⟩; rw [nq2, n01, eQ]; replace hD := (by first | exact (hD.setR (2 * r - d)).call hbn | exact (hD.setR (2 * r - d)).drew.call hbn | exact (hD.setR (2 * r - d)).call hbn : DivAt w wn N d _ _); have hD2 := hD; obtain ⟨hb, hsz, n0, n1, z0, z1, q0, q1, r0, r1, y0, y1, f0, f1, f2, f3, f4, f5⟩ := hD2; clear hbn))
            have u12 := U1.out (by omega)
            obtain ⟨u1, u2⟩ := u12
            go_roundw
            case rel =>
              refine ⟨j, by omega, rfl, ?_⟩
              rw [u1, u2]
              try rw [Int.add_zero]
              exact hD.setQ (2 * q + 1)
            case measure => simp [intOf]
          · have eU : underB (2 * r) d = true := by unfold underB; simp; omega
            go_wp2_with (first
              | (go_at_call 41; refine (rbit_any _ _ _ _ (by omega) (by omega) (by omega) (by omega) (by omega)).mono ?_; rintro e wn ⟨rfl, hbn⟩; rw [NN, hbit]; replace hD := (by first | exact ((hD.setQ (2 * q)).setR (2 * r)).call hbn | exact ((hD.setQ (2 * q)).setR (2 * r)).drew.call hbn | exact ((hD.setQ (2 * q)).setR (2 * r)).call hbn : DivAt w wn N d _ _); have hD2 := hD; obtain ⟨hb, hsz, n0, n1, z0, z1, q0, q1, r0, r1, y0, y1, f0, f1, f2, f3, f4, f5⟩ := hD2; clear hbn)
              | (go_at_call 37; refine (rless_any _ _ _ _ _ (by omega) (by omega) (by omega) (by omega) (by omega) (by omega) (by omega) (by omega)).mono ?_; rintro e wn ⟨rfl, hbn⟩; rw [nr2, nd, eU]; replace hD := (by first | exact (hD).call hbn | exact (hD).drew.call hbn | exact (hD).call hbn : DivAt w wn N d _ _); have hD2 := hD; obtain ⟨hb, hsz, n0, n1, z0, z1, q0, q1, r0, r1, y0, y1, f0, f1, f2, f3, f4, f5⟩ := hD2; clear hbn))
            have u12 := U2.out (by omega)
            obtain ⟨u1, u2⟩ := u12
            go_roundw
            case rel =>
              refine ⟨j, by omega, rfl, ?_⟩
              rw [u1, u2]
              try rw [Int.add_zero]
              exact hD
            case measure => simp [intOf]
        · by_cases hge : d ≤ 2 * r + 1
          · have nrb := num_hi_lo (2 * r + 1)
            have vrb0 := hi0 (2 * r + 1) (by omega)
            have vrb1 := hi1 (2 * r + 1) (by omega)
            have vrb2 := lo0 (2 * r + 1)
            have vrb3 := lo1 (2 * r + 1)
            have eA : addN (2 * r) 1 = 2 * r + 1 := by unfold addN; omega
            have eU : underB (2 * r + 1) d = false := by unfold underB; simp; omega
            have eS : subN (2 * r + 1) d = 2 * r + 1 - d := by unfold subN; omega
            have eQ : addN (2 * q) 1 = 2 * q + 1 := by unfold addN; omega
            go_wp2_with (first
              | (go_at_call 41; refine (rbit_any _ _ _ _ (by omega) (by omega) (by omega) (by omega) (by omega)).mono ?_; rintro e wn ⟨rfl, hbn⟩; rw [NN, hbit]; replace hD := (by first | exact ((hD.setQ (2 * q)).setR (2 * r)).call hbn | exact ((hD.setQ (2 * q)).setR (2 * r)).drew.call hbn | exact ((hD.setQ (2 * q)).setR (2 * r)).call hbn : DivAt w wn N d _ _); have hD2 := hD; obtain ⟨hb, hsz, n0, n1, z0, z1, q0, q1, r0, r1, y0, y1, f0, f1, f2, f3, f4, f5⟩ := hD2; clear hbn)
              | (go_at_call 35; refine (radd_any _ _ _ _ _ (by omega) (by omega) (by omega) (by omega) (by omega) (by omega) (by omega) (by omega)).mono ?_; rintro e wn ⟨rfl, hbn⟩; rw [nr2, n01, eA]; replace hD := (by first | exact (hD).call hbn | exact (hD).drew.call hbn | exact (hD).call hbn : DivAt w wn N d _ _); have hD2 := hD; obtain ⟨hb, hsz, n0, n1, z0, z1, q0, q1, r0, r1, y0, y1, f0, f1, f2, f3, f4, f5⟩ := hD2; clear hbn)
              | (go_at_call 37; refine (rless_any _ _ _ _ _ (by omega) (by omega) (by omega) (by omega) (by omega) (by omega) (by omega) (by omega)).mono ?_; rintro e wn ⟨rfl, hbn⟩; rw [nrb, nd, eU]; replace hD := (by first | exact (hD.setR (2 * r + 1)).call hbn | exact (hD.setR (2 * r + 1)).drew.call hbn | exact (hD.setR (2 * r + 1)).call hbn : DivAt w wn N d _ _); have hD2 := hD; obtain ⟨hb, hsz, n0, n1, z0, z1, q0, q1, r0, r1, y0, y1, f0, f1, f2, f3, f4, f5⟩ := hD2; clear hbn)
              | (go_at_call 38; refine (rsub_any _ _ _ _ _ (by omega) (by omega) (by omega) (by omega) (by omega) (by omega) (by omega) (by omega)).mono ?_; rintro e wn ⟨rfl, hbn⟩; rw [nrb, nd, eS]; replace hD := (by first | exact (hD).call hbn | exact (hD).drew.call hbn | exact (hD).call hbn : DivAt w wn N d _ _); have hD2 := hD; obtain ⟨hb, hsz, n0, n1, z0, z1, q0, q1, r0, r1, y0, y1, f0, f1, f2, f3, f4, f5⟩ := hD2; clear hbn)
              | (go_at_call 35; refine (radd_any _ _ _ _ _ (by omega) (by omega) (by omega) (by omega) (by omega) (by omega) (by omega) (by omega)).mono ?_; rintro e wn ⟨rfl, hbn⟩; rw [nq2, n01, eQ]; replace hD := (by first | exact (hD.setR (2 * r + 1 - d)).call hbn | exact (hD.setR (2 * r + 1 - d)).drew.call hbn | exact (hD.setR (2 * r + 1 - d)).call hbn : DivAt w wn N d _ _); have hD2 := hD; obtain ⟨hb, hsz, n0, n1, z0, z1, q0, q1, r0, r1, y0, y1, f0, f1, f2, f3, f4, f5⟩ := hD2; clear hbn))
            have u12 := U1.out (by omega)
            obtain ⟨u1, u2⟩ := u12
            go_roundw
            case rel =>
              refine ⟨j, by omega, rfl, ?_⟩
              rw [u1, u2]
              try rw [Int.add_zero]
              exact hD.setQ (2 * q + 1)
            case measure => simp [intOf]
          · have nrb := num_hi_lo (2 * r + 1)
            have vrb0 := hi0 (2 * r + 1) (by omega)
            have vrb1 := hi1 (2 * r + 1) (by omega)
            have vrb2 := lo0 (2 * r + 1)
            have vrb3 := lo1 (2 * r + 1)
            have eA : addN (2 * r) 1 = 2 * r + 1 := by unfold addN; omega
            have eU : underB (2 * r + 1) d = true := by unfold underB; simp; omega
            go_wp2_with (first
              | (go_at_call 41; refine (rbit_any _ _ _ _ (by omega) (by omega) (by omega) (by omega) (by omega)).mono ?_; rintro e wn ⟨rfl, hbn⟩; rw [NN, hbit]; replace hD := (by first | exact ((hD.setQ (2 * q)).setR (2 * r)).call hbn | exact ((hD.setQ (2 * q)).setR (2 * r)).drew.call hbn | exact ((hD.setQ (2 * q)).setR (2 * r)).call hbn : DivAt w wn N d _ _); have hD2 := hD; obtain ⟨hb, hsz, n0, n1, z0, z1, q0, q1, r0, r1, y0, y1, f0, f1, f2, f3, f4, f5⟩ := hD2; clear hbn)
              | (go_at_call 35; refine (radd_any _ _ _ _ _ (by omega) (by omega) (by omega) (by omega) (by omega) (by omega) (by omega) (by omega)).mono ?_; rintro e wn ⟨rfl, hbn⟩; rw [nr2, n01, eA]; replace hD := (by first | exact (hD).call hbn | exact (hD).drew.call hbn | exact (hD).call hbn : DivAt w wn N d _ _); have hD2 := hD; obtain ⟨hb, hsz, n0, n1, z0, z1, q0, q1, r0, r1, y0, y1, f0, f1, f2, f3, f4, f5⟩ := hD2; clear hbn)
              | (go_at_call 37; refine (rless_any _ _ _ _ _ (by omega) (by omega) (by omega) (by omega) (by omega) (by omega) (by omega) (by omega)).mono ?_; rintro e wn ⟨rfl, hbn⟩; rw [nrb, nd, eU]; replace hD := (by first | exact (hD.setR (2 * r + 1)).call hbn | exact (hD.setR (2 * r + 1)).drew.call hbn | exact (hD.setR (2 * r + 1)).call hbn : DivAt w wn N d _ _); have hD2 := hD; obtain ⟨hb, hsz, n0, n1, z0, z1, q0, q1, r0, r1, y0, y1, f0, f1, f2, f3, f4, f5⟩ := hD2; clear hbn))
            have u12 := U2.out (by omega)
            obtain ⟨u1, u2⟩ := u12
            go_roundw
            case rel =>
              refine ⟨j, by omega, rfl, ?_⟩
              rw [u1, u2]
              try rw [Int.add_zero]
              exact hD
            case measure => simp [intOf]
end Go.Proofs.Ytfbkimhblfpibaa
