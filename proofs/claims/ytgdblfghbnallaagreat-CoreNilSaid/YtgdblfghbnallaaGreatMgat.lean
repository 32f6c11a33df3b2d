/- Texts of this claim, one behind the other: Refc Refh Refo Roota Rootb Rootc Cod Fix. -/
import Derived.Deep.DeepFit
import Derived.Test.YtgdblfghbnallaaGreatMgaa
import Derived.Test.YtgdblfghbnallaaGreatMgas
/- The document's answers of layer 1: sums and differences by digits. -/
namespace Go.Proofs.YtgdblfghbnallaaGreat
open Go.ChangeShapes Go.WideShapes Go.ChangeAt Go.RowKit Kn
set_option linter.unusedVariables false
theorem Row.drewN {w : World} {g : Nat} {f : Nat → Int} (h : Row w g f) (n : Nat) : Row (w.drewN n) g f := h
end Go.Proofs.YtgdblfghbnallaaGreat
/- The document's answers of layer 1: doubling, and a number's bits. -/
namespace Go.Proofs.YtgdblfghbnallaaGreat
open Go.ChangeShapes Go.WideShapes Go.ChangeAt Go.RowKit Kn
set_option linter.unusedVariables false
def bitN (n : Int) (i : Nat) : Int := n / 2 ^ i % 2
end Go.Proofs.YtgdblfghbnallaaGreat
/- The document's answers of layer 1: how many bits a number has. -/
namespace Go.Proofs.YtgdblfghbnallaaGreat
open Go.ChangeShapes Go.WideShapes Go.ChangeAt Go.RowKit Kn
set_option linter.unusedVariables false
/-- The place behind the highest bit below k. -/
def nb (n : Int) : Nat → Nat
  | 0 => 0
  | k + 1 => if bitN n k = 1 then k + 1 else nb n k
theorem nb_le (n : Int) (k : Nat) : nb n k ≤ k := by
  induction k with
  | zero => exact Nat.le_refl _
  | succ k ih => unfold nb; split <;> omega
theorem mod2_succ (n : Int) (k : Nat) : n % 2 ^ (k + 1) = bitN n k * 2 ^ k + n % 2 ^ k := by
  have p : (0 : Int) < 2 ^ k := Int.pow_pos (by decide)
  have e := Int.mul_ediv_add_emod n (2 ^ k)
  have e2 := Int.mul_ediv_add_emod n (2 ^ (k + 1))
  have e3 := Int.mul_ediv_add_emod (n / 2 ^ k) 2
  have e4 : n / 2 ^ (k + 1) = n / 2 ^ k / 2 := by rw [Int.pow_succ, Int.ediv_ediv_of_nonneg (Int.le_of_lt p)]
  rw [e4, Int.pow_succ] at e2
  unfold bitN
  rw [Int.pow_succ]
  have e5 : 2 ^ k * (2 * (n / 2 ^ k / 2) + n / 2 ^ k % 2) = 2 ^ k * (n / 2 ^ k) := by rw [e3]
  rw [Int.mul_add, ← Int.mul_assoc] at e5
  rw [Int.mul_comm (n / 2 ^ k % 2)]
  omega
theorem pow2_mono (i j : Nat) (h : i ≤ j) : (2 : Int) ^ i ≤ 2 ^ j := by
  rw [show j = i + (j - i) by omega, Int.pow_add]
  have p : (0 : Int) < 2 ^ i := Int.pow_pos (by decide)
  have q : (0 : Int) < 2 ^ (j - i) := Int.pow_pos (by decide)
  have := Int.mul_le_mul_of_nonneg_left (show (1 : Int) ≤ 2 ^ (j - i) by omega) (Int.le_of_lt p)
  omega
theorem nb_spec (n : Int) (k : Nat) : n % 2 ^ k < 2 ^ nb n k ∧ (0 < nb n k → 2 ^ (nb n k - 1) ≤ n % 2 ^ k) := by
  induction k with
  | zero => exact ⟨by rw [show (2 : Int) ^ 0 = 1 from rfl, Int.emod_one]; show (0 : Int) < 1; decide, fun h => absurd h (Nat.lt_irrefl 0)⟩
  | succ k ih =>
    have p : (0 : Int) < 2 ^ k := Int.pow_pos (by decide)
    have m0 := Int.emod_nonneg n (Int.ne_of_gt p)
    have m1 := Int.emod_lt_of_pos n p
    rw [mod2_succ]
    unfold nb
    by_cases hb : bitN n k = 1
    · rw [if_pos hb, hb]
      exact ⟨by rw [Int.pow_succ]; omega, fun _ => by rw [Nat.add_sub_cancel]; omega⟩
    · have h0 : bitN n k = 0 := by unfold bitN at *; omega
      rw [if_neg hb, h0]
      exact ⟨by omega, fun h => by have := ih.2 h; omega⟩
theorem bits_unique (x : Int) (a b : Nat) (a1 : x < 2 ^ a) (a0 : 0 < a → 2 ^ (a - 1) ≤ x) (b1 : x < 2 ^ b) (b0 : 0 < b → 2 ^ (b - 1) ≤ x) (hx : 0 ≤ x) : a = b := by
  rcases Nat.lt_trichotomy a b with h | h | h
  · have := pow2_mono a (b - 1) (by omega)
    have := b0 (by omega)
    omega
  · exact h
  · have := pow2_mono b (a - 1) (by omega)
    have := a0 (by omega)
    omega
theorem bitLen_spec (x : Int) (x0 : 0 ≤ x) (x1 : x ≤ 18446744073709551615) : x < 2 ^ Lib.bitLen x.toNat ∧ (0 < Lib.bitLen x.toNat → 2 ^ (Lib.bitLen x.toNat - 1) ≤ x) := by
  obtain ⟨m, rfl⟩ := Int.eq_ofNat_of_zero_le x0
  rw [Int.toNat_natCast]
  by_cases hm : m = 0
  · subst hm
    exact ⟨by show (0 : Int) < 1; decide, fun h => absurd h (by decide)⟩
  · obtain ⟨a, b, c⟩ := Lib.bitLenAux_bounds 64 m (by omega) hm
    exact ⟨by have := Int.ofNat_lt.2 c; simpa [Lib.bitLen] using this, fun _ => by have := Int.ofNat_le.2 b; simpa [Lib.bitLen] using this⟩
/-- Both count the same bits. -/
theorem nb_bits (h l : Int) (h0 : 0 ≤ h) (h1 : h ≤ 18446744073709551615) (l0 : 0 ≤ l) (l1 : l ≤ 18446744073709551615) : (nb (num h l) 128 : Int) = bitsN h l := by
  have N0 := num0 h l h0 l0
  have N1 := num1 h l h1 l1
  obtain ⟨a1, a0⟩ := nb_spec (num h l) 128
  rw [show (2 : Int) ^ 128 = 340282366920938463463374607431768211456 from rfl, Int.emod_eq_of_lt N0 N1] at a1 a0
  unfold bitsN
  by_cases hz : h = 0
  · subst hz
    have e : num 0 l = l := by unfold num; omega
    rw [if_pos rfl]
    rw [e] at a1 a0 ⊢
    obtain ⟨b1, b0⟩ := bitLen_spec l l0 l1
    rw [bits_unique l _ _ a1 a0 b1 b0 l0]
  · obtain ⟨b1, b0⟩ := bitLen_spec h h0 h1
    have hp : 0 < Lib.bitLen h.toNat := by
      rcases Nat.eq_zero_or_pos (Lib.bitLen h.toNat) with e | e
      · rw [e] at b1; have : h < 1 := b1; omega
      · exact e
    have b2 := b0 hp
    rw [if_neg hz, bits_unique (num h l) (nb (num h l) 128) (64 + Lib.bitLen h.toNat) a1 a0 ?_ ?_ N0]
    · omega
    · rw [Int.pow_add, show (2 : Int) ^ 64 = 18446744073709551616 from rfl]; unfold num; omega
    · intro _
      rw [show 64 + Lib.bitLen h.toNat - 1 = 64 + (Lib.bitLen h.toNat - 1) by omega, Int.pow_add, show (2 : Int) ^ 64 = 18446744073709551616 from rfl]; unfold num; omega
end Go.Proofs.YtgdblfghbnallaaGreat
/- Integer square roots, as integers. No program. -/
namespace Go.Proofs.YtgdblfghbnallaaGreat.Kn
/-- The greatest number whose square is at most n. -/
def rootF : Nat → Nat
  | 0 => 0
  | n + 1 => if (rootF n + 1) * (rootF n + 1) ≤ n + 1 then rootF n + 1 else rootF n
theorem rootF_le (n : Nat) : rootF n * rootF n ≤ n := by
  induction n with
  | zero => exact Nat.le_refl _
  | succ n ih =>
    unfold rootF
    by_cases h : (rootF n + 1) * (rootF n + 1) ≤ n + 1
    · rw [if_pos h]; exact h
    · rw [if_neg h]; omega
theorem rootF_lt (n : Nat) : n < (rootF n + 1) * (rootF n + 1) := by
  induction n with
  | zero => exact Nat.mul_pos (Nat.succ_pos _) (Nat.succ_pos _)
  | succ n ih =>
    unfold rootF
    by_cases h : (rootF n + 1) * (rootF n + 1) ≤ n + 1
    · rw [if_pos h]
      have : (rootF n + 1 + 1) * (rootF n + 1 + 1) = (rootF n + 1) * (rootF n + 1) + (rootF n + 1) + (rootF n + 1) + 1 := by
        rw [Nat.add_mul, Nat.mul_add]; omega
      omega
    · rw [if_neg h]; omega
def rootN (n : Int) : Int := (rootF n.toNat : Int)
theorem root0 (n : Int) : 0 ≤ rootN n := by unfold rootN; omega
theorem root_le (n : Int) (h : 0 ≤ n) : rootN n * rootN n ≤ n := by
  have := rootF_le n.toNat
  have e : (rootF n.toNat : Int) * (rootF n.toNat : Int) ≤ (n.toNat : Int) := by exact_mod_cast this
  unfold rootN
  omega
theorem root_lt (n : Int) (h : 0 ≤ n) : n < (rootN n + 1) * (rootN n + 1) := by
  have := rootF_lt n.toNat
  have e : (n.toNat : Int) < ((rootF n.toNat : Int) + 1) * ((rootF n.toNat : Int) + 1) := by exact_mod_cast this
  unfold rootN
  omega
theorem sq_mono (a b : Int) (h0 : 0 ≤ a) (h : a ≤ b) : a * a ≤ b * b := Int.mul_le_mul h h h0 (by omega)
/-- Squares in order, numbers in order. -/
theorem sq_lt (a b : Int) (h0 : 0 ≤ b) (h : a * a < b * b) : a < b := by
  by_cases c : a < b
  · exact c
  · have := sq_mono b a h0 (by omega); omega
theorem root_unique (n r : Int) (h0 : 0 ≤ r) (h1 : r * r ≤ n) (h2 : n < (r + 1) * (r + 1)) : rootN n = r := by
  have n0 : 0 ≤ n := by have := Int.mul_nonneg h0 h0; omega
  have a := root_le n n0
  have b := root_lt n n0
  have c := root0 n
  have x := sq_lt (rootN n) (r + 1) (by omega) (by omega)
  have y := sq_lt r (rootN n + 1) (by omega) (by omega)
  omega
theorem root_up (n k : Int) (n0 : 0 ≤ n) (k0 : 0 ≤ k) (h : n < (k + 1) * (k + 1)) : rootN n ≤ k := by
  have a := root_le n n0
  have := sq_lt (rootN n) (k + 1) (by omega) (by omega)
  omega
/-- One bit more of a root: what is known of it at one bit fewer. -/
theorem root_step (n r p : Int) (h1 : r * r ≤ n) (h2 : n < (r + 2 * p) * (r + 2 * p)) :
    ((r + p) * (r + p) ≤ n → (r + p) * (r + p) ≤ n ∧ n < (r + p + p) * (r + p + p)) ∧ (¬ (r + p) * (r + p) ≤ n → r * r ≤ n ∧ n < (r + p) * (r + p)) := by
  have e : r + p + p = r + 2 * p := by omega
  rw [e]
  exact ⟨fun h => ⟨h, h2⟩, fun h => ⟨h1, by omega⟩⟩
/-- The law: of an interval and a count. -/
def lawN (i n : Int) : Int := rootN (i * i / max n 1)
theorem law0 (i n : Int) : 0 ≤ lawN i n := root0 _
theorem law_q0 (i n : Int) : 0 ≤ i * i / max n 1 := Int.ediv_nonneg (by by_cases h : 0 ≤ i; exact Int.mul_nonneg h h; exact Int.le_of_lt (Int.mul_pos_of_neg_of_neg (by omega) (by omega))) (by omega)
theorem law_le (i n : Int) (h : 0 ≤ i) : lawN i n ≤ i := by
  unfold lawN
  refine root_up _ _ (law_q0 i n) h ?_
  have a : i * i / max n 1 ≤ i * i := Int.ediv_le_self _ (Int.mul_nonneg h h)
  have b : (i + 1) * (i + 1) = i * i + i + i + 1 := by rw [Int.add_mul, Int.mul_add]; omega
  omega
end Go.Proofs.YtgdblfghbnallaaGreat.Kn
/- What the calls of package root answer. -/
namespace Go.Proofs.YtgdblfghbnallaaGreat
open Go.ChangeShapes Go.WideShapes Go.ChangeAt Go.RowKit Kn
set_option linter.unusedVariables false
theorem pow_two_succ (k : Nat) (h : 0 < k) : (2 : Int) ^ k = 2 * 2 ^ (k - 1) := by
  obtain ⟨j, rfl⟩ : ∃ j, k = j + 1 := ⟨k - 1, by omega⟩
  rw [Int.pow_succ, Int.mul_comm]; rfl
theorem bits_half (h l : Int) (h0 : 0 ≤ h) (h1 : h ≤ 18446744073709551615) (l0 : 0 ≤ l) (l1 : l ≤ 18446744073709551615) :
    ∃ k : Nat, k ≤ 64 ∧ (bitsN h l + 1) / 2 = k ∧ num h l < 2 ^ k * 2 ^ k := by
  have e := nb_bits h l h0 h1 l0 l1
  have le := nb_le (num h l) 128
  have sp := (nb_spec (num h l) 128).1
  have n0 := num0 h l h0 l0
  have n1 := num1 h l h1 l1
  rw [show (2 : Int) ^ 128 = 340282366920938463463374607431768211456 from rfl, Int.emod_eq_of_lt n0 n1] at sp
  refine ⟨(nb (num h l) 128 + 1) / 2, by omega, by omega, ?_⟩
  have := pow2_mono (nb (num h l) 128) ((nb (num h l) 128 + 1) / 2 + (nb (num h l) 128 + 1) / 2) (by omega)
  rw [← Int.pow_add]
  omega
theorem or_bit (r : Int) (k : Nat) (hk : 0 < k) (k64 : k ≤ 64) (r0 : 0 ≤ r) (hm : r % 2 ^ k = 0) (hr : r + 2 ^ k ≤ 18446744073709551616) :
    bits .or .u64 r (2 ^ (k - 1)) = r + 2 ^ (k - 1) := by
  have p : (0 : Int) < 2 ^ (k - 1) := Int.pow_pos (by decide)
  have e := pow_two_succ k hk
  exact bits_join .u64 64 (by decide) wraps64 k _ _ r0 hm (by omega) (by omega) (by omega) (by omega)
set_option maxHeartbeats 1000000 in
theorem rtwide_any (h l : Int) (w : World) (h0 : 0 ≤ h) (h1 : h ≤ 18446744073709551615) (l0 : 0 ≤ l) (l1 : l ≤ 18446744073709551615) :
    Calls Tryz.prog 178 #[.agg #[.int .u64 h, .int .u64 l]] w fun e w' => e = .returned (.int .u64 (rootN (num h l))) ∧ Below w.heap.size w w' := by
  obtain ⟨K, hK, eK, hN⟩ := bits_half h l h0 h1 l0 l1
  have N0 := num0 h l h0 l0
  have hb0 : 0 ≤ bitsN h l := by unfold bitsN; split <;> omega
  have e4 : wrap64 ((wrap64 (bitsN h l + 1)).tdiv 2) = (K : Int) := by
    have hu : bitsN h l ≤ 128 := by omega
    have e : wrap64 (bitsN h l + 1) = bitsN h l + 1 := by unfold wrap64; omega
    rw [e, Int.tdiv_eq_ediv_of_nonneg (by omega), eK]
    unfold wrap64; omega
  clear eK hb0
  go_enter Tryz.func178, Tryz.ntmps178
  go_wp2_with (first
    | (go_at_call 193; refine (wbits_any _ _ _ h0 h1 l0 l1).mono ?_; rintro e w1 ⟨rfl, hb1⟩))
  have E4 := Lib.hid e4; clear e4
  have hs1 := hb1.size
  simp at hs1
  go_loopw [3, 4] (fun root i wr => ∃ (r : Int) (k : Nat), root = .int .u64 r ∧ i = .int .i64 k ∧ k ≤ 64 ∧ 0 ≤ r ∧ r % 2 ^ k = 0 ∧ r + 2 ^ k ≤ 18446744073709551616 ∧ r * r ≤ num h l ∧ num h l < (r + 2 ^ k) * (r + 2 ^ k) ∧ Below w.heap.size w wr ∧ w.heap.size < wr.heap.size ∧ wr.cell? ⟨w.heap.size, 0, none⟩ = some (.int .u64 h) ∧ wr.cell? ⟨w.heap.size, 1, none⟩ = some (.int .u64 l)) (fun _ i _ => (intOf i).toNat)
  case atStart =>
    refine ⟨0, K, rfl, by rw [E4.out], hK, Int.le_refl _, Int.zero_emod _, ?_, ?_, ?_, ?_, ?_, ?_, ?_⟩
    · have := pow2_mono K 64 hK; rw [show (2 : Int) ^ 64 = 18446744073709551616 from rfl] at this; omega
    · omega
    · rw [Int.zero_add]; exact hN
    · exact ((Below.refl _ _).alloc (Nat.le_refl _) _).trans (hb1.mono (by simp))
    · omega
    · rw [(bcell hb1).1 _ _ (by simp)]; simp [go_sem]
    · rw [(bcell hb1).1 _ _ (by simp)]; simp [go_sem]
  case round =>
    clear hb1 hs1 hN hK
    obtain ⟨r, k, rfl, rfl, hk, r0, hm, hr, hle, hlt, hb, hsz, c0, c1⟩ := hrel
    by_cases hk0 : 0 < k
    · have p0 : (0 : Int) < 2 ^ (k - 1) := Int.pow_pos (by decide)
      have ep := pow_two_succ k hk0
      obtain ⟨g, hg⟩ : ∃ g, g = r + 2 ^ (k - 1) := ⟨_, rfl⟩
      have e1 : bits .or .u64 r (IntKind.u64.wrap (2 ^ (k - 1))) = g := by
        have : IntKind.u64.wrap (2 ^ (k - 1)) = 2 ^ (k - 1) := by rw [wrapu]; omega
        rw [this, hg]; exact or_bit r k hk0 hk r0 hm hr
      have g0 : 0 ≤ g := by omega
      have g1 : g ≤ 18446744073709551615 := by omega
      have q0 : 0 ≤ g * g := Int.mul_nonneg g0 g0
      have q1 : g * g < 340282366920938463463374607431768211456 := by have := Int.mul_le_mul g1 g1 g0 (by omega); omega
      have k0 := hi0 _ q0
      have k1 := hi1 _ q1
      have k2 := lo0 (g * g)
      have k3 := lo1 (g * g)
      have en := num_hi_lo (g * g)
      have st : (g * g ≤ num h l → g % 2 ^ (k - 1) = 0 ∧ g + 2 ^ (k - 1) ≤ 18446744073709551616 ∧ g * g ≤ num h l ∧ num h l < (g + 2 ^ (k - 1)) * (g + 2 ^ (k - 1))) ∧ (¬ g * g ≤ num h l → r % 2 ^ (k - 1) = 0 ∧ r + 2 ^ (k - 1) ≤ 18446744073709551616 ∧ r * r ≤ num h l ∧ num h l < (r + 2 ^ (k - 1)) * (r + 2 ^ (k - 1))) := by
        have a := root_step (num h l) r (2 ^ (k - 1)) hle (by rw [← ep]; exact hlt)
        rw [← hg] at a
        have hr0 : r % 2 ^ (k - 1) = 0 := by
          rw [ep] at hm
          have := Int.emod_emod_of_dvd r (show (2 : Int) ^ (k - 1) ∣ 2 * 2 ^ (k - 1) from ⟨2, Int.mul_comm _ _⟩)
          rw [hm] at this; rw [← this]; exact Int.zero_emod _
        have hg0 : g % 2 ^ (k - 1) = 0 := by rw [hg, Int.add_emod_right]; exact hr0
        exact ⟨fun c => ⟨hg0, by omega, a.1 c⟩, fun c => ⟨hr0, by omega, by rw [← hg]; exact a.2 c⟩⟩
      have HG := Lib.hid hg; clear hg
      have ST := Lib.hid st; clear st
      clear ep hm hr hle hlt
      by_cases hf : g * g ≤ num h l
      · have hc : cmpN (g * g) (num h l) ≤ 0 := by unfold cmpN; split; omega; split <;> omega
        go_wp2
        go_region_held3 (fun w' => w'.cell? ⟨w.heap.size, 0, none⟩ = some (.int .u64 h) ∧ w'.cell? ⟨w.heap.size, 1, none⟩ = some (.int .u64 l)) (refine ⟨?_, ?_⟩ <;> simp [go_sem, *])
          (first
            | (go_at_call 176; refine (wmul_any _ _ _ g0 g1 g0 g1).mono ?_; rintro e w2 ⟨rfl, hb2⟩; replace c0 := (hb2.cell (p := ⟨w.heap.size, 0, none⟩) hsz).trans c0; replace c1 := (hb2.cell (p := ⟨w.heap.size, 1, none⟩) hsz).trans c1; replace hsz := Nat.lt_of_lt_of_le hsz hb2.size; replace hb := (show Below w.heap.size w w2 from by first | exact under0 hb hb2 | exact under0 hb.drew hb2); clear hb2)
            | (go_at_call 194; refine (wcmp_any _ _ _ _ _ k0 k1 k2 k3 h0 h1 l0 l1).mono ?_; rintro e w3 ⟨rfl, hb3⟩; rw [en]; replace c0 := (hb3.cell (p := ⟨w.heap.size, 0, none⟩) hsz).trans c0; replace c1 := (hb3.cell (p := ⟨w.heap.size, 1, none⟩) hsz).trans c1; replace hsz := Nat.lt_of_lt_of_le hsz hb3.size; replace hb := (show Below w.heap.size w w3 from by first | exact under0 hb hb3 | exact under0 hb.drew hb3); clear hb3))
        go_wp2
        obtain ⟨s1, s2, s3, s4⟩ := ST.out.1 hf
        go_roundw
        case rel => exact ⟨g, k - 1, rfl, congrArg (Value.int .i64) (by omega), by omega, g0, s1, s2, s3, s4, hb, hsz, c0, c1⟩
        case measure => simp [intOf]; omega
      · have hc : ¬ cmpN (g * g) (num h l) ≤ 0 := by unfold cmpN; split; omega; split <;> omega
        go_wp2
        go_region_held3 (fun w' => w'.cell? ⟨w.heap.size, 0, none⟩ = some (.int .u64 h) ∧ w'.cell? ⟨w.heap.size, 1, none⟩ = some (.int .u64 l)) (refine ⟨?_, ?_⟩ <;> simp [go_sem, *])
          (first
            | (go_at_call 176; refine (wmul_any _ _ _ g0 g1 g0 g1).mono ?_; rintro e w2 ⟨rfl, hb2⟩; replace c0 := (hb2.cell (p := ⟨w.heap.size, 0, none⟩) hsz).trans c0; replace c1 := (hb2.cell (p := ⟨w.heap.size, 1, none⟩) hsz).trans c1; replace hsz := Nat.lt_of_lt_of_le hsz hb2.size; replace hb := (show Below w.heap.size w w2 from by first | exact under0 hb hb2 | exact under0 hb.drew hb2); clear hb2)
            | (go_at_call 194; refine (wcmp_any _ _ _ _ _ k0 k1 k2 k3 h0 h1 l0 l1).mono ?_; rintro e w3 ⟨rfl, hb3⟩; rw [en]; replace c0 := (hb3.cell (p := ⟨w.heap.size, 0, none⟩) hsz).trans c0; replace c1 := (hb3.cell (p := ⟨w.heap.size, 1, none⟩) hsz).trans c1; replace hsz := Nat.lt_of_lt_of_le hsz hb3.size; replace hb := (show Below w.heap.size w w3 from by first | exact under0 hb hb3 | exact under0 hb.drew hb3); clear hb3))
        go_wp2
        obtain ⟨s1, s2, s3, s4⟩ := ST.out.2 hf
        go_roundw
        case rel => exact ⟨r, k - 1, rfl, congrArg (Value.int .i64) (by omega), by omega, r0, s1, s2, s3, s4, hb, hsz, c0, c1⟩
        case measure => simp [intOf]; omega
    · have hk' : k = 0 := by omega
      have H := root_unique (num h l) r r0 hle (by rw [hk', Int.pow_zero] at hlt; exact hlt)
      clear hk'
      have HH := Lib.hid H; clear H
      go_wp2
      go_ret
      rw [HH.out]; exact ⟨rfl, hb⟩
end Go.Proofs.YtgdblfghbnallaaGreat
/- What the calls of package root answer: of 64 bits, squares, the law; layer 3's examples stand. -/
namespace Go.Proofs.YtgdblfghbnallaaGreat
open Go.ChangeShapes Go.WideShapes Go.ChangeAt Go.RowKit Kn
set_option linter.unusedVariables false
set_option maxHeartbeats 400000 in
theorem rtlaw_neg (i n : Int) (w : World) (h : i < 0) :
    Calls Tryz.prog 145 #[.int .i64 i, .int .u64 n] w fun e w' => e = .returned (.int .i64 0) ∧ Below w.heap.size w w' := by
  go_enter Tryz.func145, Tryz.ntmps145
  go_wp2
  go_ret
  exact ⟨rfl, Below.refl _ _⟩
set_option maxHeartbeats 400000 in
theorem rtlaw_any (i n : Int) (w : World) (i0 : 0 ≤ i) (i1 : i ≤ 9223372036854775807) (n0 : 0 ≤ n) (n1 : n ≤ 18446744073709551615) :
    Calls Tryz.prog 145 #[.int .i64 i, .int .u64 n] w fun e w' => e = .returned (.int .i64 (lawN i n)) ∧ Below w.heap.size w w' := by
  have hi' : ¬ i < 0 := by omega
  obtain ⟨d, hd⟩ : ∃ d, max n 1 = d := ⟨_, rfl⟩
  have d0 : 0 < d := by omega
  have d1 : d ≤ 18446744073709551615 := by omega
  have q0 : 0 ≤ i * i := Int.mul_nonneg i0 i0
  have q1 : i * i < 340282366920938463463374607431768211456 := by have := Int.mul_le_mul i1 i1 i0 (by omega); omega
  have k0 := hi0 _ q0
  have k1 := hi1 _ q1
  have k2 := lo0 (i * i)
  have k3 := lo1 (i * i)
  have en := num_hi_lo (i * i)
  have z0 : 0 ≤ i * i / d := Int.ediv_nonneg q0 (by omega)
  have z1 : i * i / d < 340282366920938463463374607431768211456 := by have := Int.ediv_le_self d q0; omega
  have m0 := hi0 _ z0
  have m1 := hi1 _ z1
  have m2 := lo0 (i * i / d)
  have m3 := lo1 (i * i / d)
  have em := num_hi_lo (i * i / d)
  have L0 := law0 i n
  have L1 := law_le i n i0
  have el : rootN (i * i / d) = lawN i n := by unfold lawN; rw [hd]
  go_enter Tryz.func145, Tryz.ntmps145
  go_wp2_with (first
    | (go_at_call 176; refine (wmul_any _ _ _ i0 (by omega) i0 (by omega)).mono ?_; rintro e w1 ⟨rfl, hb1⟩)
    | (go_at_call 177; refine (wdiv_any _ _ _ _ k0 k1 k2 k3 d0 d1).mono ?_; rintro e w2 ⟨rfl, hb2⟩; rw [en]; replace hb1 := under0 hb1 hb2)
    | (go_at_call 178; refine (rtwide_any _ _ _ m0 m1 m2 m3).mono ?_; rintro e w3 ⟨rfl, hb3⟩; rw [em, el]; replace hb1 := under0 (hb1.alloc hb1.size _) hb3))
  go_ret
  exact ⟨rfl, hb1⟩
/-- The law of any interval: of one below 0 it is 0. -/
def lawZ (i n : Int) : Int := if i < 0 then 0 else lawN i n
theorem rtlaw_all (i n : Int) (w : World) (i1 : i ≤ 9223372036854775807) (n0 : 0 ≤ n) (n1 : n ≤ 18446744073709551615) :
    Calls Tryz.prog 145 #[.int .i64 i, .int .u64 n] w fun e w' => e = .returned (.int .i64 (lawZ i n)) ∧ Below w.heap.size w w' := by
  by_cases h : i < 0
  · have e : lawZ i n = 0 := by unfold lawZ; rw [if_pos h]
    rw [e]; exact rtlaw_neg i n w h
  · have e : lawZ i n = lawN i n := by unfold lawZ; rw [if_neg h]
    rw [e]; exact rtlaw_any i n w (by omega) i1 n0 n1
end Go.Proofs.YtgdblfghbnallaaGreat
/- CoDel's state and what each look says of it, as plain functions. No program. -/
namespace Go.Proofs.YtgdblfghbnallaaGreat
open Go.RowKit Kn
structure Cst where
  ab : Bool
  fi : Int
  dr : Bool
  ne : Int
  co : Int
  la : Int
/-- The state as a value. -/
abbrev Cst.v (s : Cst) : Value := .agg #[.bool s.ab, .int .i64 s.fi, .bool s.dr, .int .i64 s.ne, .int .u64 s.co, .int .u64 s.la]
structure Cst.ok (s : Cst) : Prop where
  f0 : -9223372036854775808 ≤ s.fi
  f1 : s.fi ≤ 9223372036854775807
  n0 : -9223372036854775808 ≤ s.ne
  n1 : s.ne ≤ 9223372036854775807
  c0 : 0 ≤ s.co
  c1 : s.co ≤ 18446744073709551615
  l0 : 0 ≤ s.la
  l1 : s.la ≤ 18446744073709551615
def highB (t j b : Int) : Bool := decide (t ≤ j) && decide (1 < b)
def noteC (s : Cst) (i now : Int) (hb : Bool) : Cst :=
  bif hb then (bif s.ab then s else { s with ab := true, fi := sat (now + i) }) else { s with ab := false, fi := 0 }
def mayC (s : Cst) (now : Int) (hb : Bool) : Bool := s.ab && decide (s.fi ≤ now) && hb
def consC (s : Cst) (i now : Int) (hb : Bool) : Cst := { noteC s i now hb with dr := s.dr && mayC s now hb }
def upC (c : Int) : Int := if c < 18446744073709551615 then c + 1 else c
def timeC (s : Cst) (now : Int) : Cst × Int := if now < s.ne then (s, 0) else ({ s with co := upC s.co }, 1)
def beginN (s : Cst) (i now : Int) : Int :=
  let d := (s.co - s.la) % 18446744073709551616
  if 2 ≤ d ∧ d ≤ 9223372036854775808 ∧ sat (now - s.ne) < sat (16 * i) then d else 1
def beginC (s : Cst) (i now : Int) : Cst := { s with dr := true, co := beginN s i now, ne := sat (now + lawZ i (beginN s i now)), la := beginN s i now }
def lookC (s : Cst) (i now : Int) (hb : Bool) : Cst × Int :=
  bif mayC s now hb then (bif s.dr then timeC (consC s i now hb) now else (beginC (consC s i now hb) i now, 2)) else (consC s i now hb, 0)
def moreC (s : Cst) (i now : Int) (hb : Bool) : Cst × Int :=
  bif mayC s now hb then timeC { consC s i now hb with ne := sat (s.ne + lawZ i s.co) } now else (consC s i now hb, 0)
def emptyC (s : Cst) : Cst := { s with ab := false, fi := 0, dr := false }
end Go.Proofs.YtgdblfghbnallaaGreat
/- What the calls of package fix answer. -/
namespace Go.Proofs.YtgdblfghbnallaaGreat
open Go.ChangeShapes Go.WideShapes Go.ChangeAt Go.RowKit Kn
set_option linter.unusedVariables false
set_option maxHeartbeats 400000 in
theorem fadd_any (a b : Int) (w : World) (a0 : -9223372036854775808 ≤ a) (a1 : a ≤ 9223372036854775807) (b0 : -9223372036854775808 ≤ b) (b1 : b ≤ 9223372036854775807) :
    Calls Tryz.prog 103 #[.int .i64 a, .int .i64 b] w fun e w' => e = .returned (.int .i64 (sat (a + b))) ∧ w = w' := by
  go_enter Tryz.func103, Tryz.ntmps103
  go_wp2
  all_goals (go_ret; exact ⟨ret_int (by unfold sat; omega), rfl⟩)
set_option maxHeartbeats 400000 in
theorem fsub_any (a b : Int) (w : World) (a0 : -9223372036854775808 ≤ a) (a1 : a ≤ 9223372036854775807) (b0 : -9223372036854775808 ≤ b) (b1 : b ≤ 9223372036854775807) :
    Calls Tryz.prog 93 #[.int .i64 a, .int .i64 b] w fun e w' => e = .returned (.int .i64 (sat (a - b))) ∧ w = w' := by
  go_enter Tryz.func93, Tryz.ntmps93
  go_wp2
  all_goals (go_ret; exact ⟨ret_int (by unfold sat; omega), rfl⟩)
theorem below_any (a b : Int) (w : World) :
    Calls Tryz.prog 189 #[.int .i64 a, .int .i64 b] w fun e w' => e = .returned (.bool (negB a b)) ∧ w = w' := by
  go_enter Tryz.func189, Tryz.ntmps189
  go_wp2
  go_ret
  exact ⟨ret_bool (by unfold negB; cases decide (a < 0) <;> cases decide (b < 0) <;> rfl), rfl⟩
theorem size_any (a : Int) (w : World) (a0 : -9223372036854775808 ≤ a) (a1 : a ≤ 9223372036854775807) :
    Calls Tryz.prog 190 #[.int .i64 a] w fun e w' => e = .returned (.int .u64 (mag a)) ∧ w = w' := by
  by_cases h : a < 0
  · have e : IntKind.u64.wrap (-IntKind.u64.wrap a) = mag a := by rw [wrapu, wrapu]; unfold mag; split <;> omega
    go_enter Tryz.func190, Tryz.ntmps190
    go_wp2
    go_ret
    exact ⟨rfl, rfl⟩
  · have e : mag a = a := by unfold mag; split <;> omega
    rw [e]; clear e
    go_enter Tryz.func190, Tryz.ntmps190
    go_wp2
    go_ret
    exact ⟨rfl, rfl⟩
set_option maxHeartbeats 400000 in
theorem sat_neg_over (h l : Int) (w : World) (h0 : 0 ≤ h) (h1 : h ≤ 18446744073709551615) (l0 : 0 ≤ l) (l1 : l ≤ 18446744073709551615) (hn : 9223372036854775808 < num h l) :
    Calls Tryz.prog 188 #[.bool true, .agg #[.int .u64 h, .int .u64 l]] w fun e w' => e = .returned (.int .i64 (-9223372036854775808)) ∧ Below w.heap.size w w' := by
  have hc : cmpN (num h l) (num 0 9223372036854775808) = 1 := by unfold cmpN num at *; split <;> (try split) <;> omega
  have mL : mag (-9223372036854775808) = 9223372036854775808 := by decide
  go_enter Tryz.func188, Tryz.ntmps188
  go_wp2
  go_region_held3 (fun w' => w'.cell? ⟨w.heap.size, 0, none⟩ = some (.int .u64 h) ∧ w'.cell? ⟨w.heap.size, 1, none⟩ = some (.int .u64 l)) (go_keep)
    (first
      | (go_at_call 190; refine (size_any _ _ (by omega) (by omega)).mono ?_; rintro e w' ⟨rfl, rfl⟩)
      | (go_at_call 198; refine (wof_any _ _).mono ?_; rintro e w' ⟨rfl, hb1⟩; obtain ⟨hc1, hf1⟩ := bcell hb1; have hz1 : w.heap.size < w'.heap.size := by (have := hb1.size; simp at this; omega))
      | (go_at_call 194; refine (wcmp_any _ _ _ _ _ (by omega) (by omega) (by omega) (by omega) (by omega) (by omega) (by omega) (by omega)).mono ?_; rintro e w' ⟨rfl, hb2⟩; obtain ⟨hc2, hf2⟩ := bcell hb2))
  go_wp2
  go_ret
  exact ⟨rfl, ((((Below.refl _ _).alloc (Nat.le_refl _) _).drew).trans (hb1.mono (by simp))).trans (hb2.mono (by omega))⟩
set_option maxHeartbeats 400000 in
theorem sat_neg_fits (h l : Int) (w : World) (h0 : 0 ≤ h) (h1 : h ≤ 18446744073709551615) (l0 : 0 ≤ l) (l1 : l ≤ 18446744073709551615) (hn : num h l ≤ 9223372036854775808) :
    Calls Tryz.prog 188 #[.bool true, .agg #[.int .u64 h, .int .u64 l]] w fun e w' => e = .returned (.int .i64 (sat (- num h l))) ∧ Below w.heap.size w w' := by
  obtain ⟨c, hc⟩ : ∃ c, cmpN (num h l) (num 0 9223372036854775808) = c := ⟨_, rfl⟩
  have c0 : c ≤ 0 := by rw [← hc]; unfold cmpN num at *; split <;> (try split) <;> omega
  have e4 : IntKind.i64.wrap (IntKind.u64.wrap (-l)) = sat (- num h l) := by rw [IntKind.wrap_i64, wrapu]; unfold sat num at *; split <;> (try split) <;> omega
  have mL : mag (-9223372036854775808) = 9223372036854775808 := by decide
  go_enter Tryz.func188, Tryz.ntmps188
  go_wp2
  go_region_held3 (fun w' => w'.cell? ⟨w.heap.size, 0, none⟩ = some (.int .u64 h) ∧ w'.cell? ⟨w.heap.size, 1, none⟩ = some (.int .u64 l)) (go_keep)
    (first
      | (go_at_call 190; refine (size_any _ _ (by omega) (by omega)).mono ?_; rintro e w' ⟨rfl, rfl⟩)
      | (go_at_call 198; refine (wof_any _ _).mono ?_; rintro e w' ⟨rfl, hb1⟩; obtain ⟨hc1, hf1⟩ := bcell hb1; have hz1 : w.heap.size < w'.heap.size := by (have := hb1.size; simp at this; omega))
      | (go_at_call 194; refine (wcmp_any _ _ _ _ _ (by omega) (by omega) (by omega) (by omega) (by omega) (by omega) (by omega) (by omega)).mono ?_; rintro e w' ⟨rfl, hb2⟩; obtain ⟨hc2, hf2⟩ := bcell hb2))
  go_wp2
  go_ret
  exact ⟨rfl, ((((Below.refl _ _).alloc (Nat.le_refl _) _).drew).trans (hb1.mono (by simp))).trans (hb2.mono (by omega))⟩
set_option maxHeartbeats 400000 in
theorem sat_pos_over (h l : Int) (w : World) (h0 : 0 ≤ h) (h1 : h ≤ 18446744073709551615) (l0 : 0 ≤ l) (l1 : l ≤ 18446744073709551615) (hn : 9223372036854775807 < num h l) :
    Calls Tryz.prog 188 #[.bool false, .agg #[.int .u64 h, .int .u64 l]] w fun e w' => e = .returned (.int .i64 9223372036854775807) ∧ Below w.heap.size w w' := by
  have hc : cmpN (num h l) (num 0 9223372036854775807) = 1 := by unfold cmpN num at *; split <;> (try split) <;> omega
  have mL : mag (9223372036854775807) = 9223372036854775807 := by decide
  go_enter Tryz.func188, Tryz.ntmps188
  go_wp2
  go_region_held3 (fun w' => w'.cell? ⟨w.heap.size, 0, none⟩ = some (.int .u64 h) ∧ w'.cell? ⟨w.heap.size, 1, none⟩ = some (.int .u64 l)) (go_keep)
    (first
      | (go_at_call 190; refine (size_any _ _ (by omega) (by omega)).mono ?_; rintro e w' ⟨rfl, rfl⟩)
      | (go_at_call 198; refine (wof_any _ _).mono ?_; rintro e w' ⟨rfl, hb1⟩; obtain ⟨hc1, hf1⟩ := bcell hb1; have hz1 : w.heap.size < w'.heap.size := by (have := hb1.size; simp at this; omega))
      | (go_at_call 194; refine (wcmp_any _ _ _ _ _ (by omega) (by omega) (by omega) (by omega) (by omega) (by omega) (by omega) (by omega)).mono ?_; rintro e w' ⟨rfl, hb2⟩; obtain ⟨hc2, hf2⟩ := bcell hb2))
  go_wp2
  go_ret
  exact ⟨rfl, ((((Below.refl _ _).alloc (Nat.le_refl _) _).drew).trans (hb1.mono (by simp))).trans (hb2.mono (by omega))⟩
set_option maxHeartbeats 400000 in
theorem sat_pos_fits (h l : Int) (w : World) (h0 : 0 ≤ h) (h1 : h ≤ 18446744073709551615) (l0 : 0 ≤ l) (l1 : l ≤ 18446744073709551615) (hn : num h l ≤ 9223372036854775807) :
    Calls Tryz.prog 188 #[.bool false, .agg #[.int .u64 h, .int .u64 l]] w fun e w' => e = .returned (.int .i64 (sat (num h l))) ∧ Below w.heap.size w w' := by
  obtain ⟨c, hc⟩ : ∃ c, cmpN (num h l) (num 0 9223372036854775807) = c := ⟨_, rfl⟩
  have c0 : c ≤ 0 := by rw [← hc]; unfold cmpN num at *; split <;> (try split) <;> omega
  have e4 : IntKind.i64.wrap l = sat (num h l) := by rw [IntKind.wrap_i64]; unfold sat num at *; split <;> (try split) <;> omega
  have mL : mag (9223372036854775807) = 9223372036854775807 := by decide
  go_enter Tryz.func188, Tryz.ntmps188
  go_wp2
  go_region_held3 (fun w' => w'.cell? ⟨w.heap.size, 0, none⟩ = some (.int .u64 h) ∧ w'.cell? ⟨w.heap.size, 1, none⟩ = some (.int .u64 l)) (go_keep)
    (first
      | (go_at_call 190; refine (size_any _ _ (by omega) (by omega)).mono ?_; rintro e w' ⟨rfl, rfl⟩)
      | (go_at_call 198; refine (wof_any _ _).mono ?_; rintro e w' ⟨rfl, hb1⟩; obtain ⟨hc1, hf1⟩ := bcell hb1; have hz1 : w.heap.size < w'.heap.size := by (have := hb1.size; simp at this; omega))
      | (go_at_call 194; refine (wcmp_any _ _ _ _ _ (by omega) (by omega) (by omega) (by omega) (by omega) (by omega) (by omega) (by omega)).mono ?_; rintro e w' ⟨rfl, hb2⟩; obtain ⟨hc2, hf2⟩ := bcell hb2))
  go_wp2
  go_ret
  exact ⟨rfl, ((((Below.refl _ _).alloc (Nat.le_refl _) _).drew).trans (hb1.mono (by simp))).trans (hb2.mono (by omega))⟩
theorem sat_neg (h l : Int) (w : World) (h0 : 0 ≤ h) (h1 : h ≤ 18446744073709551615) (l0 : 0 ≤ l) (l1 : l ≤ 18446744073709551615) :
    Calls Tryz.prog 188 #[.bool true, .agg #[.int .u64 h, .int .u64 l]] w fun e w' => e = .returned (.int .i64 (sat (- num h l))) ∧ Below w.heap.size w w' := by
  by_cases hn : 9223372036854775808 < num h l
  · have e : sat (- num h l) = -9223372036854775808 := by unfold sat; split <;> (try split) <;> omega
    rw [e]; exact sat_neg_over h l w h0 h1 l0 l1 hn
  · exact sat_neg_fits h l w h0 h1 l0 l1 (by omega)
theorem sat_pos (h l : Int) (w : World) (h0 : 0 ≤ h) (h1 : h ≤ 18446744073709551615) (l0 : 0 ≤ l) (l1 : l ≤ 18446744073709551615) :
    Calls Tryz.prog 188 #[.bool false, .agg #[.int .u64 h, .int .u64 l]] w fun e w' => e = .returned (.int .i64 (sat (num h l))) ∧ Below w.heap.size w w' := by
  by_cases hn : 9223372036854775807 < num h l
  · have e : sat (num h l) = 9223372036854775807 := by unfold sat; split <;> (try split) <;> omega
    rw [e]; exact sat_pos_over h l w h0 h1 l0 l1 hn
  · exact sat_pos_fits h l w h0 h1 l0 l1 (by omega)
end Go.Proofs.YtgdblfghbnallaaGreat
