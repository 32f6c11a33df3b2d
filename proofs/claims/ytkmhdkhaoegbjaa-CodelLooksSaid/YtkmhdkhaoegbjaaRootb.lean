/- What the calls of package root answer. -/
import Derived.Test.YtkmhdkhaoegbjaaWideb
import Derived.Test.YtkmhdkhaoegbjaaHelp
import Derived.Test.YtkmhdkhaoegbjaaRefo
import Derived.Test.YtkmhdkhaoegbjaaRoota
namespace Go.Proofs.Ytkmhdkhaoegbjaa
open Go.ChangeShapes Go.WideShapes Go.ChangeAt Go.RowKit Kn
set_option linter.unusedVariables false
theorem pow_two_succ (k : Nat) (h : 0 < k) : (2 : Int) ^ k = 2 * 2 ^ (k - 1) := by
  obtain ⟨j, rfl⟩ : ∃ j, k = j + 1 := ⟨k - 1, by omega⟩
  rw [Int.pow_succ, Int.mul_comm]; rfl
theorem bits_half (h l : Int) (h0 : 0 ≤ h) (h1 : h ≤ 18446744073709551615) (l0 : 0 ≤ l) (l1 : l ≤ 18446744073709551615) :
    ∃ k : Nat, k ≤ 64 ∧ (bitsN h l + 1) / 2 = k ∧ num h l < 2 ^ k * 2 ^ k := by
  have e := nb_bits h l h0 h1 l0 l1
  have le := nb_le (num h l) 128
  have sp := (nb_spec (num h l) 128).1
  have n0 := num0 h l h0 l0
  have n1 := num1 h l h1 l1
  rw [show (2 : Int) ^ 128 = 340282366920938463463374607431768211456 from rfl, Int.emod_eq_of_lt n0 n1] at sp
  refine ⟨(nb (num h l) 128 + 1) / 2, by omega, by omega, ?_⟩
  have := pow2_mono (nb (num h l) 128) ((nb (num h l) 128 + 1) / 2 + (nb (num h l) 128 + 1) / 2) (by omega)
  rw [← Int.pow_add]
  omega
theorem or_bit (r : Int) (k : Nat) (hk : 0 < k) (k64 : k ≤ 64) (r0 : 0 ≤ r) (hm : r % 2 ^ k = 0) (hr : r + 2 ^ k ≤ 18446744073709551616) :
    bits .or .u64 r (2 ^ (k - 1)) = r + 2 ^ (k - 1) := by
  have p : (0 : Int) < 2 ^ (k - 1) := Int.pow_pos (by decide)
  have e := pow_two_succ k hk
  exact bits_join .u64 64 (by decide) wraps64 k _ _ r0 hm (by omega) (by omega) (by omega) (by omega)
set_option maxHeartbeats 1000000 in
theorem rtwide_any (h l : Int) (w : World) (h0 : 0 ≤ h) (h1 : h ≤ 18446744073709551615) (l0 : 0 ≤ l) (l1 : l ≤ 18446744073709551615) :
    Calls Try.prog 40 #[.agg #[.int .u64 h, .int .u64 l]] w fun e w' => e = .returned (.int .u64 (rootN (num h l))) ∧ Below w.heap.size w w' := by
  obtain ⟨K, hK, eK, hN⟩ := bits_half h l h0 h1 l0 l1
  have N0 := num0 h l h0 l0
  have hb0 : 0 ≤ bitsN h l := by unfold bitsN; split <;> omega
  have e4 : wrap64 ((wrap64 (bitsN h l + 1)).tdiv 2) = (K : Int) := by
    have hu : bitsN h l ≤ 128 := by omega
    have e : wrap64 (bitsN h l + 1) = bitsN h l + 1 := by unfold wrap64; omega
    rw [e, Int.tdiv_eq_ediv_of_nonneg (by omega), eK]
    unfold wrap64; omega
  clear eK hb0
  go_enter Try.func40, Try.ntmps40
  go_wp2_with (first
    | (go_at_call 49; refine (wbits_any _ _ _ h0 h1 l0 l1).mono ?_; rintro e w1 ⟨rfl, hb1⟩))
  have E4 := Lib.hid e4; clear e4
  have hs1 := hb1.size
  simp at hs1
  go_loopw [3, 4] (fun root i wr => ∃ (r : Int) (k : Nat), root = .int .u64 r ∧ i = .int .i64 k ∧ k ≤ 64 ∧ 0 ≤ r ∧ r % 2 ^ k = 0 ∧ r + 2 ^ k ≤ 18446744073709551616 ∧ r * r ≤ num h l ∧ num h l < (r + 2 ^ k) * (r + 2 ^ k) ∧ Below w.heap.size w wr ∧ w.heap.size < wr.heap.size ∧ wr.cell? ⟨w.heap.size, 0, none⟩ = some (.int .u64 h) ∧ wr.cell? ⟨w.heap.size, 1, none⟩ = some (.int .u64 l)) (fun _ i _ => (intOf i).toNat)
  case atStart =>
    refine ⟨0, K, rfl, by rw [E4.out], hK, Int.le_refl _, Int.zero_emod _, ?_, ?_, ?_, ?_, ?_, ?_, ?_⟩
    · have := pow2_mono K 64 hK; rw [show (2 : Int) ^ 64 = 18446744073709551616 from rfl] at this; omega
    · omega
    · rw [Int.zero_add]; exact hN
    · exact ((Below.refl _ _).alloc (Nat.le_refl _) _).trans (hb1.mono (by simp))
    · omega
    · rw [(bcell hb1).1 _ _ (by simp)]; simp [go_sem]
    · rw [(bcell hb1).1 _ _ (by simp)]; simp [go_sem]
  case round =>
    clear hb1 hs1 hN hK
    obtain ⟨r, k, rfl, rfl, hk, r0, hm, hr, hle, hlt, hb, hsz, c0, c1⟩ := hrel
    by_cases hk0 : 0 < k
    · have p0 : (0 : Int) < 2 ^ (k - 1) := Int.pow_pos (by decide)
      have ep := pow_two_succ k hk0
      obtain ⟨g, hg⟩ : ∃ g, g = r + 2 ^ (k - 1) := ⟨_, rfl⟩
      have e1 : bits .or .u64 r (IntKind.u64.wrap (2 ^ (k - 1))) = g := by
        have : IntKind.u64.wrap (2 ^ (k - 1)) = 2 ^ (k - 1) := by rw [wrapu]; omega
        rw [this, hg]; exact or_bit r k hk0 hk r0 hm hr
      have g0 : 0 ≤ g := by omega
      have g1 : g ≤ 18446744073709551615 := by omega
      have q0 : 0 ≤ g * g := Int.mul_nonneg g0 g0
      have q1 : g * g < 340282366920938463463374607431768211456 := by have := Int.mul_le_mul g1 g1 g0 (by omega); omega
      have k0 := hi0 _ q0
      have k1 := hi1 _ q1
      have k2 := lo0 (g * g)
      have k3 := lo1 (g * g)
      have en := num_hi_lo (g * g)
      have st : (g * g ≤ num h l → g % 2 ^ (k - 1) = 0 ∧ g + 2 ^ (k - 1) ≤ 18446744073709551616 ∧ g * g ≤ num h l ∧ num h l < (g + 2 ^ (k - 1)) * (g + 2 ^ (k - 1))) ∧ (¬ g * g ≤ num h l → r % 2 ^ (k - 1) = 0 ∧ r + 2 ^ (k - 1) ≤ 18446744073709551616 ∧ r * r ≤ num h l ∧ num h l < (r + 2 ^ (k - 1)) * (r + 2 ^ (k - 1))) := by
        have a := root_step (num h l) r (2 ^ (k - 1)) hle (by rw [← ep]; exact hlt)
        rw [← hg] at a
        have hr0 : r % 2 ^ (k - 1) = 0 := by
          rw [ep] at hm
          have := Int.emod_emod_of_dvd r (show (2 : Int) ^ (k - 1) ∣ 2 * 2 ^ (k - 1) from ⟨2, Int.mul_comm _ _⟩)
          rw [hm] at this; rw [← this]; exact Int.zero_emod _
        have hg0 : g % 2 ^ (k - 1) = 0 := by rw [hg, Int.add_emod_right]; exact hr0
        exact ⟨fun c => ⟨hg0, by omega, a.1 c⟩, fun c => ⟨hr0, by omega, by rw [← hg]; exact a.2 c⟩⟩
      have HG := Lib.hid hg; clear hg
      have ST := Lib.hid st; clear st
      clear ep hm hr hle hlt
      by_cases hf : g * g ≤ num h l
      · have hc : cmpN (g * g) (num h l) ≤ 0 := by unfold cmpN; split; omega; split <;> omega
        go_wp2
        go_region_held3 (fun w' => w'.cell? ⟨w.heap.size, 0, none⟩ = some (.int .u64 h) ∧ w'.cell? ⟨w.heap.size, 1, none⟩ = some (.int .u64 l)) (refine ⟨?_, ?_⟩ <;> simp [go_sem, *])
          (first
            | (go_at_call 38; refine (wmul_any _ _ _ g0 g1 g0 g1).mono ?_; rintro e w2 ⟨rfl, hb2⟩; replace c0 := (hb2.cell (p := ⟨w.heap.size, 0, none⟩) hsz).trans c0; replace c1 := (hb2.cell (p := ⟨w.heap.size, 1, none⟩) hsz).trans c1; replace hsz := Nat.lt_of_lt_of_le hsz hb2.size; replace hb := (show Below w.heap.size w w2 from by first | exact under0 hb hb2 | exact under0 hb.drew hb2); clear hb2)
            | (go_at_call 50; refine (wcmp_any _ _ _ _ _ k0 k1 k2 k3 h0 h1 l0 l1).mono ?_; rintro e w3 ⟨rfl, hb3⟩; rw [en]; replace c0 := (hb3.cell (p := ⟨w.heap.size, 0, none⟩) hsz).trans c0; replace c1 := (hb3.cell (p := ⟨w.heap.size, 1, none⟩) hsz).trans c1; replace hsz := Nat.lt_of_lt_of_le hsz hb3.size; replace hb := (show Below w.heap.size w w3 from by first | exact under0 hb hb3 | exact under0 hb.drew hb3); clear hb3))
        go_wp2
        obtain ⟨s1, s2, s3, s4⟩ := ST.out.1 hf
        go_roundw
        case rel => exact ⟨g, k - 1, rfl, congrArg (Value.int .i64) (by omega), by omega, g0, s1, s2, s3, s4, hb, hsz, c0, c1⟩
        case measure => simp [intOf]; omega
      · have hc : ¬ cmpN (g * g) (num h l) ≤ 0 := by unfold cmpN; split; omega; split <;> omega
        go_wp2
        go_region_held3 (fun w' => w'.cell? ⟨w.heap.size, 0, none⟩ = some (.int .u64 h) ∧ w'.cell? ⟨w.heap.size, 1, none⟩ = some (.int .u64 l)) (refine ⟨?_, ?_⟩ <;> simp [go_sem, *])
          (first
            | (go_at_call 38; refine (wmul_any _ _ _ g0 g1 g0 g1).mono ?_; rintro e w2 ⟨rfl, hb2⟩; replace c0 := (hb2.cell (p := ⟨w.heap.size, 0, none⟩) hsz).trans c0; replace c1 := (hb2.cell (p := ⟨w.heap.size, 1, none⟩) hsz).trans c1; replace hsz := Nat.lt_of_lt_of_le hsz hb2.size; replace hb := (show Below w.heap.size w w2 from by first | exact under0 hb hb2 | exact under0 hb.drew hb2); clear hb2)
            | (go_at_call 50; refine (wcmp_any _ _ _ _ _ k0 k1 k2 k3 h0 h1 l0 l1).mono ?_; rintro e w3 ⟨rfl, hb3⟩; rw [en]; replace c0 := (hb3.cell (p := ⟨w.heap.size, 0, none⟩) hsz).trans c0; replace c1 := (hb3.cell (p := ⟨w.heap.size, 1, none⟩) hsz).trans c1; replace hsz := Nat.lt_of_lt_of_le hsz hb3.size; replace hb := (show Below w.heap.size w w3 from by first | exact under0 hb hb3 | exact under0 hb.drew hb3); clear hb3))
        go_wp2
        obtain ⟨s1, s2, s3, s4⟩ := ST.out.2 hf
        go_roundw
        case rel => exact ⟨r, k - 1, rfl, congrArg (Value.int .i64) (by omega), by omega, r0, s1, s2, s3, s4, hb, hsz, c0, c1⟩
        case measure => simp [intOf]; omega
    · have hk' : k = 0 := by omega
      have H := root_unique (num h l) r r0 hle (by rw [hk', Int.pow_zero] at hlt; exact hlt)
      clear hk'
      have HH := Lib.hid H; clear H
      go_wp2
      go_ret
      rw [HH.out]; exact ⟨rfl, hb⟩
end Go.Proofs.Ytkmhdkhaoegbjaa
