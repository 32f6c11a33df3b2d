/- What the calls of package wide answer. -/
import Derived.Test.YtfbkimhblfpibaaDiv
import Derived.Test.YtfbkimhblfpibaaPair
import Derived.Outline
import Derived.RegionTactic
import Derived.BigRegion
import Derived.Deep.RegionHeld3
import Derived.WalkSpells
import Derived.Laws.Pointers
namespace Go.Proofs.Ytfbkimhblfpibaa
open Go.ChangeShapes Go.WideShapes Go.ChangeAt Go.RowKit Kn
set_option linter.unusedVariables false
theorem add64 (x y c : Int) (hx : 0 ≤ x) (hy : 0 ≤ y) (hc0 : 0 ≤ c) (hc : c ≤ 1) (w : World) : (callFunc 55 #[.int .u64 x, .int .u64 y, .int .u64 c]).run Try.prog w =
    .ok (.value (.tuple #[.int .u64 ((x + y + c) % 18446744073709551616), .int .u64 ((x + y + c) / 18446744073709551616)])) w := by
  obtain ⟨x, rfl⟩ := Int.eq_ofNat_of_zero_le hx
  obtain ⟨y, rfl⟩ := Int.eq_ofNat_of_zero_le hy
  obtain ⟨c, rfl⟩ := Int.eq_ofNat_of_zero_le hc0
  refine (Any7.bits_Add64 Try.lays25 x y c (by omega) w).trans ?_
  congr 5 <;> omega
theorem add64_0 (x y : Int) (hx : 0 ≤ x) (hy : 0 ≤ y) (w : World) : (callFunc 55 #[.int .u64 x, .int .u64 y, .int .u64 0]).run Try.prog w =
    .ok (.value (.tuple #[.int .u64 ((x + y) % 18446744073709551616), .int .u64 ((x + y) / 18446744073709551616)])) w := by
  simpa using add64 x y 0 hx hy (Int.le_refl 0) (by decide) w
set_option maxHeartbeats 400000 in
theorem wof_any (a : Int) (w : World) :
    Calls Try.prog 52 #[.int .u64 a] w fun e w' => e = .returned (.agg #[.int .u64 0, .int .u64 a]) ∧ Below w.heap.size w w' := by
  go_enter Try.func52, Try.ntmps52
  go_wp2
  exact bodyPost_ret (v := .agg #[.int .u64 0, .int .u64 a]) (by simp [results, Try.results52, go_sem]) rfl ⟨rfl, ((Below.refl _ _).alloc (Nat.le_refl _) _)⟩
set_option maxHeartbeats 400000 in
theorem wmul_any (a b : Int) (w : World) (a0 : 0 ≤ a) (a1 : a ≤ 18446744073709551615) (b0 : 0 ≤ b) (b1 : b ≤ 18446744073709551615) :
    Calls Try.prog 44 #[.int .u64 a, .int .u64 b] w fun e w' => e = .returned (.agg #[.int .u64 (hi (a * b)), .int .u64 (lo (a * b))]) ∧ Below w.heap.size w w' := by
  obtain ⟨x, rfl⟩ := Int.eq_ofNat_of_zero_le a0
  obtain ⟨y, rfl⟩ := Int.eq_ofNat_of_zero_le b0
  go_enter Try.func44, Try.ntmps44
  go_wp2_with (go_at_call 49; refine (Try.bits_Mul64 _ _ (by omega) (by omega) _).mono ?_; rintro e w' ⟨rfl, rfl⟩)
  exact bodyPost_ret (v := .agg #[.int .u64 (hi (x * y)), .int .u64 (lo (x * y))]) (by simp [results, Try.results44, go_sem]; exact ⟨rfl, rfl⟩) rfl ⟨rfl, ((Below.refl _ _).alloc (Nat.le_refl _) _)⟩
theorem add_hi (ah al bh bl : Int) :
    (ah + bh + (al + bl) / 18446744073709551616) % 18446744073709551616 = hi (addN (num ah al) (num bh bl)) := by unfold hi addN num; omega
theorem add_lo (ah al bh bl : Int) : (al + bl) % 18446744073709551616 = lo (addN (num ah al) (num bh bl)) := by unfold lo addN num; omega
theorem add_over (ah al bh bl : Int) (ah0 : 0 ≤ ah) (ah1 : ah ≤ 18446744073709551615) (bh0 : 0 ≤ bh) (bh1 : bh ≤ 18446744073709551615) (al0 : 0 ≤ al) (al1 : al ≤ 18446744073709551615) (bl0 : 0 ≤ bl) (bl1 : bl ≤ 18446744073709551615) :
    (!((ah + bh + (al + bl) / 18446744073709551616) / 18446744073709551616 == 0)) = overB (num ah al) (num bh bl) := by
  unfold overB num
  by_cases h : 340282366920938463463374607431768211456 ≤ ah * 18446744073709551616 + al + (bh * 18446744073709551616 + bl)
  · rw [decide_eq_true h]; simp; omega
  · rw [decide_eq_false h]; simp; omega
set_option maxHeartbeats 400000 in
theorem wadd_any (ah al bh bl : Int) (w : World) (ah0 : 0 ≤ ah) (ah1 : ah ≤ 18446744073709551615) (al0 : 0 ≤ al) (al1 : al ≤ 18446744073709551615) (bh0 : 0 ≤ bh) (bh1 : bh ≤ 18446744073709551615) (bl0 : 0 ≤ bl) (bl1 : bl ≤ 18446744073709551615) :
    Calls Try.prog 51 #[.agg #[.int .u64 ah, .int .u64 al], .agg #[.int .u64 bh, .int .u64 bl]] w fun e w' => e = .returned (.tuple #[.agg #[.int .u64 (hi (addN (num ah al) (num bh bl))), .int .u64 (lo (addN (num ah al) (num bh bl)))], .bool (overB (num ah al) (num bh bl))]) ∧ Below w.heap.size w w' := by
  have k0 : 0 ≤ (al + bl) / 18446744073709551616 := by omega
  have k1 : (al + bl) / 18446744073709551616 ≤ 1 := by omega
  rw [← add_hi ah al bh bl, ← add_lo ah al bh bl, ← add_over ah al bh bl ah0 ah1 bh0 bh1 al0 al1 bl0 bl1]
  go_enter Try.func51, Try.ntmps51
  go_wp2_with (first | simp only [add64_0 al bl al0 bl0] | simp only [add64 ah bh _ ah0 bh0 k0 k1])
  refine bodyPost_ret (v := .tuple #[.agg #[.int .u64 _, .int .u64 _], .bool _]) (by simp [results, Try.results51, go_sem]; exact rfl) rfl ⟨rfl, ?_⟩
  exact ((((Below.refl _ _).alloc (Nat.le_refl _) _).alloc (by simp) _).alloc (by simp; omega) _)
set_option maxHeartbeats 400000 in
theorem wcmp_any (ah al bh bl : Int) (w : World) (ah0 : 0 ≤ ah) (ah1 : ah ≤ 18446744073709551615) (al0 : 0 ≤ al) (al1 : al ≤ 18446744073709551615) (bh0 : 0 ≤ bh) (bh1 : bh ≤ 18446744073709551615) (bl0 : 0 ≤ bl) (bl1 : bl ≤ 18446744073709551615) :
    Calls Try.prog 56 #[.agg #[.int .u64 ah, .int .u64 al], .agg #[.int .u64 bh, .int .u64 bl]] w fun e w' => e = .returned (.int .i64 (cmpN (num ah al) (num bh bl))) ∧ Below w.heap.size w w' := by
  by_cases h1 : ah < bh
  · have H : cmpN (num ah al) (num bh bl) = -1 := by unfold cmpN num; split <;> omega
    have h2 : ¬ ah = bh := by omega
    rw [H]; clear H
    go_enter Try.func56, Try.ntmps56
    go_wp2
    go_ret
    exact ⟨rfl, ((Below.refl _ _).alloc (Nat.le_refl _) _).alloc (by simp) _⟩
  · by_cases h2 : ah = bh
    · subst h2
      by_cases h3 : al = bl
      · subst h3
        have H : cmpN (num ah al) (num ah al) = 0 := by unfold cmpN num; split <;> simp; omega
        rw [H]; clear H
        go_enter Try.func56, Try.ntmps56
        go_wp2
        go_ret
        exact ⟨rfl, ((Below.refl _ _).alloc (Nat.le_refl _) _).alloc (by simp) _⟩
      · by_cases h4 : al < bl
        · have H : cmpN (num ah al) (num ah bl) = -1 := by unfold cmpN num; split <;> omega
          rw [H]; clear H
          go_enter Try.func56, Try.ntmps56
          go_wp2
          go_ret
          exact ⟨rfl, ((Below.refl _ _).alloc (Nat.le_refl _) _).alloc (by simp) _⟩
        · have H : cmpN (num ah al) (num ah bl) = 1 := by unfold cmpN num; split <;> (try split) <;> omega
          rw [H]; clear H
          go_enter Try.func56, Try.ntmps56
          go_wp2
          go_ret
          exact ⟨rfl, ((Below.refl _ _).alloc (Nat.le_refl _) _).alloc (by simp) _⟩
    · have H : cmpN (num ah al) (num bh bl) = 1 := by unfold cmpN num; split <;> (try split) <;> omega
      rw [H]; clear H
      go_enter Try.func56, Try.ntmps56
      go_wp2
      go_ret
      exact ⟨rfl, ((Below.refl _ _).alloc (Nat.le_refl _) _).alloc (by simp) _⟩
theorem shift_cap (l : Int) (m : Nat) : IntKind.u64.wrap (l * 2 ^ min m 64) = IntKind.u64.wrap (l * 2 ^ m) := by
  by_cases h : m ≤ 64
  · rw [Nat.min_eq_left h]
  · have e : (2 : Int) ^ m = 2 ^ (m - 64) * 18446744073709551616 := by rw [show (18446744073709551616 : Int) = 2 ^ 64 from rfl, ← Int.pow_add]; congr 1; omega
    rw [Nat.min_eq_right (by omega), wrapu, wrapu, e, ← Int.mul_assoc, Int.mul_emod_left]
    exact Int.mul_emod_left _ _
set_option maxHeartbeats 400000 in
theorem wdiv_zero (h l : Int) (w : World) : 
    Calls Try.prog 46 #[.agg #[.int .u64 h, .int .u64 l], .int .u64 0] w fun e w' => e = .returned (.tuple #[.agg #[.int .u64 0, .int .u64 0], .int .u64 0]) ∧ Below w.heap.size w w' := by
  go_enter Try.func46, Try.ntmps46
  go_wp2
  refine bodyPost_ret (v := .tuple #[.agg #[.int .u64 0, .int .u64 0], .int .u64 0]) (by simp [results, Try.results46, go_sem]) rfl ⟨rfl, ((Below.refl _ _).alloc (Nat.le_refl _) _).alloc (by simp) _⟩
theorem div_parts (h l d : Int) (d0 : 0 < d) : (h % d * 18446744073709551616 + l) / d = num h l / d - h / d * 18446744073709551616 ∧ (h % d * 18446744073709551616 + l) % d = num h l % d := by
  have e := Int.mul_ediv_add_emod h d
  have e2 : num h l = (h % d * 18446744073709551616 + l) + h / d * 18446744073709551616 * d := by
    unfold num
    rw [Int.mul_right_comm, Int.mul_comm (h / d) d]
    omega
  rw [e2]
  exact ⟨by rw [Int.add_mul_ediv_right _ _ (by omega)]; omega, by rw [Int.add_mul_emod_self_right]⟩
set_option maxHeartbeats 400000 in
theorem wdiv_any (h l d : Int) (w : World) (h0 : 0 ≤ h) (h1 : h ≤ 18446744073709551615) (l0 : 0 ≤ l) (l1 : l ≤ 18446744073709551615) (d0 : 0 < d) (d1 : d ≤ 18446744073709551615) :
    Calls Try.prog 46 #[.agg #[.int .u64 h, .int .u64 l], .int .u64 d] w fun e w' => e = .returned (.tuple #[.agg #[.int .u64 (hi (num h l / d)), .int .u64 (lo (num h l / d))], .int .u64 (num h l % d)]) ∧ Below w.heap.size w w' := by
  have m0 : 0 ≤ h % d := Int.emod_nonneg _ (by omega)
  have m1 : h % d < d := Int.emod_lt_of_pos _ d0
  obtain ⟨p1, p2⟩ := div_parts h l d d0
  have hq : (h % d * 18446744073709551616 + l) / d < 18446744073709551616 := by
    apply Int.ediv_lt_of_lt_mul d0; omega
  have hq0 : 0 ≤ (h % d * 18446744073709551616 + l) / d := Int.ediv_nonneg (by omega) (by omega)
  have e1 : h / d = hi (num h l / d) := by unfold hi; omega
  have e2 : (h % d * 18446744073709551616 + l) / d = lo (num h l / d) := by unfold lo; omega
  clear p1 hq hq0
  have hd : ¬ d = 0 := by omega
  go_enter Try.func46, Try.ntmps46
  go_wp2
  go_quiet ((go_at_call 50; exact Calls.quiet_of (div64_any _ _ _ _ m0 m1 l0 l1 d1)))
  go_wp2
  refine bodyPost_ret (v := .tuple #[.agg #[.int .u64 (hi (num h l / d)), .int .u64 (lo (num h l / d))], .int .u64 (num h l % d)]) (by simp [results, Try.results46, go_sem]) rfl ⟨rfl, ?_⟩
  exact (((below_drewN (((Below.refl _ _).alloc (Nat.le_refl _) _).alloc (by simp) _) _).setCell (by simp) _).setCell (by simp) _)
end Go.Proofs.Ytfbkimhblfpibaa
