/- What the calls of package fix answer: products, quotients, and the calls of Q. -/
import Derived.Test.YtfbkimhblfpibaaFix
namespace Go.Proofs.Ytfbkimhblfpibaa
open Go.ChangeShapes Go.WideShapes Go.ChangeAt Go.RowKit Kn
set_option linter.unusedVariables false
/-- What 'round' answers, whatever its sign and rest. -/
theorem round_any (neg : Bool) (n r : Int) (w : World) (n0 : 0 ≤ n) (n1 : n < 79228162514264337593543950336) :
    Calls Try.prog 47 #[.bool neg, .agg #[.int .u64 (hi n), .int .u64 (lo n)], .int .u64 r] w fun e w' => e = .returned (.int .i64 (sat (downN neg n r))) ∧ Below w.heap.size w w' := by
  have k0 := hi0 _ n0
  have k1 : hi n ≤ 4294967295 := by unfold hi; omega
  have k2 := lo0 n
  have k3 := lo1 n
  have en := num_hi_lo n
  cases neg
  · have h := round_pos (hi n) (lo n) r w k0 (by omega) k2 k3
    rw [en] at h
    simpa [downN] using h
  · by_cases hr : r = 0
    · subst hr
      have h := round_exact (hi n) (lo n) w k0 (by omega) k2 k3
      rw [en] at h
      simpa [downN] using h
    · have h := round_rest (hi n) (lo n) r w k0 k1 k2 k3 hr
      rw [en] at h
      simpa [downN, hr] using h
set_option maxHeartbeats 400000 in
theorem product_any (a b : Int) (w : World) (a0 : -9223372036854775808 ≤ a) (a1 : a ≤ 9223372036854775807) (b0 : -9223372036854775808 ≤ b) (b1 : b ≤ 9223372036854775807) :
    Calls Try.prog 39 #[.int .i64 a, .int .i64 b] w fun e w' => e = .returned (.int .i64 (sat (prodN a b))) ∧ Below w.heap.size w w' := by
  have m0 := mag0 a
  have m1 := mag1 a a0 a1
  have m2 := mag0 b
  have m3 := mag1 b b0 b1
  obtain ⟨n0, n1⟩ := magmul a b a0 a1 b0 b1
  have k0 := hi0 _ n0
  have k1 := hi1 (mag a * mag b) (by omega)
  have k2 := lo0 (mag a * mag b)
  have k3 := lo1 (mag a * mag b)
  have en := num_hi_lo (mag a * mag b)
  go_enter Try.func39, Try.ntmps39
  go_wp2_with (first
    | (go_at_call 45; refine (size_any _ _ (by omega) (by omega)).mono ?_; rintro e w' ⟨rfl, rfl⟩)
    | (go_at_call 44; refine (wmul_any _ _ _ (by omega) (by omega) (by omega) (by omega)).mono ?_; rintro e w1 ⟨rfl, hb1⟩)
    | (go_at_call 46; refine (wdiv_any _ _ _ _ k0 k1 k2 k3 (by omega) (by omega)).mono ?_; rintro e w2 ⟨rfl, hb2⟩; rw [en]))
  go_region_held3 (fun w' => w'.cell? ⟨w2.heap.size, 0, none⟩ = some (.int .u64 (hi (mag a * mag b / 4294967296))) ∧ w'.cell? ⟨w2.heap.size, 1, none⟩ = some (.int .u64 (lo (mag a * mag b / 4294967296)))) (go_keep)
    (first
      | (go_at_call 48; refine (below_any _ _ _).mono ?_; rintro e w' ⟨rfl, rfl⟩)
      | (go_at_call 47; refine (round_any _ _ _ _ (by omega) (by omega)).mono ?_; rintro e w3 ⟨rfl, hb3⟩; obtain ⟨hc3, hf3⟩ := bcell hb3))
  go_wp2
  go_ret
  exact ⟨rfl, (((hb1.trans (hb2.mono hb1.size)).alloc (by have := hb1.size; have := hb2.size; omega) _).drew).trans (hb3.mono (by have := hb1.size; have := hb2.size; simp; omega))⟩
set_option maxHeartbeats 400000 in
theorem qtimes_any (a b : Int) (w : World) (a0 : -9223372036854775808 ≤ a) (a1 : a ≤ 9223372036854775807) (b0 : -9223372036854775808 ≤ b) (b1 : b ≤ 9223372036854775807) :
    Calls Try.prog 28 #[.int .i64 a, .int .i64 b] w fun e w' => e = .returned (.int .i64 (sat (prodN a b))) ∧ Below w.heap.size w w' := by
  go_enter Try.func28, Try.ntmps28
  go_wp2_with (go_at_call 39; refine (product_any _ _ _ a0 a1 b0 b1).mono ?_; rintro e w1 ⟨rfl, hb1⟩)
  go_ret
  exact ⟨rfl, hb1⟩
theorem qfloor_any (a : Int) (w : World) (a0 : -9223372036854775808 ≤ a) (a1 : a ≤ 9223372036854775807) :
    Calls Try.prog 30 #[.int .i64 a] w fun e w' => e = .returned (.int .i64 (a / 4294967296)) ∧ w = w' := by
  go_enter Try.func30, Try.ntmps30
  go_wp2
  go_ret
  exact ⟨rfl, rfl⟩
end Go.Proofs.Ytfbkimhblfpibaa
