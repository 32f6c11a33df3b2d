/- What the calls of package root answer: of 64 bits, squares, the law; layer 3's examples stand. -/
import Derived.Test.YtkmhdkhaoegbjaaRootb
namespace Go.Proofs.Ytkmhdkhaoegbjaa
open Go.ChangeShapes Go.WideShapes Go.ChangeAt Go.RowKit Kn
set_option linter.unusedVariables false
theorem num_0 (a : Int) : num 0 a = a := by unfold num; omega
set_option maxHeartbeats 400000 in
theorem rtlaw_neg (i n : Int) (w : World) (h : i < 0) :
    Calls Try.prog 27 #[.int .i64 i, .int .u64 n] w fun e w' => e = .returned (.int .i64 0) ∧ Below w.heap.size w w' := by
  go_enter Try.func27, Try.ntmps27
  go_wp2
  go_ret
  exact ⟨rfl, Below.refl _ _⟩
set_option maxHeartbeats 400000 in
theorem rtlaw_any (i n : Int) (w : World) (i0 : 0 ≤ i) (i1 : i ≤ 9223372036854775807) (n0 : 0 ≤ n) (n1 : n ≤ 18446744073709551615) :
    Calls Try.prog 27 #[.int .i64 i, .int .u64 n] w fun e w' => e = .returned (.int .i64 (lawN i n)) ∧ Below w.heap.size w w' := by
  have hi' : ¬ i < 0 := by omega
  obtain ⟨d, hd⟩ : ∃ d, max n 1 = d := ⟨_, rfl⟩
  have d0 : 0 < d := by omega
  have d1 : d ≤ 18446744073709551615 := by omega
  have q0 : 0 ≤ i * i := Int.mul_nonneg i0 i0
  have q1 : i * i < 340282366920938463463374607431768211456 := by have := Int.mul_le_mul i1 i1 i0 (by omega); omega
  have k0 := hi0 _ q0
  have k1 := hi1 _ q1
  have k2 := lo0 (i * i)
  have k3 := lo1 (i * i)
  have en := num_hi_lo (i * i)
  have z0 : 0 ≤ i * i / d := Int.ediv_nonneg q0 (by omega)
  have z1 : i * i / d < 340282366920938463463374607431768211456 := by have := Int.ediv_le_self d q0; omega
  have m0 := hi0 _ z0
  have m1 := hi1 _ z1
  have m2 := lo0 (i * i / d)
  have m3 := lo1 (i * i / d)
  have em := num_hi_lo (i * i / d)
  have L0 := law0 i n
  have L1 := law_le i n i0
  have el : rootN (i * i / d) = lawN i n := by unfold lawN; rw [hd]
  go_enter Try.func27, Try.ntmps27
  go_wp2_with (first
    | (go_at_call 38; refine (wmul_any _ _ _ i0 (by omega) i0 (by omega)).mono ?_; rintro e w1 ⟨rfl, hb1⟩)
    | (go_at_call 39; refine (wdiv_any _ _ _ _ k0 k1 k2 k3 d0 d1).mono ?_; rintro e w2 ⟨rfl, hb2⟩; rw [en]; replace hb1 := under0 hb1 hb2)
    | (go_at_call 40; refine (rtwide_any _ _ _ m0 m1 m2 m3).mono ?_; rintro e w3 ⟨rfl, hb3⟩; rw [em, el]; replace hb1 := under0 (hb1.alloc hb1.size _) hb3))
  go_ret
  exact ⟨rfl, hb1⟩
theorem law_a : lawN 100 2 = 70 := by unfold lawN; exact root_unique _ _ (by decide) (by decide) (by decide)
theorem law_b : lawN 100 4 = 50 := by unfold lawN; exact root_unique _ _ (by decide) (by decide) (by decide)
/-- The law of any interval: of one below 0 it is 0. -/
def lawZ (i n : Int) : Int := if i < 0 then 0 else lawN i n
theorem lawZ_falls (i n m : Int) (h : n ≤ m) : ¬ lawZ i n < lawZ i m := by
  unfold lawZ
  split
  · omega
  · have := law_falls i n m h; omega
theorem lawZ_rises (i j n : Int) (h : i ≤ j) : ¬ lawZ j n < lawZ i n := by
  unfold lawZ
  split
  · split
    · omega
    · have := law0 i n; omega
  · split
    · have := law0 j n; omega
    · have := law_rises i j n (by omega) h; omega
theorem lawZ_square (i k : Int) (i0 : 0 ≤ i) (k0 : 0 < k) : lawZ i (k * k) = i / k := by
  unfold lawZ
  rw [if_neg (by omega)]; exact law_square i k i0 k0
theorem rtlaw_all (i n : Int) (w : World) (i1 : i ≤ 9223372036854775807) (n0 : 0 ≤ n) (n1 : n ≤ 18446744073709551615) :
    Calls Try.prog 27 #[.int .i64 i, .int .u64 n] w fun e w' => e = .returned (.int .i64 (lawZ i n)) ∧ Below w.heap.size w w' := by
  by_cases h : i < 0
  · have e : lawZ i n = 0 := by unfold lawZ; rw [if_pos h]
    rw [e]; exact rtlaw_neg i n w h
  · have e : lawZ i n = lawN i n := by unfold lawZ; rw [if_neg h]
    rw [e]; exact rtlaw_any i n w (by omega) i1 n0 n1
end Go.Proofs.Ytkmhdkhaoegbjaa
