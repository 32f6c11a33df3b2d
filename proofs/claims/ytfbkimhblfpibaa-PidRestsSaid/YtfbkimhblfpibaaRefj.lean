/- The document's answers of layer 2: rounding down, products of parts, floors. -/
import Derived.Test.YtfbkimhblfpibaaRefg
import Derived.Test.YtfbkimhblfpibaaRefi
namespace Go.Proofs.Ytfbkimhblfpibaa
open Go.ChangeShapes Go.WideShapes Go.ChangeAt Go.RowKit Kn
set_option linter.unusedVariables false
def downS (t left : Bool) (n : Int) : Int := if t && left then -(n + 1) else if t then -n else n
theorem downS_eq (t : Bool) (n r : Int) (r0 : 0 ≤ r) : downS t (decide (0 < r)) n = downN t n r := by
  unfold downS downN
  cases t
  · simp
  · by_cases h : r = 0
    · subst h; simp
    · have : 0 < r := by omega
      simp [h, this]
set_option maxHeartbeats 400000 in
theorem rdown_plain (t : Bool) (n : Int) (left : Bool) (w : World) (n0 : 0 ≤ n) (n1 : n < 340282366920938463463374607431768211456) (hl : (t && left) = false) :
    Calls Try.prog 34 #[.agg #[.int .u64 (hi n), .int .u64 (lo n)], .bool left, .bool t] w fun e w' => e = .returned (.int .i64 (sat (downS t left n))) ∧ Below w.heap.size w w' := by
  have e : downS t left n = sgn t n := by unfold downS sgn; rw [hl]; simp
  rw [e]
  clear e
  have hb := Below.refl w.heap.size w
  cases t
  · go_enter Try.func34, Try.ntmps34
    go_wp2_with (go_at_call 36; refine (rback_any _ _ _ n0 n1).mono ?_; rintro e w5 ⟨rfl, hb5⟩; replace hb := (hb.alloc hb.size _).trans (hb5.mono (by have := hb.size; (try simp); (try omega))))
    go_ret
    exact ⟨rfl, hb⟩
  · cases left
    · go_enter Try.func34, Try.ntmps34
      go_wp2_with (go_at_call 36; refine (rback_any _ _ _ n0 n1).mono ?_; rintro e w5 ⟨rfl, hb5⟩; replace hb := (hb.alloc hb.size _).trans (hb5.mono (by have := hb.size; (try simp); (try omega))))
      go_ret
      exact ⟨rfl, hb⟩
    · cases hl
set_option maxHeartbeats 400000 in
theorem rdown_left (n : Int) (w : World) (n0 : 0 ≤ n) (n1 : n < 79228162514264337593543950336) :
    Calls Try.prog 34 #[.agg #[.int .u64 (hi n), .int .u64 (lo n)], .bool true, .bool true] w fun e w' => e = .returned (.int .i64 (sat (downS true true n))) ∧ Below w.heap.size w w' := by
  have ea : addN n 1 = n + 1 := by unfold addN; omega
  have en := num_hi_lo n
  have n01 : num 0 1 = 1 := rfl
  have k0 := hi0 n n0
  have k1 := hi1 n (by omega)
  have k2 := lo0 n
  have k3 := lo1 n
  go_enter Try.func34, Try.ntmps34
  go_wp2_with (first
    | (go_at_call 35; refine (radd_any _ _ _ _ _ (by omega) (by omega) (by omega) (by omega) (by omega) (by omega) (by omega) (by omega)).mono ?_; rintro e w1 ⟨rfl, hb1⟩; rw [en, n01, ea]; obtain ⟨hc1, hf1⟩ := bcell hb1; have hz1 : w.heap.size < w1.heap.size := (by have := hb1.size; simp at this; omega); have p0 : w1.cell? ⟨w.heap.size, 0, none⟩ = some (.int .u64 (hi n)) := (hb1.cell (by simp)).trans (World.cell?_alloc_at _ _ _ _ rfl); have p1 : w1.cell? ⟨w.heap.size, 1, none⟩ = some (.int .u64 (lo n)) := (hb1.cell (by simp)).trans (World.cell?_alloc_at _ _ _ _ rfl))
    | (go_at_call 36; refine (rback_any _ _ _ (by omega) (by omega)).mono ?_; rintro e w5 ⟨rfl, hb5⟩))
  go_ret
  have hz := hb1.size
  simp at hz
  exact ⟨rfl, ((((((Below.refl _ _).alloc (Nat.le_refl _) _).trans (hb1.mono (by simp))).setCell (p := ⟨w.heap.size, 0, none⟩) (Nat.le_refl _) _).setCell (p := ⟨w.heap.size, 1, none⟩) (Nat.le_refl _) _).trans (hb5.mono (by simp; omega)))⟩
theorem rdown_any (t : Bool) (n : Int) (left : Bool) (w : World) (n0 : 0 ≤ n) (n1 : n < 79228162514264337593543950336) :
    Calls Try.prog 34 #[.agg #[.int .u64 (hi n), .int .u64 (lo n)], .bool left, .bool t] w fun e w' => e = .returned (.int .i64 (sat (downS t left n))) ∧ Below w.heap.size w w' := by
  cases t
  · exact rdown_plain false n left w n0 (by omega) rfl
  · cases left
    · exact rdown_plain true n false w n0 (by omega) rfl
    · exact rdown_left n w n0 n1
set_option maxHeartbeats 2000000 in
theorem rof02_any (a b : Int) (w : World) (a0 : -9223372036854775808 ≤ a) (a1 : a ≤ 9223372036854775807) (b0 : -9223372036854775808 ≤ b) (b1 : b ≤ 9223372036854775807) :
    Calls Try.prog 22 #[.int .i64 a, .int .i64 b] w fun e w' => e = .returned (.int .i64 (sat (prodN a b))) ∧ Below w.heap.size w w' := by
  have m0 := mag0 a
  have m1 := mag1 a a0 a1
  have m2 := mag0 b
  have m3 := mag1 b b0 b1
  obtain ⟨n0, n1⟩ := magmul a b a0 a1 b0 b1
  have k0 := hi0 _ n0
  have k1 := hi1 (mag a * mag b) (by omega)
  have k2 := lo0 (mag a * mag b)
  have k3 := lo1 (mag a * mag b)
  have en := num_hi_lo (mag a * mag b)
  have ef := downS_eq (negB a b) (mag a * mag b / 4294967296) (mag a * mag b % 4294967296) (by omega)
  have e2 : negB a b = (isNeg a != isNeg b) := rfl
  have e3 : downN (negB a b) (mag a * mag b / 4294967296) (mag a * mag b % 4294967296) = prodN a b := rfl
  rw [e3, e2] at ef
  clear e2 e3
  obtain ⟨sa, es⟩ : ∃ t, isNeg a = t := ⟨_, rfl⟩
  obtain ⟨sb, et⟩ : ∃ t, isNeg b = t := ⟨_, rfl⟩
  rw [es, et] at ef
  have EF := Lib.hid ef; clear ef
  have tok : True := trivial
  have hb := Below.refl w.heap.size w
  cases sa <;> cases sb
  all_goals
    go_enter Try.func22, Try.ntmps22
    go_wp2_with (first
      | (go_at_call 31; refine (rsize_any _ _ (by omega) (by omega)).mono ?_; (first
        | (clear tok; rintro e w1 ⟨rfl, hb1⟩; rw [es]; replace hb := hb.trans (hb1.mono hb.size))
        | (rintro e w2 ⟨rfl, hb2⟩; rw [et]; replace hb := (hb.alloc hb.size _).trans (hb2.mono (by have := hb.size; (try simp); (try omega))); obtain ⟨hc2, hf2⟩ := bcell hb2; have hz2 : w1.heap.size < w2.heap.size := (by have := hb2.size; simp at this; omega))))
      | (go_at_call 33; refine (rmul_any _ _ _ (by omega) (by omega) (by omega) (by omega)).mono ?_; rintro e w3 ⟨rfl, hb3⟩; replace hb := (hb.alloc hb.size _).trans (hb3.mono (by have := hb.size; (try simp); (try omega))))
      | (go_at_call 32; refine (rdiv_any _ _ _ _ k0 k1 k2 k3 (by omega) (by omega)).mono ?_; rintro e w4 ⟨rfl, hb4⟩; rw [en]; replace hb := hb.trans (hb4.mono hb.size))
      | (go_at_call 34; refine (rdown_any _ _ _ _ (by omega) (by omega)).mono ?_; rintro e w5 ⟨rfl, hb5⟩; replace hb := (hb.alloc hb.size _).trans (hb5.mono (by have := hb.size; (try simp); (try omega)))))
    go_ret
    exact ⟨ret_int (by rw [← EF.out]; rfl), hb⟩
set_option maxHeartbeats 2000000 in
theorem rfloor02_any (a : Int) (w : World) (a0 : -9223372036854775808 ≤ a) (a1 : a ≤ 9223372036854775807) :
    Calls Try.prog 25 #[.int .i64 a] w fun e w' => e = .returned (.int .i64 (a / 4294967296)) ∧ Below w.heap.size w w' := by
  have m0 := mag0 a
  have m1 := mag1 a a0 a1
  have nx := num_small (mag a)
  have ef : sat (downS (isNeg a) (decide (0 < mag a % 4294967296)) (mag a / 4294967296)) = a / 4294967296 := by
    rw [downS_eq _ _ _ (by omega)]
    have e : downN (isNeg a) (mag a / 4294967296) (mag a % 4294967296) = a / 4294967296 := by
      unfold downN isNeg mag
      by_cases h : a < 0
      · simp only [h, decide_true, if_true]
        split <;> omega
      · simp [h]
    rw [e, sat_id _ (by omega) (by omega)]
  obtain ⟨sa, es⟩ : ∃ t, isNeg a = t := ⟨_, rfl⟩
  rw [es] at ef
  have EF := Lib.hid ef; clear ef
  have hb := Below.refl w.heap.size w
  go_enter Try.func25, Try.ntmps25
  go_wp2_with (first
    | (go_at_call 31; refine (rsize_any _ _ (by omega) (by omega)).mono ?_; rintro e w1 ⟨rfl, hb1⟩; rw [es]; replace hb := hb.trans (hb1.mono hb.size))
    | (go_at_call 32; refine (rdiv_any _ _ _ _ (by omega) (by omega) (by omega) (by omega) (by omega) (by omega)).mono ?_; rintro e w4 ⟨rfl, hb4⟩; rw [nx]; replace hb := (hb.alloc hb.size _).trans (hb4.mono (by have := hb.size; (try simp); (try omega))))
    | (go_at_call 34; refine (rdown_any _ _ _ _ (by omega) (by omega)).mono ?_; rintro e w5 ⟨rfl, hb5⟩; replace hb := (hb.alloc hb.size _).trans (hb5.mono (by have := hb.size; (try simp); (try omega)))))
  go_ret
  exact ⟨ret_int EF.out, hb⟩
end Go.Proofs.Ytfbkimhblfpibaa
