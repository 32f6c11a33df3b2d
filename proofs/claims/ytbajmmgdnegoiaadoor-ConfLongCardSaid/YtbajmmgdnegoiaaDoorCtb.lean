/- The document's digits. -/
import Derived.Test.YtbajmmgdnegoiaaDoorCta
namespace Go.Proofs.YtbajmmgdnegoiaaDoor
open Go.ChangeShapes Go.WideShapes Go.ChangeAt Go.RowKit Kn
set_option linter.unusedVariables false
set_option linter.unusedSimpArgs false
theorem dig_piece (d : Nat) (h : d < 10) : (⟨#[48, 49, 50, 51, 52, 53, 54, 55, 56, 57]⟩ : ByteArray).extract d (d + 1) = mkT [UInt8.ofNat (48 + d)] := by
  have : ∀ d, d < 10 → (⟨#[48, 49, 50, 51, 52, 53, 54, 55, 56, 57]⟩ : ByteArray).extract d (d + 1) = mkT [UInt8.ofNat (48 + d)] := by decide +kernel
  exact this d h
theorem mkT_app (a b : List UInt8) : mkT a ++ mkT b = mkT (a ++ b) := by
  apply ByteArray.ext
  rw [ByteArray.data_append]
  unfold mkT
  simp
set_option maxHeartbeats 2000000 in
theorem rsize_small (u : Nat) (h : u < 10) (w : World) :
    Calls Tryd.prog 46 #[.int .u64 (u : Int)] w fun e w' => e = .returned (.string (mkT (Lib.decDigits u))) ∧ w = w' := by
  have e1 : (u : Int).tmod 10 = (u : Int) := by rw [Int.tmod_eq_emod_of_nonneg (by omega)]; omega
  have e2 : IntKind.u64.wrap ((u : Int) + 1) = ((u + 1 : Nat) : Int) := IntWalk.u64_in _ (by omega)
  have e3 : (⟨#[48, 49, 50, 51, 52, 53, 54, 55, 56, 57]⟩ : ByteArray).extract u (u + 1) = mkT (Lib.decDigits u) := by rw [dig_piece u h, Lib.decDigits_one h]
  have e4 : decide ((u : Int) < 10) = true := by simp; omega
  go_enter Tryd.func46, Tryd.ntmps46
  go_wp2_with fail
  go_ret
  exact ⟨by trivial, by trivial⟩
theorem dec_short (u : Nat) (h : u < 10 ^ 20) : (Lib.decDigits u).length ≤ 100 := by
  rw [Lib.decDigits_length]
  have hp : ∀ (k : Nat) (u : Nat), k < Lib.nDigits u → u = 0 ∨ 10 ^ k ≤ u := by
    intro k
    induction k with
    | zero => intro u _; rcases Nat.eq_zero_or_pos u with e | e; exact .inl e; exact .inr (by simp; omega)
    | succ k ih =>
      intro u hk
      by_cases hu : u < 10
      · rw [Lib.nDigits_small hu] at hk; omega
      · rw [Lib.nDigits_big hu] at hk
        rcases ih (u / 10) (by omega) with e | e
        · omega
        · refine .inr ?_
          rw [Nat.pow_succ]
          omega
  refine Nat.le_of_not_lt fun hc => ?_
  rcases hp 20 u (by omega) with e | e
  · subst e; rw [Lib.nDigits_small (by decide)] at hc; omega
  · omega
set_option maxHeartbeats 2000000 in
theorem rsize_any (u : Nat) : ∀ (w : World), u ≤ 18446744073709551615 →
    Calls Tryd.prog 46 #[.int .u64 (u : Int)] w fun e w' => e = .returned (.string (mkT (Lib.decDigits u))) ∧ w = w' := by
  induction u using Nat.strongRecOn with
  | _ u ih =>
    intro w hu
    by_cases h : u < 10
    · exact rsize_small u h w
    · have k := ih (u / 10) (by omega) w (by omega)
      obtain ⟨D, hD⟩ : ∃ D, mkT (Lib.decDigits (u / 10)) = D := ⟨_, rfl⟩
      obtain ⟨d, hd⟩ : ∃ d, u % 10 = d := ⟨_, rfl⟩
      obtain ⟨q, hq⟩ : ∃ q, u / 10 = q := ⟨_, rfl⟩
      have d1 : d < 10 := by omega
      have e0 : (u : Int).tdiv 10 = (q : Int) := by rw [Int.tdiv_eq_ediv_of_nonneg (by omega)]; omega
      have e1 : (u : Int).tmod 10 = (d : Int) := by rw [Int.tmod_eq_emod_of_nonneg (by omega)]; omega
      have e2 : IntKind.u64.wrap ((d : Int) + 1) = ((d + 1 : Nat) : Int) := IntWalk.u64_in _ (by omega)
      have e5 : IntKind.u64.wrap (q : Int) = (q : Int) := IntWalk.u64_in _ (by omega)
      have e4 : decide ((u : Int) < 10) = false := by simp; omega
      obtain ⟨C, hC⟩ : ∃ C, mkT [UInt8.ofNat (48 + d)] = C := ⟨_, rfl⟩
      have E3 := Lib.hid (show _ = C from (dig_piece d d1).trans hC)
      have sC : C.size = 1 := by rw [← hC, mkT_size]; rfl
      have hl : (Lib.decDigits (u / 10)).length ≤ 100 := dec_short (u / 10) (by omega)
      have hcat : ¬ 9223372036854775807 < D.size + C.size := by rw [← hD, mkT_size]; omega
      have HR : mkT (Lib.decDigits u) = D ++ C := by
        rw [← hD, ← hC, mkT_app, Lib.decDigits, dif_neg h, hd]
      rw [HR]
      rw [hD, hq] at k
      clear HR hD ih hd hq hl hC
      go_enter Tryd.func46, Tryd.ntmps46
      go_wp2_with fail
      refine k.mono ?_
      rintro e w1 ⟨rfl, rfl⟩
      have e3 := E3.out
      go_wp2_with fail
      go_ret
      exact ⟨by trivial, by trivial⟩
end Go.Proofs.YtbajmmgdnegoiaaDoor
