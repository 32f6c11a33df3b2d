/- What the calls of package wide answer: is a text decimal? -/
import Derived.Test.YtgjfigjebojjdaaWide
import Derived.LoopTactic
import Derived.Lib.Hide
namespace Go.Proofs.Ytgjfigjebojjdaa
open Go.ChangeShapes Go.WideShapes Go.ChangeAt Go.RowKit Kn
set_option linter.unusedVariables false
/-- Is each byte up to k a digit? -/
def digsTo (s : ByteArray) (k : Nat) : Prop := ∀ j (h : j < s.size), j < k → 48 ≤ (s[j].toNat : Int) ∧ (s[j].toNat : Int) ≤ 57
/-- Is the text written as a number is? -/
def decT (s : ByteArray) : Prop := digsTo s s.size ∧ (s.size = 1 ∨ ∃ h : 1 < s.size, ¬ (s[0].toNat : Int) = 48)
/-- What 'decimal' tells: true just of a text that is. -/
def TellsDec (s : ByteArray) (e : Ending) : Prop := (decT s ∧ e = .returned (.bool true)) ∨ (¬ decT s ∧ e = .returned (.bool false))
theorem tells_no {s : ByteArray} (h : ¬ decT s) : TellsDec s (.returned (.bool false)) := .inr ⟨h, rfl⟩
theorem tells_yes {s : ByteArray} (h : decT s) : TellsDec s (.returned (.bool true)) := .inl ⟨h, rfl⟩
set_option maxHeartbeats 1000000 in
theorem wdecimal_any (s : ByteArray) (w : World) (hs : s.size ≤ maxLen) :
    Calls Try.prog 51 #[.string s] w fun e w' => TellsDec s e ∧ w = w' := by
  unfold maxLen at hs
  go_enter Try.func51, Try.ntmps51
  go_wp2
  go_loop [6] (fun i => ∃ k : Nat, k ≤ s.size ∧ i = .int .i64 k ∧ Hid (digsTo s k)) (fun i => s.size - (intOf i).toNat)
  case atStart => exact ⟨0, Nat.zero_le _, rfl, Lib.hid (fun j h hk => absurd hk (Nat.not_lt_zero j))⟩
  case round =>
    obtain ⟨k, hk, rfl, hd⟩ := hrel
    by_cases hlt : k < s.size
    · by_cases h1 : (s[k].toNat : Int) < 48
      · have HN := Lib.hid (show ¬ decT s from fun c => by have := (c.1 k hlt hlt).1; omega)
        go_wp2
        go_ret
        exact ⟨tells_no HN.out, rfl⟩
      · by_cases h2 : 57 < (s[k].toNat : Int)
        · have HN := Lib.hid (show ¬ decT s from fun c => by have := (c.1 k hlt hlt).2; omega)
          go_wp2
          go_ret
          exact ⟨tells_no HN.out, rfl⟩
        · have HS := Lib.hid (show digsTo s (k + 1) from fun j h hj => by
            by_cases e : j = k
            · subst e; exact ⟨by omega, by omega⟩
            · exact hd.out j h (by omega))
          go_wp2
          go_round
          case rel => exact ⟨k + 1, by omega, by go_num, HS⟩
          case measure => simp [intOf]; omega
    · have hke : k = s.size := by omega
      have HD : Hid (digsTo s s.size) := Lib.hid (by rw [← hke]; exact hd.out)
      have HK := Lib.hid hke
      clear hd hke
      by_cases s1 : s.size = 1
      · have HY := Lib.hid (show decT s from ⟨HD.out, .inl s1⟩)
        have z1 : ((s.size : Int) == 1) = true := beq_iff_eq.2 (by omega)
        have H1 := Lib.hid s1; clear s1
        go_wp2
        go_ret
        exact ⟨tells_yes HY.out, rfl⟩
      · have z1 : ((s.size : Int) == 1) = false := beq_eq_false_iff_ne.2 (by omega)
        by_cases s2 : 1 < s.size
        · by_cases s3 : (s[0].toNat : Int) = 48
          · have HN := Lib.hid (show ¬ decT s from fun c => by
              rcases c.2 with c | ⟨c, d⟩
              · exact s1 c
              · exact d s3)
            have z3 : ((s[0].toNat : Int) != 48) = false := bne_eq_false_iff_eq.2 s3
            have H3 := Lib.hid s3; clear s3
            go_wp2
            go_ret
            exact ⟨tells_no HN.out, rfl⟩
          · have HY := Lib.hid (show decT s from ⟨HD.out, .inr ⟨s2, s3⟩⟩)
            have z3 : ((s[0].toNat : Int) != 48) = true := bne_iff_ne.2 s3
            go_wp2
            go_ret
            exact ⟨tells_yes HY.out, rfl⟩
        · have HN := Lib.hid (show ¬ decT s from fun c => by
            rcases c.2 with c | ⟨c, d⟩
            · exact s1 c
            · exact s2 c)
          go_wp2
          go_ret
          exact ⟨tells_no HN.out, rfl⟩
end Go.Proofs.Ytgjfigjebojjdaa
