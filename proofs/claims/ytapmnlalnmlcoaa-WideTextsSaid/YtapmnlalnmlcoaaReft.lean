/- The document's answers of layer 1: decimal digits. -/
import Derived.Test.YtapmnlalnmlcoaaRefi
import Derived.Test.YtapmnlalnmlcoaaHelp
import Derived.Test.YtapmnlalnmlcoaaHelpb
import Derived.Test.YtapmnlalnmlcoaaTxt
import Derived.Laws.IdiomStrings
import Derived.WalkSpells
namespace Go.Proofs.Ytapmnlalnmlcoaa
open Go.ChangeShapes Go.WideShapes Go.ChangeAt Go.RowKit Kn
set_option linter.unusedVariables false
theorem cut_digit (r N : Int) (h0 : 0 ≤ r) (h1 : r ≤ 9) (h : N % 10 = r) : (ByteArray.mk #[48, 49, 50, 51, 52, 53, 54, 55, 56, 57]).extract r.toNat (r + 1).toNat = ⟨#[dby N]⟩ := by
  have e : dby N = UInt8.ofNat (48 + r).toNat := by unfold dby; rw [h]
  rw [e]
  have c : r = 0 ∨ r = 1 ∨ r = 2 ∨ r = 3 ∨ r = 4 ∨ r = 5 ∨ r = 6 ∨ r = 7 ∨ r = 8 ∨ r = 9 := by omega
  rcases c with c | c | c | c | c | c | c | c | c | c <;> (subst c; decide)
theorem cat_bytes (a b : List UInt8) : (ByteArray.mk a.toArray) ++ (ByteArray.mk b.toArray) = ⟨(a ++ b).toArray⟩ := by
  apply ByteArray.ext; simp
theorem decL_one (f : Nat) (n : Int) (h : n / 10 = 0) : decL (f + 1) n = [dby n] := by
  show (if n / 10 = 0 then [dby n] else _) = _
  rw [if_pos h]
theorem decL_len (f : Nat) : ∀ n, (decL f n).length ≤ f := by
  induction f with
  | zero => intro n; exact Nat.le_refl _
  | succ f ih =>
    intro n
    show (if n / 10 = 0 then [dby n] else decL f (n / 10) ++ [dby n]).length ≤ _
    split
    · simp
    · have := ih (n / 10); simp; omega
theorem decL_more (f : Nat) (n : Int) (h : ¬ n / 10 = 0) : decL (f + 1) n = decL f (n / 10) ++ [dby n] := by
  show (if n / 10 = 0 then [dby n] else _) = _
  rw [if_neg h]
set_option maxHeartbeats 1000000 in
theorem rtext_one (N : Int) (f : Nat) (w : World) (N0 : 0 ≤ N) (N1 : N ≤ 9) :
    Calls Try.prog 37 #[.agg #[.int .u64 (hi N), .int .u64 (lo N)]] w fun e w' => e = .returned (.string ⟨(decL (f + 1) N).toArray⟩) ∧ Below w.heap.size w w' := by
  have k0 := hi0 _ N0
  have k1 := hi1 N (by omega)
  have k2 := lo0 N
  have k3 := lo1 N
  have en := Lib.hid (num_hi_lo N)
  have hq := Lib.hid (show N / 10 = 0 by omega)
  have hr := Lib.hid (show N % 10 = N by omega)
  have eh := Lib.hid (show hi 0 = 0 from rfl)
  have el := Lib.hid (show lo 0 = 0 from rfl)
  have ed := Lib.hid (decL_one f N (by omega))
  have hc := cut_digit N N N0 N1 (by omega)
  rw [ed.out]
  go_enter Try.func37, Try.ntmps37
  go_wp2_with fail
  refine (rdiv_any _ _ _ _ k0 k1 k2 k3 (by omega) (by omega)).mono ?_
  rintro e w1 ⟨rfl, hb1⟩
  rw [en.out, hq.out, hr.out, eh.out, el.out]
  go_wp2
  go_ret
  exact ⟨rfl, (under0 ((Below.refl _ _).alloc (Nat.le_refl _) _) hb1).alloc (by have := hb1.size; simp at this; omega) _⟩
set_option maxHeartbeats 1000000 in
theorem rtext_rec (f : Nat) (hf : f ≤ 38) : ∀ (N : Int) (w : World), 0 ≤ N → N < 340282366920938463463374607431768211456 → N < 10 ^ (f + 1) →
    Calls Try.prog 37 #[.agg #[.int .u64 (hi N), .int .u64 (lo N)]] w fun e w' => e = .returned (.string ⟨(decL (f + 1) N).toArray⟩) ∧ Below w.heap.size w w' := by
  induction f with
  | zero =>
    intro N w N0 N1 N2
    exact rtext_one N 0 w N0 (by have : (10 : Int) ^ (0 + 1) = 10 := rfl; omega)
  | succ f ih =>
    intro N w N0 N1 N2
    by_cases hs : N ≤ 9
    · exact rtext_one N _ w N0 hs
    · have IH := Lib.hid (ih (by omega) (N / 10)); clear ih
      have hlen : ¬ 9223372036854775807 < (decL (f + 1) (N / 10)).length + 1 := by have := decL_len (f + 1) (N / 10); omega
      have k0 := hi0 _ N0
      have k1 := hi1 _ N1
      have k2 := lo0 N
      have k3 := lo1 N
      have en := Lib.hid (num_hi_lo N)
      have ed := Lib.hid (decL_more (f + 1) N (by omega))
      have hc0 := fun r => cut_digit r N
      obtain ⟨q, hq⟩ : ∃ q, N / 10 = q := ⟨_, rfl⟩
      obtain ⟨r, hr⟩ : ∃ r, N % 10 = r := ⟨_, rfl⟩
      have r0 : 0 ≤ r := by omega
      have r1 : r ≤ 9 := by omega
      have q0 : 0 ≤ q := by omega
      have q1 : q < 340282366920938463463374607431768211456 := by omega
      have q2 : q < 10 ^ (f + 1) := by
        rw [← hq]; apply Int.ediv_lt_of_lt_mul (by decide); rw [← Int.pow_succ]; exact N2
      have qz : ¬ q = 0 := by omega
      have hc := hc0 r r0 r1 hr
      have hh := fun w => IH.out w
      rw [hq] at hh ed hlen
      have HH := Lib.hid (fun w => hh w q0 q1 q2)
      have HQ := Lib.hid hq; have HR := Lib.hid hr; have HQ2 := Lib.hid q2
      have eq2 := Lib.hid (num_hi_lo q)
      clear hq hr hc0 hh IH q2
      rw [ed.out]
      by_cases hz : hi q = 0
      · have hl : ¬ lo q = 0 := by
          intro c; have := eq2.out; rw [hz, c] at this; unfold num at this; omega
        have HZ := Lib.hid hz
        go_enter Try.func37, Try.ntmps37
        go_wp2_with fail
        refine (rdiv_any _ _ _ _ k0 k1 k2 k3 (by omega) (by omega)).mono ?_
        rintro e w1 ⟨rfl, hb1⟩
        rw [en.out, HQ.out, HR.out, HZ.out]
        go_wp2_with fail
        refine (show Calls Try.prog _ #[.agg #[.int .u64 0, .int .u64 (lo q)]] _ _ from by have := HH.out; rw [HZ.out] at this; exact this _).mono ?_
        rintro e w2 ⟨rfl, hb2⟩
        go_wp2
        go_ret
        exact ⟨congrArg (fun b => Ending.returned (.string b)) (cat_bytes (decL (f + 1) q) [dby N]), under0 ((under0 ((Below.refl _ _).alloc (Nat.le_refl _) _) hb1).alloc (by have := hb1.size; simp at this; omega) _) hb2⟩
      · go_enter Try.func37, Try.ntmps37
        go_wp2_with fail
        refine (rdiv_any _ _ _ _ k0 k1 k2 k3 (by omega) (by omega)).mono ?_
        rintro e w1 ⟨rfl, hb1⟩
        rw [en.out, HQ.out, HR.out]
        go_wp2_with fail
        refine (HH.out _).mono ?_
        rintro e w2 ⟨rfl, hb2⟩
        go_wp2
        go_ret
        exact ⟨congrArg (fun b => Ending.returned (.string b)) (cat_bytes (decL (f + 1) q) [dby N]), under0 ((under0 ((Below.refl _ _).alloc (Nat.le_refl _) _) hb1).alloc (by have := hb1.size; simp at this; omega) _) hb2⟩
theorem rtext_any (N : Int) (w : World) (N0 : 0 ≤ N) (N1 : N < 340282366920938463463374607431768211456) :
    Calls Try.prog 37 #[.agg #[.int .u64 (hi N), .int .u64 (lo N)]] w fun e w' => e = .returned (.string ⟨(decL 39 N).toArray⟩) ∧ Below w.heap.size w w' :=
  rtext_rec 38 (by decide) N w N0 N1 (by rw [show (10 : Int) ^ (38 + 1) = 1000000000000000000000000000000000000000 from by decide]; omega)
end Go.Proofs.Ytapmnlalnmlcoaa
