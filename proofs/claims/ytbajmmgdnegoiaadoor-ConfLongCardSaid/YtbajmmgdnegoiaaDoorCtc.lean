/- Which texts are numbers: as the document reads them, and as the program does. -/
import Derived.Test.YtbajmmgdnegoiaaDoorCta
namespace Go.Proofs.YtbajmmgdnegoiaaDoor
open Go.ChangeShapes Go.WideShapes Go.ChangeAt Go.RowKit Kn
set_option linter.unusedVariables false
set_option linter.unusedSimpArgs false
/-- What digits say. -/
def valL (l : List UInt8) : Nat := l.foldl (fun n c => 10 * n + (c.toNat - 48)) 0
theorem valL_snoc (l : List UInt8) (c : UInt8) : valL (l ++ [c]) = 10 * valL l + (c.toNat - 48) := by unfold valL; rw [List.foldl_append]; rfl
def isDig (c : UInt8) : Bool := decide (48 ≤ c.toNat) && decide (c.toNat ≤ 57)
theorem isDig_iff (c : UInt8) : isDig c = true ↔ 48 ≤ c.toNat ∧ c.toNat ≤ 57 := by unfold isDig; simp
theorem dig_of (c : UInt8) (h : isDig c = true) : UInt8.ofNat (48 + (c.toNat - 48)) = c := by
  have := (isDig_iff c).1 h
  rw [show 48 + (c.toNat - 48) = c.toNat by omega]
  exact UInt8.ofNat_toNat
theorem snoc_cases (l : List UInt8) : l = [] ∨ ∃ a c, l = a ++ [c] := by
  rcases List.eq_nil_or_concat l with h | ⟨a, c, h⟩
  · exact .inl h
  · exact .inr ⟨a, c, by simpa using h⟩
theorem valL_lt : ∀ (n : Nat) (l : List UInt8), l.length = n → l.all isDig = true → valL l < 10 ^ n := by
  intro n
  induction n with
  | zero => intro l h _; rw [List.length_eq_zero_iff.1 h]; decide
  | succ n ih =>
    intro l h hd
    rcases snoc_cases l with e | ⟨a, c, e⟩
    · rw [e] at h; simp at h
    · subst e
      rw [List.length_append] at h
      rw [List.all_append, Bool.and_eq_true] at hd
      have h1 := ih a (by simpa using h) hd.1
      have h2 : isDig c = true := by simpa using hd.2
      have h3 := (isDig_iff c).1 h2
      rw [valL_snoc, Nat.pow_succ]
      omega
theorem valL_pos : ∀ (n : Nat) (l : List UInt8) (c : UInt8) (r : List UInt8), l.length = n → l = c :: r → c ≠ 48 → l.all isDig = true → 0 < valL l := by
  intro n
  induction n with
  | zero => intro l c r h e; rw [e] at h; simp at h
  | succ n ih =>
    intro l c r h e hc hd
    rcases snoc_cases l with e2 | ⟨a, x, e2⟩
    · rw [e2] at h; simp at h
    · subst e2
      rw [List.length_append] at h
      rw [List.all_append, Bool.and_eq_true] at hd
      rw [valL_snoc]
      cases a with
      | nil =>
        simp at e
        have h2 : isDig x = true := by simpa using hd.2
        have h3 := (isDig_iff x).1 h2
        rw [e.1] at h3
        have : c.toNat ≠ 48 := fun q => hc (by rw [← UInt8.ofNat_toNat (x := c), q]; rfl)
        rw [e.1]
        show 0 < 10 * 0 + (c.toNat - 48)
        omega
      | cons y a =>
        simp at e
        have := ih (y :: a) c a (by simpa using h) (by rw [e.1]) hc hd.1
        omega
/-- Digits without a needless nought are just those of what they say. -/
theorem dec_valL : ∀ (n : Nat) (l : List UInt8) (c : UInt8) (r : List UInt8), l.length = n → l = c :: r → (c = 48 → r = []) → l.all isDig = true → Lib.decDigits (valL l) = l := by
  intro n
  induction n with
  | zero => intro l c r h e; rw [e] at h; simp at h
  | succ n ih =>
    intro l c r h e hc hd
    rcases snoc_cases l with e2 | ⟨a, x, e2⟩
    · rw [e2] at h; simp at h
    · subst e2
      rw [List.length_append] at h
      rw [List.all_append, Bool.and_eq_true] at hd
      have h2 : isDig x = true := by simpa using hd.2
      have h3 := (isDig_iff x).1 h2
      rw [valL_snoc]
      cases a with
      | nil =>
        have e0 : valL ([] : List UInt8) = 0 := rfl
        rw [e0, Nat.mul_zero, Nat.zero_add, Lib.decDigits_one (by omega), dig_of x h2]
        rfl
      | cons y a =>
        simp at e
        have hy : y ≠ 48 := by
          intro q
          have := hc (by rw [← e.1]; exact q)
          rw [this] at e
          simp at e
        have hp := valL_pos _ (y :: a) y a rfl rfl hy hd.1
        have h4 := ih (y :: a) y a (by simpa using h) rfl (fun q => absurd q hy) hd.1
        rw [Lib.decDigits, dif_neg (by omega)]
        rw [show (10 * valL (y :: a) + (x.toNat - 48)) / 10 = valL (y :: a) by omega, h4]
        rw [show (10 * valL (y :: a) + (x.toNat - 48)) % 10 = x.toNat - 48 by omega, dig_of x h2]
theorem dec_all (u : Nat) : (Lib.decDigits u).all isDig = true := by
  rw [List.all_eq_true]
  intro c hc
  exact (isDig_iff c).2 (dec_bytes u c hc)
theorem valL_dec (u : Nat) : valL (Lib.decDigits u) = u := by
  induction u using Nat.strongRecOn with
  | _ u ih =>
    rw [Lib.decDigits]
    by_cases h : u < 10
    · rw [dif_pos h]
      show 10 * 0 + ((UInt8.ofNat (48 + u)).toNat - 48) = u
      rw [UInt8.toNat_ofNat']
      omega
    · rw [dif_neg h, valL_snoc, ih (u / 10) (by omega), UInt8.toNat_ofNat']
      omega
theorem dec_head (u : Nat) (c : UInt8) (r : List UInt8) (h : Lib.decDigits u = c :: r) : c = 48 → r = [] := by
  induction u using Nat.strongRecOn generalizing c r with
  | _ u ih =>
    intro hc
    rw [Lib.decDigits] at h
    by_cases hu : u < 10
    · rw [dif_pos hu] at h
      simp at h
      exact h.2
    · exfalso
      rw [dif_neg hu] at h
      obtain ⟨c1, r1, e1⟩ := dec_cons (u / 10)
      rw [e1] at h
      simp at h
      have h1 := ih (u / 10) (by omega) c1 r1 e1 (by rw [h.1]; exact hc)
      rw [h1] at e1
      have h2 := valL_dec (u / 10)
      rw [e1, h.1, hc] at h2
      have : valL [48] = 0 := by decide
      omega
/-- A number, as the document reads it. -/
def numR (s : List UInt8) : Option Int :=
  if s.head? = some 45 then
    if s.tail.length < 1 ∨ 19 < s.tail.length ∨ s.tail.head? = some 48 then none
    else if s.tail.all isDig then if 9223372036854775808 < valL s.tail then none else some (-(valL s.tail : Int)) else none
  else
    if s.length < 1 ∨ 19 < s.length ∨ (s.head? = some 48 ∧ 1 < s.length) then none
    else if s.all isDig then if valL s ≤ 9223372036854775807 then some (valL s : Int) else none else none
theorem len_of (u : Nat) (h : u ≤ 9223372036854775808) : 1 ≤ (Lib.decDigits u).length ∧ (Lib.decDigits u).length ≤ 19 := by
  rw [Lib.decDigits_length]
  refine ⟨Lib.nDigits_pos u, ?_⟩
  refine Nat.le_of_not_lt fun hc => ?_
  have hp : ∀ (k : Nat) (u : Nat), k < Lib.nDigits u → u = 0 ∨ 10 ^ k ≤ u := by
    intro k
    induction k with
    | zero => intro u _; rcases Nat.eq_zero_or_pos u with e | e; exact .inl e; exact .inr (by simp; omega)
    | succ k ih =>
      intro u hk
      by_cases hu : u < 10
      · rw [Lib.nDigits_small hu] at hk; omega
      · rw [Lib.nDigits_big hu] at hk
        rcases ih (u / 10) (by omega) with e | e
        · omega
        · refine .inr ?_
          rw [Nat.pow_succ]
          omega
  rcases hp 19 u hc with e | e
  · subst e; rw [Lib.nDigits_small (by decide)] at hc; omega
  · have : (10 : Nat) ^ 19 = 10000000000000000000 := by decide
    omega
theorem numR_itoa (v : Int) (h0 : -9223372036854775808 ≤ v) (h1 : v ≤ 9223372036854775807) : numR (Lib.itoa v) = some v := by
  unfold numR Lib.itoa
  by_cases hn : v < 0
  · rw [if_pos hn]
    obtain ⟨c, r, e⟩ := dec_cons v.natAbs
    have hl := len_of v.natAbs (by omega)
    have hv := valL_dec v.natAbs
    have hd := dec_all v.natAbs
    have hh := dec_head v.natAbs c r e
    rw [if_pos (by rfl)]
    have ht : (45 :: Lib.decDigits v.natAbs).tail = Lib.decDigits v.natAbs := rfl
    have hc : (Lib.decDigits v.natAbs).head? ≠ some 48 := by
      rw [e]
      intro q
      have q1 : c = 48 := by simpa using q
      have q2 := hh q1
      rw [e, q1, q2] at hv
      have : valL [48] = 0 := by decide
      omega
    rw [if_neg (by rw [ht]; rintro (q | q | q); omega; omega; exact hc q), if_pos (by rw [ht]; exact hd), ht, hv, if_neg (by omega)]
    congr 1
    omega
  · rw [if_neg hn]
    obtain ⟨c, r, e⟩ := dec_cons v.toNat
    have hl := len_of v.toNat (by omega)
    have hv := valL_dec v.toNat
    have hd := dec_all v.toNat
    have hh := dec_head v.toNat c r e
    have hb := dec_bytes v.toNat c (by rw [e]; exact List.mem_cons_self)
    have hc : (Lib.decDigits v.toNat).head? ≠ some 45 := by
      rw [e]
      intro q
      have q1 : c = 45 := by simpa using q
      rw [q1] at hb
      exact absurd hb.1 (by decide)
    have hc2 : ¬ ((Lib.decDigits v.toNat).head? = some 48 ∧ 1 < (Lib.decDigits v.toNat).length) := by
      rw [e]
      rintro ⟨q, q3⟩
      have q1 : c = 48 := by simpa using q
      rw [hh q1] at q3
      simp at q3
    rw [if_neg hc, if_neg (by rintro (q | q | q); omega; omega; exact hc2 q), hd, if_pos rfl, hv, if_pos (by omega)]
    congr 1
    omega
theorem numR_some (l : List UInt8) (v : Int) (h : numR l = some v) : l = Lib.itoa v ∧ -9223372036854775808 ≤ v ∧ v ≤ 9223372036854775807 := by
  unfold numR at h
  split at h
  · rename_i h45
    split at h
    · cases h
    · rename_i hs
      split at h
      · rename_i hd
        split at h
        · cases h
        · rename_i hv
          injection h with h
          cases l with
          | nil => cases h45
          | cons x t =>
            have hx : x = 45 := by simpa using h45
            subst hx
            simp only [List.tail_cons] at hs hd hv h
            cases t with
            | nil => exact absurd (.inl (by decide)) hs
            | cons c r =>
              have hc : c ≠ 48 := fun q => hs (.inr (.inr (by rw [q]; rfl)))
              have hp := valL_pos _ (c :: r) c r rfl rfl hc hd
              have hdv := dec_valL _ (c :: r) c r rfl rfl (fun q => absurd q hc) hd
              refine ⟨?_, by omega, by omega⟩
              unfold Lib.itoa
              rw [if_pos (by omega)]
              have : v.natAbs = valL (c :: r) := by omega
              rw [this, hdv]
      · cases h
  · rename_i h45
    split at h
    · cases h
    · rename_i hs
      split at h
      · rename_i hd
        split at h
        · rename_i hv
          injection h with h
          cases l with
          | nil => exact absurd (.inl (by decide)) hs
          | cons c r =>
            have hc : c = 48 → r = [] := by
              intro q
              cases r with
              | nil => rfl
              | cons y r => exact absurd (.inr (.inr ⟨by rw [q]; rfl, by simp⟩)) hs
            have hdv := dec_valL _ (c :: r) c r rfl rfl hc hd
            refine ⟨?_, by omega, by omega⟩
            unfold Lib.itoa
            rw [if_neg (by omega)]
            have : v.toNat = valL (c :: r) := by omega
            rw [this, hdv]
        · cases h
      · cases h
theorem parseIntB_bd (l : List UInt8) (v : Int) (h : Lib.parseIntB 64 l = .ok v) : -9223372036854775808 ≤ v ∧ v ≤ 9223372036854775807 := by
  unfold Lib.parseIntB at h
  split at h
  · cases h
  · simp only at h
    split at h
    · cases h
    · cases h
    · split at h
      · cases h
      · split at h
        · cases h
        · rename_i h1 h2
          injection h with h
          split at h
          · rename_i h3
            have : ¬ 9223372036854775808 < _ := fun q => h2 ⟨h3, q⟩
            omega
          · rename_i h3
            have : ¬ 9223372036854775808 ≤ _ := fun q => h1 ⟨h3, q⟩
            omega
/-- The two readings are one. -/
theorem numR_numB (s : ByteArray) : numR s.data.toList = numB s := by
  cases hB : numB s with
  | some v =>
    unfold numB at hB
    split at hB
    · rename_i v2 hp
      split at hB
      · rename_i hi
        injection hB with hB
        subst hB
        have hb := parseIntB_bd _ _ hp
        rw [← hi]
        exact numR_itoa v2 hb.1 hb.2
      · cases hB
    · cases hB
  | none =>
    cases hR : numR s.data.toList with
    | none => rfl
    | some v =>
      exfalso
      obtain ⟨h1, h2, h3⟩ := numR_some _ _ hR
      have e : itoaB v = s := by
        show mkT (Lib.itoa v) = s
        rw [← h1, mkT_of]
      have := numB_itoa v h2 h3
      rw [e, hB] at this
      cases this
end Go.Proofs.YtbajmmgdnegoiaaDoor
