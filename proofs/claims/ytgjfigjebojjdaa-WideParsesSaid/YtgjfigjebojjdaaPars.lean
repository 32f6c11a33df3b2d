/- Texts of digits: which of two is more; how long a number's text is; a text is the digits of its number. Plain lists. -/
import Derived.WalkLawsBesides
import Derived.Below
namespace Go.Proofs.Ytgjfigjebojjdaa
open Go.RowKit
set_option linter.unusedVariables false
/-- The number of a list of digits. -/
def numL : List UInt8 → Int
  | [] => 0
  | c :: r => ((c.toNat : Int) - 48) * 10 ^ r.length + numL r
def digsL (l : List UInt8) : Prop := ∀ c ∈ l, 48 ≤ (c.toNat : Int) ∧ (c.toNat : Int) ≤ 57
theorem digsL.tail {c : UInt8} {r : List UInt8} (h : digsL (c :: r)) : digsL r := fun x hx => h x (List.mem_cons_of_mem _ hx)
theorem digsL.head {c : UInt8} {r : List UInt8} (h : digsL (c :: r)) : 48 ≤ (c.toNat : Int) ∧ (c.toNat : Int) ≤ 57 := h c List.mem_cons_self
theorem pow10 (n : Nat) : (0 : Int) < 10 ^ n := Int.pow_pos (by decide)
theorem numL_snoc (l : List UInt8) (c : UInt8) : numL (l ++ [c]) = numL l * 10 + ((c.toNat : Int) - 48) := by
  induction l with
  | nil => simp [numL]
  | cons x r ih =>
    show ((x.toNat : Int) - 48) * 10 ^ (r ++ [c]).length + numL (r ++ [c]) = (((x.toNat : Int) - 48) * 10 ^ r.length + numL r) * 10 + ((c.toNat : Int) - 48)
    rw [ih, List.length_append, List.length_singleton, Int.pow_succ, Int.add_mul, ← Int.mul_assoc]
    omega
theorem numL_bd {l : List UInt8} (h : digsL l) : 0 ≤ numL l ∧ numL l < 10 ^ l.length := by
  induction l with
  | nil => exact ⟨Int.le_refl _, by decide⟩
  | cons x r ih =>
    have hr := ih h.tail
    have hx := h.head
    have hp := pow10 r.length
    show 0 ≤ ((x.toNat : Int) - 48) * 10 ^ r.length + numL r ∧ ((x.toNat : Int) - 48) * 10 ^ r.length + numL r < 10 ^ (r.length + 1)
    rw [Int.pow_succ]
    have a := Int.mul_nonneg (show 0 ≤ (x.toNat : Int) - 48 by omega) (Int.le_of_lt hp)
    have b := Int.mul_le_mul_of_nonneg_right (show (x.toNat : Int) - 48 ≤ 9 by omega) (Int.le_of_lt hp)
    constructor
    · omega
    · omega
theorem lead (A B P nx ny : Int) (hAB : A < B) (x1 : nx < P) (y0 : 0 ≤ ny) (hP : 0 < P) : A * P + nx < B * P + ny := by
  have := Int.mul_le_mul_of_nonneg_right (show A + 1 ≤ B by omega) (Int.le_of_lt hP)
  rw [Int.add_mul] at this
  omega
theorem less_num : ∀ (a b : List UInt8), digsL a → digsL b → a.length = b.length → Op.bytesLess a b = decide (numL a < numL b) := by
  intro a
  induction a with
  | nil =>
    intro b _ _ hl
    obtain rfl : b = [] := List.eq_nil_of_length_eq_zero hl.symm
    rfl
  | cons x r ih =>
    intro b ha hb hl
    match b, hb, hl with
    | y :: t, hb, hl =>
      have hl' : r.length = t.length := by simpa using hl
      have ihr := ih t ha.tail hb.tail hl'
      have br := numL_bd ha.tail
      have bt := numL_bd hb.tail
      have hp := pow10 r.length
      show (decide (x < y) || (x == y && Op.bytesLess r t)) = decide (((x.toNat : Int) - 48) * 10 ^ r.length + numL r < ((y.toNat : Int) - 48) * 10 ^ t.length + numL t)
      rw [← hl'] at bt ⊢
      rcases Nat.lt_trichotomy x.toNat y.toNat with h | h | h
      · have h1 : x < y := UInt8.lt_iff_toNat_lt.2 h
        have := lead ((x.toNat : Int) - 48) ((y.toNat : Int) - 48) (10 ^ r.length) (numL r) (numL t) (by omega) br.2 bt.1 hp
        rw [decide_eq_true h1, decide_eq_true this]; rfl
      · have h1 : x = y := UInt8.toNat_inj.1 h
        subst h1
        rw [ihr, decide_eq_false (show ¬ x < x by rw [UInt8.lt_iff_toNat_lt]; omega)]
        simp
      · have h1 : ¬ x < y := by rw [UInt8.lt_iff_toNat_lt]; omega
        have h2 : (x == y) = false := by
          rw [beq_eq_false_iff_ne]; intro e; subst e; omega
        have := lead ((y.toNat : Int) - 48) ((x.toNat : Int) - 48) (10 ^ r.length) (numL t) (numL r) (by omega) bt.2 br.1 hp
        rw [decide_eq_false h1, h2, decide_eq_false (by omega)]; rfl
theorem eq_num : ∀ (a b : List UInt8), digsL a → digsL b → a.length = b.length → numL a = numL b → a = b := by
  intro a
  induction a with
  | nil =>
    intro b _ _ hl _
    exact (List.eq_nil_of_length_eq_zero hl.symm).symm
  | cons x r ih =>
    intro b ha hb hl hn
    match b, hb, hl, hn with
    | y :: t, hb, hl, hn =>
      have hl' : r.length = t.length := by simpa using hl
      have br := numL_bd ha.tail
      have bt := numL_bd hb.tail
      have hp := pow10 r.length
      replace hn : ((x.toNat : Int) - 48) * 10 ^ r.length + numL r = ((y.toNat : Int) - 48) * 10 ^ t.length + numL t := hn
      rw [← hl'] at bt hn
      have hxy : x.toNat = y.toNat := by
        rcases Nat.lt_trichotomy x.toNat y.toNat with h | h | h
        · have := lead ((x.toNat : Int) - 48) ((y.toNat : Int) - 48) (10 ^ r.length) (numL r) (numL t) (by omega) br.2 bt.1 hp
          omega
        · exact h
        · have := lead ((y.toNat : Int) - 48) ((x.toNat : Int) - 48) (10 ^ r.length) (numL t) (numL r) (by omega) bt.2 br.1 hp
          omega
      obtain rfl : x = y := UInt8.toNat_inj.1 hxy
      rw [ih t ha.tail hb.tail hl' (by omega)]
/-- Of two texts of digits of one length the one that comes later is more. -/
theorem more_num (a b : List UInt8) (ha : digsL a) (hb : digsL b) (hl : a.length = b.length) : (!(Op.bytesLess a b || a == b)) = decide (numL b < numL a) := by
  rw [less_num a b ha hb hl]
  rcases Int.lt_trichotomy (numL a) (numL b) with h | h | h
  · rw [decide_eq_true h, decide_eq_false (by omega)]; rfl
  · rw [eq_num a b ha hb hl h]; simp
  · have hne : (a == b) = false := by rw [beq_eq_false_iff_ne]; intro e; rw [e] at h; omega
    rw [decide_eq_false (by omega), hne, decide_eq_true h]; rfl
end Go.Proofs.Ytgjfigjebojjdaa
