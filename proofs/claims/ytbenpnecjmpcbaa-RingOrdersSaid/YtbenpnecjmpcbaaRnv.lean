/- What holds of a ring whatever its acts do, each a step at a time: plain numbers. -/
import Derived.Test.YtbenpnecjmpcbaaFnq
namespace Go.Proofs.Ytbenpnecjmpcbaa
open Go.RowKit
set_option linter.unusedVariables false
set_option linter.unusedSimpArgs false
theorem res_inj {n a b : Nat} (h : a % n = b % n) (hab : a ≤ b) (hl : b - a < n) : a = b := by
  have h1 := Nat.div_add_mod a n
  have h2 := Nat.div_add_mod b n
  rw [h] at h1
  have h3 : n * (b / n) - n * (a / n) = b - a := by omega
  rw [← Nat.mul_sub] at h3
  rcases Nat.eq_zero_or_pos (b / n - a / n) with e | e
  · rw [e, Nat.mul_zero] at h3; omega
  · have : n * 1 ≤ n * (b / n - a / n) := Nat.mul_le_mul_left _ e
    omega
theorem res_ne {n a b : Nat} (hab : a < b) (hl : b < a + n) : a % n ≠ b % n := fun h => by
  have := res_inj h (Nat.le_of_lt hab) (by omega)
  omega
theorem res_add (n a : Nat) : (a + n) % n = a % n := Nat.add_mod_right a n
/-- What holds of the ring's numbers and of its acts (pushes and pops). -/
structure RInv (n : Nat) (g : Rg) (ac : Nat → Option Ac) : Prop where
  le1 : g.H ≤ g.T
  le2 : g.T ≤ g.H + n
  mid : ∀ p, g.H ≤ p → p < g.T → g.S (p % n) = p ∨ g.S (p % n) = p + 1
  out : ∀ p, g.T ≤ p → p < g.H + n → g.S (p % n) = p ∨ g.S (p % n) + n = p + 1
  fill : ∀ i a, ac i = some a → a.nx = 6 → g.H ≤ a.pl ∧ a.pl < g.T ∧ g.S (a.pl % n) = a.pl
  take : ∀ i a, ac i = some a → a.nx = 10 → a.pl < g.H ∧ g.T ≤ a.pl + n ∧ g.S (a.pl % n) = a.pl + 1
  uni : ∀ i j a b, ac i = some a → ac j = some b → (a.nx = 6 ∧ b.nx = 6 ∨ a.nx = 10 ∧ b.nx = 10) → a.pl = b.pl → i = j
  po3 : ∀ i a, ac i = some a → a.nx = 3 ∨ a.nx = 4 → a.po ≤ g.T
  po8 : ∀ i a, ac i = some a → a.nx = 8 ∨ a.nx = 9 → a.po ≤ g.H
  c4 : ∀ i a, ac i = some a → a.nx = 4 → a.po ≤ g.S (a.po % n)
  c9 : ∀ i a, ac i = some a → a.nx = 9 → a.po + 1 ≤ g.S (a.po % n)
  no5 : ∀ i a, ac i = some a → a.nx ≠ 5
section
variable {n : Nat} {g : Rg} {ac : Nat → Option Ac}
theorem upd_some {f : Nat → Option Ac} {i : Nat} {x : Option Ac} {k : Nat} {a : Ac} (h : upd f i x k = some a) : (k = i ∧ x = some a) ∨ (k ≠ i ∧ f k = some a) := by
  by_cases e : k = i
  · subst e; rw [upd_at] at h; exact .inl ⟨rfl, h⟩
  · rw [upd_ne _ _ e] at h; exact .inr ⟨e, h⟩
/-- An act is begun, or is gone: none of the steps in which it has a claim. -/
theorem RInv.put (h : RInv n g ac) (i : Nat) (x : Option Ac) (hx : ∀ a, x = some a → a.nx = 0 ∨ a.nx = 1 ∨ a.nx = 2 ∨ a.nx = 7 ∨ (a.nx = 3 ∧ a.po ≤ g.T) ∨ (a.nx = 8 ∧ a.po ≤ g.H) ∨ (a.nx = 4 ∧ a.po ≤ g.T ∧ a.po ≤ g.S (a.po % n)) ∨ (a.nx = 9 ∧ a.po ≤ g.H ∧ a.po + 1 ≤ g.S (a.po % n))) : RInv n g (upd ac i x) := by
  refine ⟨h.le1, h.le2, h.mid, h.out, fun k a ha hn => ?_, fun k a ha hn => ?_, fun k l a b ha hb hn hp => ?_, fun k a ha hn => ?_, fun k a ha hn => ?_, fun k a ha hn => ?_, fun k a ha hn => ?_, fun k a ha hn => ?_⟩
  · rcases upd_some ha with ⟨-, e⟩ | ⟨-, e⟩
    · have := hx a e; omega
    · exact h.fill k a e hn
  · rcases upd_some ha with ⟨-, e⟩ | ⟨-, e⟩
    · have := hx a e; omega
    · exact h.take k a e hn
  · rcases upd_some ha with ⟨-, e⟩ | ⟨-, e⟩
    · have := hx a e; omega
    · rcases upd_some hb with ⟨-, e'⟩ | ⟨-, e'⟩
      · have := hx b e'; omega
      · exact h.uni k l a b e e' hn hp
  · rcases upd_some ha with ⟨-, e⟩ | ⟨-, e⟩
    · have := hx a e; omega
    · exact h.po3 k a e hn
  · rcases upd_some ha with ⟨-, e⟩ | ⟨-, e⟩
    · have := hx a e; omega
    · exact h.po8 k a e hn
  · rcases upd_some ha with ⟨-, e⟩ | ⟨-, e⟩
    · have := hx a e; omega
    · exact h.c4 k a e hn
  · rcases upd_some ha with ⟨-, e⟩ | ⟨-, e⟩
    · have := hx a e; omega
    · exact h.c9 k a e hn
  · rcases upd_some ha with ⟨-, e⟩ | ⟨-, e⟩
    · have := hx a e; omega
    · exact h.no5 k a e hn
/-- A place at the tail is claimed. -/
theorem RInv.claimT (h : RInv n g ac) (hn : 2 ≤ n) {i : Nat} {a : Ac} (ha : ac i = some a) (hx : a.nx = 4) (hT : g.T = a.po) : g.S (g.T % n) = g.T ∧ g.T < g.H + n := by
  have c := h.c4 i a ha hx
  rw [← hT] at c
  have l1 := h.le1
  have l2 := h.le2
  rcases Nat.lt_or_ge g.T (g.H + n) with hl | hl
  · rcases h.out g.T (Nat.le_refl _) hl with e | e
    · exact ⟨e, hl⟩
    · omega
  · have e1 : g.T = g.H + n := by omega
    have e2 : g.T % n = g.H % n := by rw [e1, res_add]
    rw [e2] at c
    rcases h.mid g.H (Nat.le_refl _) (by omega) with e | e <;> omega
/-- The head's place is claimed. -/
theorem RInv.claimH (h : RInv n g ac) (hn : 2 ≤ n) {i : Nat} {a : Ac} (ha : ac i = some a) (hx : a.nx = 9) (hH : g.H = a.po) : g.S (g.H % n) = g.H + 1 ∧ g.H < g.T := by
  have c := h.c9 i a ha hx
  rw [← hH] at c
  have l1 := h.le1
  rcases Nat.lt_or_ge g.H g.T with hl | hl
  · rcases h.mid g.H (Nat.le_refl _) hl with e | e
    · omega
    · exact ⟨e, hl⟩
  · rcases h.out g.H (by omega) (by omega) with e | e <;> omega
theorem RInv.st4 (h : RInv n g ac) (hn : 2 ≤ n) {i : Nat} {a : Ac} (ha : ac i = some a) (hx : a.nx = 4) (hT : g.T = a.po) : RInv n { g with T := a.po + 1 } (upd ac i (some { a with nx := 6, pl := a.po })) := by
  obtain ⟨hs, hl⟩ := h.claimT hn ha hx hT
  have l1 := h.le1
  refine ⟨by show g.H ≤ a.po + 1; omega, by show a.po + 1 ≤ g.H + n; omega, fun p h1 h2 => ?_, fun p h1 h2 => ?_, fun k b hb hk => ?_, fun k b hb hk => ?_, fun k l b c hb hc hk hp => ?_, fun k b hb hk => ?_, fun k b hb hk => ?_, fun k b hb hk => ?_, fun k b hb hk => ?_, fun k b hb => ?_⟩
  · have h1' : g.H ≤ p := h1
    have h2' : p < a.po + 1 := h2
    show g.S (p % n) = p ∨ g.S (p % n) = p + 1
    rcases Nat.lt_or_ge p g.T with hp | hp
    · exact h.mid p h1' hp
    · obtain rfl : p = g.T := by omega
      exact .inl hs
  · have h1' : a.po + 1 ≤ p := h1
    exact h.out p (by omega) h2
  · rcases upd_some hb with ⟨-, e⟩ | ⟨-, e⟩
    · obtain rfl := Option.some.inj e
      exact ⟨by show g.H ≤ a.po; omega, by show a.po < a.po + 1; omega, by show g.S (a.po % n) = a.po; rw [← hT]; exact hs⟩
    · obtain ⟨f1, f2, f3⟩ := h.fill k b e hk
      exact ⟨f1, by show b.pl < a.po + 1; omega, f3⟩
  · rcases upd_some hb with ⟨-, e⟩ | ⟨-, e⟩
    · obtain rfl := Option.some.inj e
      have hk' : (6 : Int) = 10 := hk
      omega
    · obtain ⟨f1, f2, f3⟩ := h.take k b e hk
      refine ⟨f1, ?_, f3⟩
      show a.po + 1 ≤ b.pl + n
      rcases Nat.lt_or_ge g.T (b.pl + n) with hq | hq
      · omega
      · have e1 : g.T = b.pl + n := by omega
        rw [e1, res_add, f3] at hs
        omega
  · rcases upd_some hb with ⟨e1, e⟩ | ⟨e1, e⟩ <;> rcases upd_some hc with ⟨e2, e'⟩ | ⟨e2, e'⟩
    · rw [e1, e2]
    · obtain rfl := Option.some.inj e
      have hk' : ((6 : Int) = 6 ∧ c.nx = 6 ∨ (6 : Int) = 10 ∧ c.nx = 10) := hk
      have := h.fill l c e' (by omega)
      have hp' : a.po = c.pl := hp
      omega
    · obtain rfl := Option.some.inj e'
      have hk' : (b.nx = 6 ∧ (6 : Int) = 6 ∨ b.nx = 10 ∧ (6 : Int) = 10) := hk
      have := h.fill k b e (by omega)
      have hp' : b.pl = a.po := hp
      omega
    · exact h.uni k l b c e e' hk hp
  · rcases upd_some hb with ⟨-, e⟩ | ⟨-, e⟩
    · obtain rfl := Option.some.inj e
      have hk' : (6 : Int) = 3 ∨ (6 : Int) = 4 := hk
      omega
    · have := h.po3 k b e hk
      show b.po ≤ a.po + 1
      omega
  · rcases upd_some hb with ⟨-, e⟩ | ⟨-, e⟩
    · obtain rfl := Option.some.inj e
      have hk' : (6 : Int) = 8 ∨ (6 : Int) = 9 := hk
      omega
    · exact h.po8 k b e hk
  · rcases upd_some hb with ⟨-, e⟩ | ⟨-, e⟩
    · obtain rfl := Option.some.inj e
      have hk' : (6 : Int) = 4 := hk
      omega
    · exact h.c4 k b e hk
  · rcases upd_some hb with ⟨-, e⟩ | ⟨-, e⟩
    · obtain rfl := Option.some.inj e
      have hk' : (6 : Int) = 9 := hk
      omega
    · exact h.c9 k b e hk
  · rcases upd_some hb with ⟨-, e⟩ | ⟨-, e⟩
    · obtain rfl := Option.some.inj e
      show (6 : Int) ≠ 5
      omega
    · exact h.no5 k b e
theorem RInv.st9 (h : RInv n g ac) (hn : 2 ≤ n) {i : Nat} {a : Ac} (ha : ac i = some a) (hx : a.nx = 9) (hH : g.H = a.po) : RInv n { g with H := a.po + 1 } (upd ac i (some { a with nx := 10, pl := a.po })) := by
  obtain ⟨hs, hl⟩ := h.claimH hn ha hx hH
  have l1 := h.le1
  have l2 := h.le2
  refine ⟨by show a.po + 1 ≤ g.T; omega, by show g.T ≤ a.po + 1 + n; omega, fun p h1 h2 => ?_, fun p h1 h2 => ?_, fun k b hb hk => ?_, fun k b hb hk => ?_, fun k l b c hb hc hk hp => ?_, fun k b hb hk => ?_, fun k b hb hk => ?_, fun k b hb hk => ?_, fun k b hb hk => ?_, fun k b hb => ?_⟩
  · have h1' : a.po + 1 ≤ p := h1
    exact h.mid p (by omega) h2
  · have h1' : g.T ≤ p := h1
    have h2' : p < a.po + 1 + n := h2
    show g.S (p % n) = p ∨ g.S (p % n) + n = p + 1
    rcases Nat.lt_or_ge p (g.H + n) with hp | hp
    · exact h.out p h1' hp
    · obtain rfl : p = g.H + n := by omega
      rw [res_add, hs]
      right; omega
  · rcases upd_some hb with ⟨-, e⟩ | ⟨-, e⟩
    · obtain rfl := Option.some.inj e
      have hk' : (10 : Int) = 6 := hk
      omega
    · obtain ⟨f1, f2, f3⟩ := h.fill k b e hk
      refine ⟨?_, f2, f3⟩
      show a.po + 1 ≤ b.pl
      rcases Nat.lt_or_ge g.H b.pl with hq | hq
      · omega
      · have e1 : b.pl = g.H := by omega
        rw [e1, hs] at f3
        omega
  · rcases upd_some hb with ⟨-, e⟩ | ⟨-, e⟩
    · obtain rfl := Option.some.inj e
      exact ⟨by show a.po < a.po + 1; omega, by show g.T ≤ a.po + n; omega, by show g.S (a.po % n) = a.po + 1; rw [← hH]; exact hs⟩
    · obtain ⟨f1, f2, f3⟩ := h.take k b e hk
      exact ⟨by show b.pl < a.po + 1; omega, f2, f3⟩
  · rcases upd_some hb with ⟨e1, e⟩ | ⟨e1, e⟩ <;> rcases upd_some hc with ⟨e2, e'⟩ | ⟨e2, e'⟩
    · rw [e1, e2]
    · obtain rfl := Option.some.inj e
      have hk' : ((10 : Int) = 6 ∧ c.nx = 6 ∨ (10 : Int) = 10 ∧ c.nx = 10) := hk
      have := h.take l c e' (by omega)
      have hp' : a.po = c.pl := hp
      omega
    · obtain rfl := Option.some.inj e'
      have hk' : (b.nx = 6 ∧ (10 : Int) = 6 ∨ b.nx = 10 ∧ (10 : Int) = 10) := hk
      have := h.take k b e (by omega)
      have hp' : b.pl = a.po := hp
      omega
    · exact h.uni k l b c e e' hk hp
  · rcases upd_some hb with ⟨-, e⟩ | ⟨-, e⟩
    · obtain rfl := Option.some.inj e
      have hk' : (10 : Int) = 3 ∨ (10 : Int) = 4 := hk
      omega
    · exact h.po3 k b e hk
  · rcases upd_some hb with ⟨-, e⟩ | ⟨-, e⟩
    · obtain rfl := Option.some.inj e
      have hk' : (10 : Int) = 8 ∨ (10 : Int) = 9 := hk
      omega
    · have := h.po8 k b e hk
      show b.po ≤ a.po + 1
      omega
  · rcases upd_some hb with ⟨-, e⟩ | ⟨-, e⟩
    · obtain rfl := Option.some.inj e
      have hk' : (10 : Int) = 4 := hk
      omega
    · exact h.c4 k b e hk
  · rcases upd_some hb with ⟨-, e⟩ | ⟨-, e⟩
    · obtain rfl := Option.some.inj e
      have hk' : (10 : Int) = 9 := hk
      omega
    · exact h.c9 k b e hk
  · rcases upd_some hb with ⟨-, e⟩ | ⟨-, e⟩
    · obtain rfl := Option.some.inj e
      show (10 : Int) ≠ 5
      omega
    · exact h.no5 k b e
/-- A slot's number grows: what is claimed elsewhere stays. -/
theorem RInv.slot (h : RInv n g ac) (hn : 2 ≤ n) {i : Nat} {a : Ac} (ha : ac i = some a) {s : Nat} {V : Nat → Int} (hx : a.nx = 6 ∧ s = a.pl + 1 ∨ a.nx = 10 ∧ s = a.pl + n) : RInv n { g with S := fun j => if j = a.pl % n then s else g.S j, V := V } (upd ac i (some { a with nx := 1 })) := by
  have l1 := h.le1
  have l2 := h.le2
  have hw : (g.H ≤ a.pl ∧ a.pl < g.T ∧ g.S (a.pl % n) = a.pl ∧ s = a.pl + 1 ∧ a.nx = 6) ∨ (a.pl < g.H ∧ g.T ≤ a.pl + n ∧ g.S (a.pl % n) = a.pl + 1 ∧ s = a.pl + n ∧ a.nx = 10) := by
    rcases hx with ⟨e, e2⟩ | ⟨e, e2⟩
    · obtain ⟨f1, f2, f3⟩ := h.fill i a ha e; exact .inl ⟨f1, f2, f3, e2, e⟩
    · obtain ⟨f1, f2, f3⟩ := h.take i a ha e; exact .inr ⟨f1, f2, f3, e2, e⟩
  have hne : ∀ j, j ≠ a.pl % n → (if j = a.pl % n then s else g.S j) = g.S j := fun j e => if_neg e
  have hmono : ∀ j, g.S j ≤ (if j = a.pl % n then s else g.S j) := fun j => by
    split
    · rename_i e; rw [e]; omega
    · exact Nat.le_refl _
  refine ⟨l1, l2, fun p h1 h2 => ?_, fun p h1 h2 => ?_, fun k b hb hk => ?_, fun k b hb hk => ?_, fun k l b c hb hc hk hp => ?_, fun k b hb hk => ?_, fun k b hb hk => ?_, fun k b hb hk => ?_, fun k b hb hk => ?_, fun k b hb => ?_⟩
  · have h1' : g.H ≤ p := h1
    have h2' : p < g.T := h2
    show (if p % n = a.pl % n then s else g.S (p % n)) = p ∨ (if p % n = a.pl % n then s else g.S (p % n)) = p + 1
    by_cases e : p % n = a.pl % n
    · rw [if_pos e]
      rcases hw with ⟨f1, f2, f3, f4, -⟩ | ⟨f1, f2, f3, f4, -⟩
      · have : p = a.pl := by
          rcases Nat.le_total p a.pl with q | q
          · exact res_inj e q (by omega)
          · exact (res_inj e.symm q (by omega)).symm
        right; omega
      · exact absurd e.symm (res_ne (by omega) (by omega))
    · rw [if_neg e]; exact h.mid p h1' h2'
  · have h1' : g.T ≤ p := h1
    have h2' : p < g.H + n := h2
    show (if p % n = a.pl % n then s else g.S (p % n)) = p ∨ (if p % n = a.pl % n then s else g.S (p % n)) + n = p + 1
    by_cases e : p % n = a.pl % n
    · rw [if_pos e]
      rcases hw with ⟨f1, f2, f3, f4, -⟩ | ⟨f1, f2, f3, f4, -⟩
      · exact absurd e.symm (res_ne (by omega) (by omega))
      · have e2 : (a.pl + n) % n = p % n := by rw [res_add, e]
        have : p = a.pl + n := by
          rcases Nat.le_total p (a.pl + n) with q | q
          · exact res_inj e2.symm q (by omega)
          · exact (res_inj e2 q (by omega)).symm
        left; omega
    · rw [if_neg e]; exact h.out p h1' h2'
  · rcases upd_some hb with ⟨-, e⟩ | ⟨hki, e⟩
    · obtain rfl := Option.some.inj e
      have hk' : (1 : Int) = 6 := hk
      omega
    · obtain ⟨f1, f2, f3⟩ := h.fill k b e hk
      refine ⟨f1, f2, ?_⟩
      show (if b.pl % n = a.pl % n then s else g.S (b.pl % n)) = b.pl
      have hr : b.pl % n ≠ a.pl % n := fun er => by
        rcases hw with ⟨w1, w2, -, -, w5⟩ | ⟨w1, w2, -, -, w5⟩
        · have : b.pl = a.pl := by
            rcases Nat.le_total b.pl a.pl with q | q
            · exact res_inj er q (by omega)
            · exact (res_inj er.symm q (by omega)).symm
          exact hki (h.uni k i b a e ha (.inl ⟨hk, w5⟩) this)
        · exact res_ne (n := n) (a := a.pl) (b := b.pl) (by omega) (by omega) er.symm
      rw [hne _ hr]
      exact f3
  · rcases upd_some hb with ⟨-, e⟩ | ⟨hki, e⟩
    · obtain rfl := Option.some.inj e
      have hk' : (1 : Int) = 10 := hk
      omega
    · obtain ⟨f1, f2, f3⟩ := h.take k b e hk
      refine ⟨f1, f2, ?_⟩
      show (if b.pl % n = a.pl % n then s else g.S (b.pl % n)) = b.pl + 1
      have hr : b.pl % n ≠ a.pl % n := fun er => by
        rcases hw with ⟨w1, w2, -, -, w5⟩ | ⟨w1, w2, -, -, w5⟩
        · exact res_ne (n := n) (a := b.pl) (b := a.pl) (by omega) (by omega) er
        · have : b.pl = a.pl := by
            rcases Nat.le_total b.pl a.pl with q | q
            · exact res_inj er q (by omega)
            · exact (res_inj er.symm q (by omega)).symm
          exact hki (h.uni k i b a e ha (.inr ⟨hk, w5⟩) this)
      rw [hne _ hr]
      exact f3
  · rcases upd_some hb with ⟨e1, e⟩ | ⟨e1, e⟩ <;> rcases upd_some hc with ⟨e2, e'⟩ | ⟨e2, e'⟩
    · rw [e1, e2]
    · obtain rfl := Option.some.inj e
      have hk' : ((1 : Int) = 6 ∧ c.nx = 6 ∨ (1 : Int) = 10 ∧ c.nx = 10) := hk
      omega
    · obtain rfl := Option.some.inj e'
      have hk' : (b.nx = 6 ∧ (1 : Int) = 6 ∨ b.nx = 10 ∧ (1 : Int) = 10) := hk
      omega
    · exact h.uni k l b c e e' hk hp
  · rcases upd_some hb with ⟨-, e⟩ | ⟨-, e⟩
    · obtain rfl := Option.some.inj e
      have hk' : (1 : Int) = 3 ∨ (1 : Int) = 4 := hk
      omega
    · exact h.po3 k b e hk
  · rcases upd_some hb with ⟨-, e⟩ | ⟨-, e⟩
    · obtain rfl := Option.some.inj e
      have hk' : (1 : Int) = 8 ∨ (1 : Int) = 9 := hk
      omega
    · exact h.po8 k b e hk
  · rcases upd_some hb with ⟨-, e⟩ | ⟨-, e⟩
    · obtain rfl := Option.some.inj e
      have hk' : (1 : Int) = 4 := hk
      omega
    · exact Nat.le_trans (h.c4 k b e hk) (hmono _)
  · rcases upd_some hb with ⟨-, e⟩ | ⟨-, e⟩
    · obtain rfl := Option.some.inj e
      have hk' : (1 : Int) = 9 := hk
      omega
    · exact Nat.le_trans (h.c9 k b e hk) (hmono _)
  · rcases upd_some hb with ⟨-, e⟩ | ⟨-, e⟩
    · obtain rfl := Option.some.inj e
      show (1 : Int) ≠ 5
      omega
    · exact h.no5 k b e
end
end Go.Proofs.Ytbenpnecjmpcbaa
