/- The ring's invariant, any step of any act; a lone act ends. -/
import Derived.Test.YtbenpnecjmpcbaaRnv
namespace Go.Proofs.Ytbenpnecjmpcbaa
open Go.RowKit
set_option linter.unusedVariables false
set_option linter.unusedSimpArgs false
theorem upd_same {α : Type} {f : Nat → α} {i : Nat} {x : α} (h : f i = x) : upd f i x = f := by
  funext j
  by_cases e : j = i
  · subst e; rw [upd_at, h]
  · rw [upd_ne _ _ e]
theorem look_is {S r : Nat} {x y : Int} : (lookE S r x y = x ∧ S = r) ∨ (lookE S r x y = 0 ∧ S < r) ∨ (lookE S r x y = y ∧ r < S) := by
  unfold lookE
  split
  · exact .inr (.inl ⟨rfl, by omega⟩)
  · split
    · exact .inr (.inr ⟨rfl, by omega⟩)
    · exact .inl ⟨rfl, by omega⟩
section
variable {n : Nat} {g : Rg} {ac : Nat → Option Ac}
/-- One step of an act, whatever the others hold. -/
theorem RInv.step (h : RInv n g ac) (hn : 2 ≤ n) {i : Nat} {a : Ac} (ha : ac i = some a) : RInv n (rgS n g a) (upd ac i (some (acS n g a))) := by
  by_cases e2 : a.nx = 2
  · have r : rgS n g a = g := by unfold rgS; rw [if_neg (by omega), if_neg (by omega), if_neg (by omega), if_neg (by omega), if_neg (by omega)]
    rw [r]
    refine h.put i _ fun b hb => ?_
    obtain rfl := Option.some.inj hb
    unfold acS
    rw [if_pos e2]
    right; right; right; right; left
    exact ⟨rfl, Nat.le_refl _⟩
  by_cases e7 : a.nx = 7
  · have r : rgS n g a = g := by unfold rgS; rw [if_neg (by omega), if_neg (by omega), if_neg (by omega), if_neg (by omega), if_neg (by omega)]
    rw [r]
    refine h.put i _ fun b hb => ?_
    obtain rfl := Option.some.inj hb
    unfold acS
    rw [if_neg (by omega), if_pos e7]
    right; right; right; right; right; left
    exact ⟨rfl, Nat.le_refl _⟩
  by_cases e3 : a.nx = 3
  · have r : rgS n g a = g := by unfold rgS; rw [if_neg (by omega), if_neg (by omega), if_neg (by omega), if_neg (by omega), if_neg (by omega)]
    rw [r]
    refine h.put i _ fun b hb => ?_
    obtain rfl := Option.some.inj hb
    have hp := h.po3 i a ha (.inl e3)
    unfold acS
    rw [if_neg (by omega), if_neg (by omega), if_pos e3]
    show lookE (g.S (a.po % n)) a.po 4 2 = 0 ∨ lookE (g.S (a.po % n)) a.po 4 2 = 1 ∨ lookE (g.S (a.po % n)) a.po 4 2 = 2 ∨ lookE (g.S (a.po % n)) a.po 4 2 = 7 ∨ (lookE (g.S (a.po % n)) a.po 4 2 = 3 ∧ a.po ≤ g.T) ∨ (lookE (g.S (a.po % n)) a.po 4 2 = 8 ∧ a.po ≤ g.H) ∨ (lookE (g.S (a.po % n)) a.po 4 2 = 4 ∧ a.po ≤ g.T ∧ a.po ≤ g.S (a.po % n)) ∨ (lookE (g.S (a.po % n)) a.po 4 2 = 9 ∧ a.po ≤ g.H ∧ a.po + 1 ≤ g.S (a.po % n))
    rcases look_is (S := g.S (a.po % n)) (r := a.po) (x := 4) (y := 2) with ⟨q, q2⟩ | ⟨q, q2⟩ | ⟨q, q2⟩ <;> rw [q] <;> omega
  by_cases e8 : a.nx = 8
  · have r : rgS n g a = g := by unfold rgS; rw [if_neg (by omega), if_neg (by omega), if_neg (by omega), if_neg (by omega), if_neg (by omega)]
    rw [r]
    refine h.put i _ fun b hb => ?_
    obtain rfl := Option.some.inj hb
    have hp := h.po8 i a ha (.inl e8)
    unfold acS
    rw [if_neg (by omega), if_neg (by omega), if_neg (by omega), if_pos e8]
    show lookE (g.S (a.po % n)) (a.po + 1) 9 7 = 0 ∨ lookE (g.S (a.po % n)) (a.po + 1) 9 7 = 1 ∨ lookE (g.S (a.po % n)) (a.po + 1) 9 7 = 2 ∨ lookE (g.S (a.po % n)) (a.po + 1) 9 7 = 7 ∨ (lookE (g.S (a.po % n)) (a.po + 1) 9 7 = 3 ∧ a.po ≤ g.T) ∨ (lookE (g.S (a.po % n)) (a.po + 1) 9 7 = 8 ∧ a.po ≤ g.H) ∨ (lookE (g.S (a.po % n)) (a.po + 1) 9 7 = 4 ∧ a.po ≤ g.T ∧ a.po ≤ g.S (a.po % n)) ∨ (lookE (g.S (a.po % n)) (a.po + 1) 9 7 = 9 ∧ a.po ≤ g.H ∧ a.po + 1 ≤ g.S (a.po % n))
    rcases look_is (S := g.S (a.po % n)) (r := a.po + 1) (x := 9) (y := 7) with ⟨q, q2⟩ | ⟨q, q2⟩ | ⟨q, q2⟩ <;> rw [q] <;> omega
  by_cases e4 : a.nx = 4
  · by_cases hT : g.T = a.po
    · have r : rgS n g a = { g with T := a.po + 1 } := by unfold rgS; rw [if_pos e4, if_pos hT]
      have s : acS n g a = { a with nx := 6, pl := a.po } := by unfold acS; rw [if_neg e2, if_neg e7, if_neg e3, if_neg e8, if_pos e4, if_pos hT]
      rw [r, s]
      exact h.st4 hn ha e4 hT
    · have r : rgS n g a = g := by unfold rgS; rw [if_pos e4, if_neg hT]
      have s : acS n g a = { a with nx := 2 } := by unfold acS; rw [if_neg e2, if_neg e7, if_neg e3, if_neg e8, if_pos e4, if_neg hT]
      rw [r, s]
      refine h.put i _ fun b hb => ?_
      obtain rfl := Option.some.inj hb
      right; right; left; rfl
  by_cases e9 : a.nx = 9
  · by_cases hT : g.H = a.po
    · have r : rgS n g a = { g with H := a.po + 1 } := by unfold rgS; rw [if_neg e4, if_pos e9, if_pos hT]
      have s : acS n g a = { a with nx := 10, pl := a.po } := by unfold acS; rw [if_neg e2, if_neg e7, if_neg e3, if_neg e8, if_neg e4, if_pos e9, if_pos hT]
      rw [r, s]
      exact h.st9 hn ha e9 hT
    · have r : rgS n g a = g := by unfold rgS; rw [if_neg e4, if_pos e9, if_neg hT]
      have s : acS n g a = { a with nx := 7 } := by unfold acS; rw [if_neg e2, if_neg e7, if_neg e3, if_neg e8, if_neg e4, if_pos e9, if_neg hT]
      rw [r, s]
      refine h.put i _ fun b hb => ?_
      obtain rfl := Option.some.inj hb
      right; right; right; left; rfl
  have e5 := h.no5 i a ha
  by_cases e6 : a.nx = 6
  · have r : rgS n g a = { g with S := fun j => if j = a.pl % n then a.pl + 1 else g.S j, V := fun j => if j = a.pl % n then a.pu else g.V j } := by unfold rgS; rw [if_neg e4, if_neg e9, if_neg e5, if_pos e6]
    have s : acS n g a = { a with nx := 1 } := by unfold acS; rw [if_neg e2, if_neg e7, if_neg e3, if_neg e8, if_neg e4, if_neg e9, if_neg e5, if_pos e6]
    rw [r, s]
    exact h.slot hn ha (.inl ⟨e6, rfl⟩)
  by_cases e10 : a.nx = 10
  · have r : rgS n g a = { g with S := fun j => if j = a.pl % n then a.pl + n else g.S j } := by unfold rgS; rw [if_neg e4, if_neg e9, if_neg e5, if_neg e6, if_pos e10]
    have s : acS n g a = { a with nx := 1, pp := g.V (a.pl % n) } := by unfold acS; rw [if_neg e2, if_neg e7, if_neg e3, if_neg e8, if_neg e4, if_neg e9, if_neg e5, if_neg e6, if_pos e10]
    rw [r, s]
    have k := h.slot (V := g.V) hn ha (.inr ⟨e10, rfl⟩)
    exact (k.put i (some { a with nx := 1, pp := g.V (a.pl % n) }) (fun b hb => by obtain rfl := Option.some.inj hb; exact .inr (.inl rfl))) |> fun q => by rw [upd_upd] at q; exact q
  · have r : rgS n g a = g := by unfold rgS; rw [if_neg e4, if_neg e9, if_neg e5, if_neg e6, if_neg e10]
    have s : acS n g a = a := by unfold acS; rw [if_neg e2, if_neg e7, if_neg e3, if_neg e8, if_neg e4, if_neg e9, if_neg e5, if_neg e6, if_neg e10]
    rw [r, s, upd_same ha]
    exact h
/-- How many steps an act that runs alone still takes at most. -/
def mu (g : Rg) (a : Ac) : Nat :=
  if a.nx = 6 then 1 else if a.nx = 10 then 1 else if a.nx = 2 then 4 else if a.nx = 7 then 4 else
  if a.nx = 3 then (if a.po = g.T then 3 else 6) else if a.nx = 8 then (if a.po = g.H then 3 else 6) else
  if a.nx = 4 then (if g.T = a.po then 2 else 5) else if a.nx = 9 then (if g.H = a.po then 2 else 5) else 0
theorem mu_le (g : Rg) (a : Ac) : mu g a ≤ 6 := by
  unfold mu
  repeat' split
  all_goals omega
theorem mu_end {g : Rg} {a : Ac} (h : a.nx = 0 ∨ a.nx = 1) : mu g a = 0 := by
  unfold mu
  rw [if_neg (by omega), if_neg (by omega), if_neg (by omega), if_neg (by omega), if_neg (by omega), if_neg (by omega), if_neg (by omega), if_neg (by omega)]
theorem RInv.notT (h : RInv n g ac) (hn : 2 ≤ n) : ¬ g.T < g.S (g.T % n) := by
  have l1 := h.le1
  have l2 := h.le2
  rcases Nat.lt_or_ge g.T (g.H + n) with hl | hl
  · rcases h.out g.T (Nat.le_refl _) hl with e | e <;> omega
  · have e1 : g.T = g.H + n := by omega
    have e2 : g.T % n = g.H % n := by rw [e1, res_add]
    rw [e2]
    rcases h.mid g.H (Nat.le_refl _) (by omega) with e | e <;> omega
theorem RInv.notH (h : RInv n g ac) (hn : 2 ≤ n) : ¬ g.H + 1 < g.S (g.H % n) := by
  have l1 := h.le1
  rcases Nat.lt_or_ge g.H g.T with hl | hl
  · rcases h.mid g.H (Nat.le_refl _) hl with e | e <;> omega
  · rcases h.out g.H (by omega) (by omega) with e | e <;> omega
/-- Each step of an act that runs alone brings it nearer to its end. -/
theorem RInv.nearer (h : RInv n g ac) (hn : 2 ≤ n) {i : Nat} {a : Ac} (ha : ac i = some a) (hx : 2 ≤ a.nx ∧ a.nx ≤ 10) : mu (rgS n g a) (acS n g a) < mu g a := by
  have e5 := h.no5 i a ha
  by_cases e2 : a.nx = 2
  · have r : rgS n g a = g := by unfold rgS; rw [if_neg (by omega), if_neg (by omega), if_neg (by omega), if_neg (by omega), if_neg (by omega)]
    have s : acS n g a = ⟨3, g.T, a.pl, a.pu, a.pp, true, a.rd && decide (g.T = a.po)⟩ := by unfold acS; rw [if_pos e2]
    rw [r, s]
    simp [mu, e2]
  by_cases e7 : a.nx = 7
  · have r : rgS n g a = g := by unfold rgS; rw [if_neg (by omega), if_neg (by omega), if_neg (by omega), if_neg (by omega), if_neg (by omega)]
    have s : acS n g a = ⟨8, g.H, a.pl, a.pu, a.pp, true, a.rd && decide (g.H = a.po)⟩ := by unfold acS; rw [if_neg e2, if_pos e7]
    rw [r, s]
    simp [mu, e7]
  by_cases e3 : a.nx = 3
  · have r : rgS n g a = g := by unfold rgS; rw [if_neg (by omega), if_neg (by omega), if_neg (by omega), if_neg (by omega), if_neg (by omega)]
    have s : acS n g a = { a with nx := lookE (g.S (a.po % n)) a.po 4 2 } := by unfold acS; rw [if_neg e2, if_neg e7, if_pos e3]
    rw [r, s]
    have m : mu g a = if a.po = g.T then 3 else 6 := by simp [mu, e3]
    rw [m]
    by_cases e : a.po = g.T
    · have hq := h.notT hn
      rw [if_pos e]
      rcases look_is (S := g.S (a.po % n)) (r := a.po) (x := 4) (y := 2) with ⟨q, q2⟩ | ⟨q, q2⟩ | ⟨q, q2⟩
      · rw [q]; simp [mu, e]
      · rw [q]; simp [mu]
      · rw [e] at q2; exact absurd q2 hq
    · rw [if_neg e]
      rcases look_is (S := g.S (a.po % n)) (r := a.po) (x := 4) (y := 2) with ⟨q, q2⟩ | ⟨q, q2⟩ | ⟨q, q2⟩
      · rw [q]; simp [mu]; split <;> omega
      · rw [q]; simp [mu]
      · rw [q]; simp [mu]
  by_cases e8 : a.nx = 8
  · have r : rgS n g a = g := by unfold rgS; rw [if_neg (by omega), if_neg (by omega), if_neg (by omega), if_neg (by omega), if_neg (by omega)]
    have s : acS n g a = { a with nx := lookE (g.S (a.po % n)) (a.po + 1) 9 7 } := by unfold acS; rw [if_neg e2, if_neg e7, if_neg e3, if_pos e8]
    rw [r, s]
    have m : mu g a = if a.po = g.H then 3 else 6 := by simp [mu, e8]
    rw [m]
    by_cases e : a.po = g.H
    · have hq := h.notH hn
      rw [if_pos e]
      rcases look_is (S := g.S (a.po % n)) (r := a.po + 1) (x := 9) (y := 7) with ⟨q, q2⟩ | ⟨q, q2⟩ | ⟨q, q2⟩
      · rw [q]; simp [mu, e]
      · rw [q]; simp [mu]
      · rw [e] at q2; exact absurd q2 hq
    · rw [if_neg e]
      rcases look_is (S := g.S (a.po % n)) (r := a.po + 1) (x := 9) (y := 7) with ⟨q, q2⟩ | ⟨q, q2⟩ | ⟨q, q2⟩
      · rw [q]; simp [mu]; split <;> omega
      · rw [q]; simp [mu]
      · rw [q]; simp [mu]
  by_cases e4 : a.nx = 4
  · by_cases hT : g.T = a.po
    · have s : acS n g a = { a with nx := 6, pl := a.po } := by unfold acS; rw [if_neg e2, if_neg e7, if_neg e3, if_neg e8, if_pos e4, if_pos hT]
      rw [s]
      have m : mu g a = 2 := by simp [mu, e4, hT]
      rw [m]
      simp [mu]
    · have s : acS n g a = { a with nx := 2 } := by unfold acS; rw [if_neg e2, if_neg e7, if_neg e3, if_neg e8, if_pos e4, if_neg hT]
      rw [s]
      have m : mu g a = 5 := by simp [mu, e4, hT]
      rw [m]
      simp [mu]
  by_cases e9 : a.nx = 9
  · by_cases hT : g.H = a.po
    · have s : acS n g a = { a with nx := 10, pl := a.po } := by unfold acS; rw [if_neg e2, if_neg e7, if_neg e3, if_neg e8, if_neg e4, if_pos e9, if_pos hT]
      rw [s]
      have m : mu g a = 2 := by simp [mu, e9, hT]
      rw [m]
      simp [mu]
    · have s : acS n g a = { a with nx := 7 } := by unfold acS; rw [if_neg e2, if_neg e7, if_neg e3, if_neg e8, if_neg e4, if_pos e9, if_neg hT]
      rw [s]
      have m : mu g a = 5 := by simp [mu, e9, hT]
      rw [m]
      simp [mu]
  have hz : a.nx = 6 ∨ a.nx = 10 := by omega
  have m : mu g a = 1 := by rcases hz with q | q <;> simp [mu, q]
  rw [m, mu_end]
  · omega
  · right
    unfold acS
    rw [if_neg e2, if_neg e7, if_neg e3, if_neg e8, if_neg e4, if_neg e9, if_neg e5]
    rcases hz with q | q
    · rw [if_pos q]
    · rw [if_neg (by omega), if_pos q]
/-- A ring that holds nothing, and no act. -/
theorem RInv.first {n : Nat} {g : Rg} {ac : Nat → Option Ac} (hn : 1 ≤ n) (hT : g.T = 0) (hH : g.H = 0) (hS : ∀ j, j < n → g.S j = j) (hA : ∀ i, ac i = none) : RInv n g ac := by
  have no : ∀ {i a}, ac i = some a → False := fun {i a} e => by rw [hA i] at e; cases e
  refine ⟨by omega, by omega, fun p h1 h2 => by omega, fun p h1 h2 => .inl ?_, fun i a e => (no e).elim, fun i a e => (no e).elim, fun i j a b e => (no e).elim, fun i a e => (no e).elim, fun i a e => (no e).elim, fun i a e => (no e).elim, fun i a e => (no e).elim, fun i a e => (no e).elim⟩
  rw [hS _ (Nat.mod_lt _ (by omega))]
  exact Nat.mod_eq_of_lt (by omega)
end
end Go.Proofs.Ytbenpnecjmpcbaa
