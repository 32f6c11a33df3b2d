/- Nobody begins again but for another's claim: how often all begin again, and how often they claim. -/
import Derived.Test.YtbenpnecjmpcbaaTi
namespace Go.Proofs.Ytbenpnecjmpcbaa
open Go.RowKit
set_option linter.unusedVariables false
set_option linter.unusedSimpArgs false
def sum6 (f : Nat → Int) : Int := f 0 + f 1 + f 2 + f 3 + f 4 + f 5
theorem sum6_upd (f : Nat → Int) {j : Nat} (hj : j < 6) (x : Int) : sum6 (upd f j (f j + x)) = sum6 f + x := by
  unfold sum6
  match j, hj with
  | 0, _ | 1, _ | 2, _ | 3, _ | 4, _ | 5, _ => simp [upd]; omega
def sumRe : List Dn → Int
  | [] => 0
  | d :: l => d.re + sumRe l
theorem sumRe_append (l l' : List Dn) : sumRe (l ++ l') = sumRe l + sumRe l' := by
  induction l with
  | nil => simp [sumRe]
  | cons d l ih => simp only [List.cons_append, sumRe, ih]; omega
/-- Has another claimed since the act read its end? -/
def pend (g : Rg) : Option Ac → Int
  | none => 0
  | some c => if (c.nx = 3 ∨ c.nx = 4) ∧ c.po < g.T ∨ (c.nx = 8 ∨ c.nx = 9) ∧ c.po < g.H then 1 else 0
theorem pend_01 (g : Rg) (x : Option Ac) : 0 ≤ pend g x ∧ pend g x ≤ 1 := by
  cases x with
  | none => exact ⟨Int.le_refl _, (by show (0 : Int) ≤ 1; decide)⟩
  | some c => unfold pend; split <;> omega
def curRe (s : Ts) (j : Nat) : Int := match s.ac j with
  | none => 0
  | some _ => (s.now j).re
def again (c c' : Ac) : Int := if 1 < dnx c.nx ∧ dnx c'.nx = 1 then 1 else 0
theorem dnRe_again (c c' : Ac) (x : Dn) : (dnRe c c' x).re = x.re + again c c' := by
  unfold dnRe again
  split
  · rfl
  · simp
def grew (n : Nat) (g : Rg) (c : Ac) : Int := ((rgS n g c).T : Int) + (rgS n g c).H - (g.T + g.H)
/-- An act's step: what it pays, and what it claims. -/
theorem step_pays {n : Nat} {g : Rg} {ac : Nat → Option Ac} {K : Int} {j : Nat} {c : Ac} (h : RInv n g ac) (hn : 2 ≤ n) (hc : ac j = some c) (hk : AcK K c) :
    again c (acS n g c) + pend (rgS n g c) (some (acS n g c)) ≤ pend g (some c) ∧ g.T ≤ (rgS n g c).T ∧ g.H ≤ (rgS n g c).H ∧ grew n g c ≤ 1 := by
  have nT := h.notT hn
  have nH := h.notH hn
  have p3 := h.po3 j c hc
  have p8 := h.po8 j c hc
  obtain ⟨nx, po, pl, pu, pp, rd, st⟩ := c
  have hx : nx = 0 ∨ nx = 1 ∨ nx = 2 ∨ nx = 3 ∨ nx = 4 ∨ nx = 6 ∨ nx = 7 ∨ nx = 8 ∨ nx = 9 ∨ nx = 10 := by
    rcases hk with ⟨-, -, h⟩ | ⟨-, -, h⟩
    · have h' : nx = 0 ∨ nx = 1 ∨ nx = 2 ∨ nx = 3 ∨ nx = 4 ∨ nx = 6 := h
      omega
    · have h' : nx = 0 ∨ nx = 1 ∨ nx = 7 ∨ nx = 8 ∨ nx = 9 ∨ nx = 10 := h
      omega
  have q3 : nx = 3 ∨ nx = 4 → po ≤ g.T := p3
  have q8 : nx = 8 ∨ nx = 9 → po ≤ g.H := p8
  rcases hx with rfl | rfl | rfl | rfl | rfl | rfl | rfl | rfl | rfl | rfl
  · simp [acS, rgS, again, pend, grew, dnx]
  · simp [acS, rgS, again, pend, grew, dnx]
  · simp [acS, rgS, again, pend, grew, dnx]
  · rcases look_is (S := g.S (po % n)) (r := po) (x := 4) (y := 2) with ⟨e, e2⟩ | ⟨e, e2⟩ | ⟨e, e2⟩
    · simp [acS, rgS, again, pend, grew, dnx, e]
    · simp [acS, rgS, again, pend, grew, dnx, e]
      split <;> omega
    · have hlt : po < g.T := by
        have := q3 (.inl rfl)
        rcases Nat.lt_or_ge po g.T with c | c
        · exact c
        · have : po = g.T := by omega
          rw [this] at e2
          exact absurd e2 nT
      simp [acS, rgS, again, pend, grew, dnx, e, hlt]
  · by_cases e : g.T = po
    · simp [acS, rgS, again, pend, grew, dnx, e]
      omega
    · have hlt : po < g.T := by have := q3 (.inr rfl); omega
      simp [acS, rgS, again, pend, grew, dnx, e, hlt]
  · simp [acS, rgS, again, pend, grew, dnx]
  · simp [acS, rgS, again, pend, grew, dnx]
  · rcases look_is (S := g.S (po % n)) (r := po + 1) (x := 9) (y := 7) with ⟨e, e2⟩ | ⟨e, e2⟩ | ⟨e, e2⟩
    · simp [acS, rgS, again, pend, grew, dnx, e]
    · simp [acS, rgS, again, pend, grew, dnx, e]
      split <;> omega
    · have hlt : po < g.H := by
        have := q8 (.inl rfl)
        rcases Nat.lt_or_ge po g.H with c | c
        · exact c
        · have : po = g.H := by omega
          rw [this] at e2
          exact absurd e2 nH
      simp [acS, rgS, again, pend, grew, dnx, e, hlt]
  · by_cases e : g.H = po
    · simp [acS, rgS, again, pend, grew, dnx, e]
      omega
    · have hlt : po < g.H := by have := q8 (.inr rfl); omega
      simp [acS, rgS, again, pend, grew, dnx, e, hlt]
  · simp [acS, rgS, again, pend, grew, dnx]
theorem pend_grew {g g' : Rg} (hT : g.T ≤ g'.T) (hH : g.H ≤ g'.H) (x : Option Ac) : pend g' x ≤ pend g x + (((g'.T : Int) + g'.H) - (g.T + g.H)) := by
  rcases Nat.eq_or_lt_of_le hT with e | e
  · rcases Nat.eq_or_lt_of_le hH with e' | e'
    · have : pend g' x = pend g x := by unfold pend; rw [e, e']
      rw [this]
      omega
    · have := (pend_01 g' x).2
      have := (pend_01 g x).1
      omega
  · have := (pend_01 g' x).2
    have := (pend_01 g x).1
    omega
structure PInv (s : Ts) (rt cl : Nat → Int) : Prop where
  sr : sumRe s.out = sum6 rt
  sc : (s.g.T : Int) + s.g.H = sum6 cl
  le : ∀ j, j < 6 → rt j + curRe s j + pend s.g (s.ac j) ≤ (s.g.T : Int) + s.g.H - cl j
  re : ∀ d ∈ s.out, 0 ≤ d.re ∧ d.re ≤ 200
theorem PInv.begin_ {s : Ts} {rt cl : Nat → Int} (h : PInv s rt cl) (i : Nat) {j : Nat} (hj : s.ac j = none) (d v : Int) : PInv (tsBegin s i j d v) rt cl := by
  refine ⟨h.sr, h.sc, fun l hl => ?_, h.re⟩
  have := h.le l hl
  by_cases e : l = j
  · subst e
    have e1 : curRe (tsBegin s i l d v) l = 0 := by
      show (match upd s.ac l (some (tc0 d v)) l with | none => 0 | some _ => (upd s.now l _ l).re) = 0
      rw [upd_at, upd_at]
    have e2 : pend (tsBegin s i l d v).g ((tsBegin s i l d v).ac l) = 0 := by
      show pend s.g (upd s.ac l (some (tc0 d v)) l) = 0
      rw [upd_at]
      show (if ((tc0 d v).nx = 3 ∨ (tc0 d v).nx = 4) ∧ (tc0 d v).po < s.g.T ∨ ((tc0 d v).nx = 8 ∨ (tc0 d v).nx = 9) ∧ (tc0 d v).po < s.g.H then (1 : Int) else 0) = 0
      rw [if_neg]
      rcases tc0_nx d v with e | e <;> rw [e] <;> simp
    have e3 : curRe s l = 0 := by unfold curRe; rw [hj]
    have e4 : pend s.g (s.ac l) = 0 := by rw [hj]; rfl
    rw [e1, e2]
    rw [e3, e4] at this
    exact this
  · have e1 : curRe (tsBegin s i j d v) l = curRe s l := by
      show (match upd s.ac j (some (tc0 d v)) l with | none => 0 | some _ => (upd s.now j _ l).re) = _
      rw [upd_ne _ _ e, upd_ne _ _ e]
      rfl
    have e2 : pend (tsBegin s i j d v).g ((tsBegin s i j d v).ac l) = pend s.g (s.ac l) := by
      show pend s.g (upd s.ac j (some (tc0 d v)) l) = _
      rw [upd_ne _ _ e]
    rw [e1, e2]
    exact this
theorem PInv.step_ {n k : Nat} {s : Ts} {rt cl : Nat → Int} (h : PInv s rt cl) (ok : TsOk n k s) (hk : k ≤ 200) (hn : 2 ≤ n) (i : Nat) {j : Nat} (hj6 : j < 6) {c : Ac} (hc : s.ac j = some c) : ∃ rt' cl', PInv (tsStep n s i j c) rt' cl' := by
  obtain ⟨s1, s2, s3, s4⟩ := step_pays ok.inv hn hc (ok.kd j c hc).2
  have hsc : (((rgS n s.g c).T : Int) + (rgS n s.g c).H) = sum6 (upd cl j (cl j + grew n s.g c)) := by
    rw [sum6_upd cl hj6, ← h.sc]
    unfold grew
    omega
  have far : ∀ l, l < 6 → l ≠ j → rt l + curRe s l + pend (rgS n s.g c) (s.ac l) ≤ ((rgS n s.g c).T : Int) + (rgS n s.g c).H - cl l := fun l hl hne => by
    have h1 := h.le l hl
    have h2 := pend_grew s2 s3 (s.ac l)
    omega
  have me := h.le j hj6
  have c0 : curRe s j = (s.now j).re := by unfold curRe; rw [hc]
  rw [c0, hc] at me
  have hg : grew n s.g c = ((rgS n s.g c).T : Int) + (rgS n s.g c).H - (s.g.T + s.g.H) := rfl
  have p0 := (pend_01 (rgS n s.g c) (some (acS n s.g c))).1
  have p1 := (pend_01 s.g (some c)).1
  unfold tsStep
  by_cases he : endE (acS n s.g c).nx = true
  · rw [if_pos he]
    refine ⟨upd rt j (rt j + (s.now j).re), upd cl j (cl j + grew n s.g c), ?_, hsc, fun l hl => ?_, fun d hd => ?_⟩
    · show sumRe (s.out ++ [_]) = _
      rw [sumRe_append, sum6_upd rt hj6, h.sr]
      simp only [sumRe]
      show sum6 rt + ((s.now j).re + 0) = _
      omega
    · by_cases e : l = j
      · subst e
        show upd rt l _ l + (match upd s.ac l none l with | none => 0 | some _ => _) + pend _ (upd s.ac l none l) ≤ _ - upd cl l _ l
        rw [upd_at, upd_at, upd_at]
        show rt l + (s.now l).re + 0 + 0 ≤ ((rgS n s.g c).T : Int) + (rgS n s.g c).H - (cl l + grew n s.g c)
        omega
      · show upd rt j _ l + (match upd s.ac j none l with | none => 0 | some _ => (upd s.now j _ l).re) + pend _ (upd s.ac j none l) ≤ _ - upd cl j _ l
        rw [upd_ne _ _ e, upd_ne _ _ e, upd_ne _ _ e, upd_ne _ _ e]
        exact far l hl e
    · have hd' : d ∈ s.out ++ [dnEnd i (acS n s.g c) (s.now j)] := hd
      rcases List.mem_append.1 hd' with hd | hd
      · exact h.re d hd
      · rw [List.mem_singleton.1 hd]
        have := ok.re j
        show 0 ≤ (s.now j).re ∧ (s.now j).re ≤ 200
        omega
  · rw [if_neg he]
    refine ⟨rt, upd cl j (cl j + grew n s.g c), h.sr, hsc, fun l hl => ?_, h.re⟩
    by_cases e : l = j
    · subst e
      show rt l + (match upd s.ac l (some (acS n s.g c)) l with | none => 0 | some _ => (upd s.now l _ l).re) + pend _ (upd s.ac l (some (acS n s.g c)) l) ≤ _ - upd cl l _ l
      rw [upd_at, upd_at, upd_at]
      show rt l + (dnRe c (acS n s.g c) (s.now l)).re + pend (rgS n s.g c) (some (acS n s.g c)) ≤ ((rgS n s.g c).T : Int) + (rgS n s.g c).H - (cl l + grew n s.g c)
      rw [dnRe_again]
      omega
    · show rt l + (match upd s.ac j (some (acS n s.g c)) l with | none => 0 | some _ => (upd s.now j _ l).re) + pend _ (upd s.ac j (some (acS n s.g c)) l) ≤ _ - upd cl j _ l
      rw [upd_ne _ _ e, upd_ne _ _ e, upd_ne _ _ e]
      exact far l hl e
theorem tsRun_ok {n : Nat} {Q : Nat → Pk} {s : Ts} (h : TsOk n 0 s) (hn : 2 ≤ n) : ∀ k, TsOk n k (tsRun n Q k s)
  | 0 => h
  | k + 1 => (tsRun_ok h hn k).pick_ hn k _ _ _
theorem tsRun_P {n : Nat} {Q : Nat → Pk} {s : Ts} (ok : TsOk n 0 s) (hn : 2 ≤ n) (h : ∃ rt cl, PInv s rt cl) : ∀ k, k ≤ 201 → ∃ rt cl, PInv (tsRun n Q k s) rt cl
  | 0, _ => h
  | k + 1, hk => by
    obtain ⟨rt, cl, ih⟩ := tsRun_P ok hn h k (by omega)
    show ∃ rt cl, PInv (tsPick n (tsRun n Q k s) k _ _ _) rt cl
    unfold tsPick
    cases hc : (tsRun n Q k s).ac ((Q k).t.toNat % 6) with
    | none => exact ⟨rt, cl, ih.begin_ k hc _ _⟩
    | some c => exact ih.step_ (tsRun_ok ok hn k) (by omega) hn k (Nat.mod_lt _ (by decide)) hc
theorem ts0_P (n : Nat) (K : Nat → Int) : ∃ rt cl, PInv (ts0 (rg0 n) K) rt cl :=
  ⟨fun _ => 0, fun _ => 0, rfl, rfl, fun j _ => by show (0 : Int) + 0 + 0 ≤ _; exact Int.le_refl _, fun d hd => by cases hd⟩
theorem PInv.bound {n k : Nat} {s : Ts} {rt cl : Nat → Int} (h : PInv s rt cl) (ok : TsOk n k s) : sumRe s.out ≤ 5 * ((s.g.T : Int) + s.g.H) := by
  have z : ∀ j, j < 6 → rt j ≤ (s.g.T : Int) + s.g.H - cl j := fun j hj => by
    have h1 := h.le j hj
    have h2 := (pend_01 s.g (s.ac j)).1
    have h3 : 0 ≤ curRe s j := by
      unfold curRe
      split
      · exact Int.le_refl _
      · exact (ok.re j).1
    omega
  have z0 := z 0 (by decide)
  have z1 := z 1 (by decide)
  have z2 := z 2 (by decide)
  have z3 := z 3 (by decide)
  have z4 := z 4 (by decide)
  have z5 := z 5 (by decide)
  have hs := h.sc
  rw [h.sr]
  unfold sum6 at *
  omega
theorem sumRe_take {L : List Dn} {k : Nat} (hk : k < L.length) : sumRe (L.take (k + 1)) = sumRe (L.take k) + (L[k]!).re := by
  rw [List.take_add_one, sumRe_append, List.getElem?_eq_getElem hk, getElem!_pos L k hk]
  simp [sumRe]
theorem sumRe_le {L : List Dn} (h : ∀ d ∈ L, 0 ≤ d.re ∧ d.re ≤ 200) : 0 ≤ sumRe L ∧ sumRe L ≤ 200 * L.length := by
  induction L with
  | nil => exact ⟨Int.le_refl _, Int.le_refl _⟩
  | cons d l ih =>
    have h1 := h d List.mem_cons_self
    have h2 := ih fun x hx => h x (List.mem_cons_of_mem _ hx)
    simp only [sumRe, List.length_cons]
    omega
end Go.Proofs.Ytbenpnecjmpcbaa
