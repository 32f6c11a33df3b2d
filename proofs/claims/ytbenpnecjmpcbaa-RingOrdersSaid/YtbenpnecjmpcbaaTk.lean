/- What lies at each place, who has put it, who has taken it. -/
import Derived.Test.YtbenpnecjmpcbaaTj
namespace Go.Proofs.Ytbenpnecjmpcbaa
open Go.RowKit
set_option linter.unusedVariables false
set_option linter.unusedSimpArgs false
/-- val: the value of a place that was claimed; PL: the places that were filled, OL: those that were taken, in the order in which it ended. -/
structure CI (n : Nat) (g : Rg) (ac : Nat → Option Ac) (K : Nat → Int) (val : Nat → Int) (PL OL : List Nat) : Prop where
  a6 : ∀ j c, ac j = some c → c.nx = 6 → c.pu = val c.pl
  vf : ∀ p, g.H ≤ p → p < g.T → g.S (p % n) = p + 1 → g.V (p % n) = val p
  a10 : ∀ j c, ac j = some c → c.nx = 10 → g.V (c.pl % n) = val c.pl
  pl : ∀ p, p ∈ PL → p < g.T ∧ p + 1 ≤ g.S (p % n)
  ol : ∀ p, p ∈ OL → p < g.H ∧ p + n ≤ g.S (p % n)
  pn : PL.Nodup
  on : OL.Nodup
  pc : ∀ p, p < g.T → p ∈ PL ∨ ∃ j c, ac j = some c ∧ c.nx = 6 ∧ c.pl = p
  oc : ∀ p, p < g.H → p ∈ OL ∨ ∃ j c, ac j = some c ∧ c.nx = 10 ∧ c.pl = p
  u2 : ∀ p q, p < g.T → q < g.T → val p = val q → p = q
  u3 : ∀ j c, ac j = some c → K j = 0 → c.nx ≠ 6 → ∀ p, p < g.T → val p ≠ c.pu
  u4 : ∀ i j c d, i ≠ j → ac i = some c → ac j = some d → K i = 0 → K j = 0 → c.pu ≠ d.pu
section
variable {n : Nat} {g : Rg} {ac : Nat → Option Ac} {K val : Nat → Int} {PL OL : List Nat}
theorem keepAct {j : Nat} {x : Option Ac} {c : Ac} (hc : ac j = some c) {m : Int} (hm : c.nx ≠ m) {p : Nat} (h : ∃ j c, ac j = some c ∧ c.nx = m ∧ c.pl = p) : ∃ l d, upd ac j x l = some d ∧ d.nx = m ∧ d.pl = p := by
  obtain ⟨l, d, h1, h2, h3⟩ := h
  refine ⟨l, d, ?_, h2, h3⟩
  rw [upd_ne _ _ (fun e => by subst e; rw [hc] at h1; cases h1; exact hm h2)]
  exact h1
theorem CI.quiet (h : CI n g ac K val PL OL) {j : Nat} {c : Ac} (hc : ac j = some c) {x : Option Ac} (hx : ∀ a, x = some a → a.pu = c.pu ∧ a.nx ≠ 6 ∧ a.nx ≠ 10) (h6 : c.nx ≠ 6) (h10 : c.nx ≠ 10) : CI n g (upd ac j x) K val PL OL := by
  refine ⟨fun l a ha hn => ?_, h.vf, fun l a ha hn => ?_, h.pl, h.ol, h.pn, h.on, fun p hp => (h.pc p hp).imp id (keepAct hc h6), fun p hp => (h.oc p hp).imp id (keepAct hc h10), h.u2, fun l a ha hk hn => ?_, fun i l a b hne ha hb hki hkl => ?_⟩
  · rcases upd_some ha with ⟨-, e⟩ | ⟨-, e⟩
    · exact absurd hn (hx a e).2.1
    · exact h.a6 l a e hn
  · rcases upd_some ha with ⟨-, e⟩ | ⟨-, e⟩
    · exact absurd hn (hx a e).2.2
    · exact h.a10 l a e hn
  · rcases upd_some ha with ⟨rfl, e⟩ | ⟨-, e⟩
    · rw [(hx a e).1]; exact h.u3 _ c hc hk h6
    · exact h.u3 l a e hk hn
  · rcases upd_some ha with ⟨rfl, e⟩ | ⟨-, e⟩
    · rcases upd_some hb with ⟨rfl, -⟩ | ⟨-, e'⟩
      · exact absurd rfl hne
      · rw [(hx a e).1]; exact h.u4 _ l c b hne hc e' hki hkl
    · rcases upd_some hb with ⟨rfl, e'⟩ | ⟨-, e'⟩
      · rw [(hx b e').1]; exact h.u4 i _ a c hne e hc hki hkl
      · exact h.u4 i l a b hne e e' hki hkl
theorem CI.claimT (h : CI n g ac K val PL OL) (hr : RInv n g ac) (hn2 : 2 ≤ n) {j : Nat} {c : Ac} (hc : ac j = some c) (hx : c.nx = 4) (hT : g.T = c.po) (hK : K j = 0) :
    CI n { g with T := c.po + 1 } (upd ac j (some { c with nx := 6, pl := c.po })) K (upd val c.po c.pu) PL OL := by
  have c6 : c.nx ≠ 6 := by rw [hx]; decide
  have c10 : c.nx ≠ 10 := by rw [hx]; decide
  obtain ⟨s1, s2⟩ := hr.claimT hn2 hc hx hT
  have old : ∀ p, p < g.T → upd val c.po c.pu p = val p := fun p hp => upd_ne _ _ (by omega)
  refine ⟨fun l a ha hn => ?_, fun p h1 h2 h3 => ?_, fun l a ha hn => ?_, fun p hp => ⟨by have := (h.pl p hp).1; show p < c.po + 1; omega, (h.pl p hp).2⟩, h.ol, h.pn, h.on, fun p hp => ?_, fun p hp => (h.oc p hp).imp id (keepAct hc c10), fun p q hp hq he => ?_, fun l a ha hk hn p hp => ?_, fun i l a b hne ha hb hki hkl => ?_⟩
  · rcases upd_some ha with ⟨-, e⟩ | ⟨-, e⟩
    · cases e
      show c.pu = upd val c.po c.pu c.po
      rw [upd_at]
    · rw [old _ (hr.fill l a e hn).2.1]
      exact h.a6 l a e hn
  · have h2' : p < c.po + 1 := h2
    have h1' : g.H ≤ p := h1
    have h3' : g.S (p % n) = p + 1 := h3
    rcases Nat.lt_or_ge p g.T with q | q
    · show g.V (p % n) = _
      rw [old p q]
      exact h.vf p h1' q h3'
    · have : p = g.T := by omega
      subst this
      rw [s1] at h3'
      omega
  · rcases upd_some ha with ⟨-, e⟩ | ⟨-, e⟩
    · cases e
      exact absurd (show (6 : Int) = 10 from hn) (by decide)
    · have := (hr.take l a e hn).1
      have := hr.le1
      show g.V (a.pl % n) = _
      rw [old _ (by omega)]
      exact h.a10 l a e hn
  · have hp' : p < c.po + 1 := hp
    rcases Nat.lt_or_ge p g.T with q | q
    · exact (h.pc p q).imp id (keepAct hc c6)
    · exact .inr ⟨j, _, upd_at _ _ _, rfl, by show c.po = p; omega⟩
  · have hp' : p < c.po + 1 := hp
    have hq' : q < c.po + 1 := hq
    rcases Nat.lt_or_ge p g.T with x | x
    · rcases Nat.lt_or_ge q g.T with y | y
      · rw [old p x, old q y] at he
        exact h.u2 p q x y he
      · have : q = c.po := by omega
        subst this
        rw [old p x, upd_at] at he
        exact absurd he (h.u3 j c hc hK c6 p x)
    · rcases Nat.lt_or_ge q g.T with y | y
      · have : p = c.po := by omega
        subst this
        rw [old q y, upd_at] at he
        exact absurd he.symm (h.u3 j c hc hK c6 q y)
      · omega
  · have hp' : p < c.po + 1 := hp
    rcases upd_some ha with ⟨rfl, e⟩ | ⟨e0, e⟩
    · cases e
      exact absurd rfl hn
    · rcases Nat.lt_or_ge p g.T with x | x
      · rw [old p x]
        exact h.u3 l a e hk hn p x
      · have : p = c.po := by omega
        subst this
        rw [upd_at]
        exact h.u4 j l c a (fun e' => e0 e'.symm) hc e hK hk
  · rcases upd_some ha with ⟨rfl, e⟩ | ⟨-, e⟩
    · rcases upd_some hb with ⟨rfl, -⟩ | ⟨-, e'⟩
      · exact absurd rfl hne
      · cases e; exact h.u4 _ l c b hne hc e' hki hkl
    · rcases upd_some hb with ⟨rfl, e'⟩ | ⟨-, e'⟩
      · cases e'; exact h.u4 i _ a c hne e hc hki hkl
      · exact h.u4 i l a b hne e e' hki hkl
theorem CI.claimH (h : CI n g ac K val PL OL) (hr : RInv n g ac) (hn2 : 2 ≤ n) {j : Nat} {c : Ac} (hc : ac j = some c) (hx : c.nx = 9) (hH : g.H = c.po) (hK : K j ≠ 0) :
    CI n { g with H := c.po + 1 } (upd ac j (some { c with nx := 10, pl := c.po })) K val PL OL := by
  have c6 : c.nx ≠ 6 := by rw [hx]; decide
  have c10 : c.nx ≠ 10 := by rw [hx]; decide
  obtain ⟨s1, s2⟩ := hr.claimH hn2 hc hx hH
  refine ⟨fun l a ha hn => ?_, fun p h1 h2 h3 => h.vf p (by have h1' : c.po + 1 ≤ p := h1; omega) h2 h3, fun l a ha hn => ?_, h.pl, fun p hp => ⟨by have := (h.ol p hp).1; show p < c.po + 1; omega, (h.ol p hp).2⟩, h.pn, h.on, fun p hp => (h.pc p hp).imp id (keepAct hc c6), fun p hp => ?_, h.u2, fun l a ha hk hn => ?_, fun i l a b hne ha hb hki hkl => ?_⟩
  · rcases upd_some ha with ⟨-, e⟩ | ⟨-, e⟩
    · cases e
      exact absurd (show (10 : Int) = 6 from hn) (by decide)
    · exact h.a6 l a e hn
  · rcases upd_some ha with ⟨-, e⟩ | ⟨-, e⟩
    · cases e
      show g.V (c.po % n) = val c.po
      rw [← hH]
      exact h.vf g.H (Nat.le_refl _) s2 s1
    · exact h.a10 l a e hn
  · have hp' : p < c.po + 1 := hp
    rcases Nat.lt_or_ge p g.H with q | q
    · exact (h.oc p q).imp id (keepAct hc c10)
    · exact .inr ⟨j, _, upd_at _ _ _, rfl, by show c.po = p; omega⟩
  · rcases upd_some ha with ⟨rfl, e⟩ | ⟨-, e⟩
    · exact absurd hk hK
    · exact h.u3 l a e hk hn
  · rcases upd_some ha with ⟨rfl, e⟩ | ⟨-, e⟩
    · exact absurd hki hK
    · rcases upd_some hb with ⟨rfl, e'⟩ | ⟨-, e'⟩
      · exact absurd hkl hK
      · exact h.u4 i l a b hne e e' hki hkl
theorem CI.fill (h : CI n g ac K val PL OL) (hr : RInv n g ac) (hn2 : 2 ≤ n) {j : Nat} {c : Ac} (hc : ac j = some c) (hx : c.nx = 6) :
    CI n { g with S := fun i => if i = c.pl % n then c.pl + 1 else g.S i, V := fun i => if i = c.pl % n then c.pu else g.V i } (upd ac j none) K val (PL ++ [c.pl]) OL := by
  have c10 : c.nx ≠ 10 := by rw [hx]; decide
  obtain ⟨s1, s2, s3⟩ := hr.fill j c hc hx
  have le2 := hr.le2
  have up : ∀ i, g.S i ≤ (if i = c.pl % n then c.pl + 1 else g.S i) := fun i => by
    split
    · next e => rw [e, s3]; omega
    · exact Nat.le_refl _
  have notin : c.pl ∉ PL := fun hm => by have := (h.pl _ hm).2; omega
  refine ⟨fun l a ha hn => ?_, fun p h1 h2 h3 => ?_, fun l a ha hn => ?_, fun p hp => ?_, fun p hp => ⟨(h.ol p hp).1, Nat.le_trans (h.ol p hp).2 (up _)⟩, ?_, h.on, fun p hp => ?_, fun p hp => (h.oc p hp).imp id (keepAct hc c10), h.u2, fun l a ha hk hn => ?_, fun i l a b hne ha hb hki hkl => ?_⟩
  · rcases upd_some ha with ⟨-, e⟩ | ⟨-, e⟩
    · cases e
    · exact h.a6 l a e hn
  · have h1' : g.H ≤ p := h1
    have h2' : p < g.T := h2
    show (if p % n = c.pl % n then c.pu else g.V (p % n)) = val p
    have h3' : (if p % n = c.pl % n then c.pl + 1 else g.S (p % n)) = p + 1 := h3
    by_cases e : p % n = c.pl % n
    · rw [if_pos e] at h3' ⊢
      have : p = c.pl := by omega
      rw [this]
      exact h.a6 j c hc hx
    · rw [if_neg e] at h3' ⊢
      exact h.vf p h1' h2' h3'
  · rcases upd_some ha with ⟨-, e⟩ | ⟨-, e⟩
    · cases e
    · obtain ⟨t1, t2, -⟩ := hr.take l a e hn
      show (if a.pl % n = c.pl % n then c.pu else g.V (a.pl % n)) = _
      rw [if_neg (res_ne (by omega) (by omega))]
      exact h.a10 l a e hn
  · rcases List.mem_append.1 hp with hm | hm
    · exact ⟨(h.pl p hm).1, Nat.le_trans (h.pl p hm).2 (up _)⟩
    · rw [List.mem_singleton.1 hm]
      exact ⟨s2, by show _ ≤ (if c.pl % n = c.pl % n then c.pl + 1 else _); rw [if_pos rfl]; exact Nat.le_refl _⟩
  · rw [List.nodup_append]
    exact ⟨h.pn, by simp, fun a ha b hb e => by rw [List.mem_singleton.1 hb] at e; exact notin (e ▸ ha)⟩
  · rcases h.pc p hp with hm | ⟨l, d, h1, h2, h3⟩
    · exact .inl (List.mem_append_left _ hm)
    · by_cases e : l = j
      · subst e
        rw [hc] at h1
        cases h1
        exact .inl (List.mem_append_right _ (by rw [h3]; exact List.mem_singleton.2 rfl))
      · exact .inr ⟨l, d, by rw [upd_ne _ _ e]; exact h1, h2, h3⟩
  · rcases upd_some ha with ⟨-, e⟩ | ⟨-, e⟩
    · cases e
    · exact h.u3 l a e hk hn
  · rcases upd_some ha with ⟨-, e⟩ | ⟨-, e⟩
    · cases e
    · rcases upd_some hb with ⟨-, e'⟩ | ⟨-, e'⟩
      · cases e'
      · exact h.u4 i l a b hne e e' hki hkl
theorem CI.take (h : CI n g ac K val PL OL) (hr : RInv n g ac) (hn2 : 2 ≤ n) {j : Nat} {c : Ac} (hc : ac j = some c) (hx : c.nx = 10) :
    CI n { g with S := fun i => if i = c.pl % n then c.pl + n else g.S i } (upd ac j none) K val PL (OL ++ [c.pl]) := by
  have c6 : c.nx ≠ 6 := by rw [hx]; decide
  obtain ⟨s1, s2, s3⟩ := hr.take j c hc hx
  have le1 := hr.le1
  have up : ∀ i, g.S i ≤ (if i = c.pl % n then c.pl + n else g.S i) := fun i => by
    split
    · next e => rw [e, s3]; omega
    · exact Nat.le_refl _
  have notin : c.pl ∉ OL := fun hm => by have := (h.ol _ hm).2; omega
  refine ⟨fun l a ha hn => ?_, fun p h1 h2 h3 => ?_, fun l a ha hn => ?_, fun p hp => ⟨(h.pl p hp).1, Nat.le_trans (h.pl p hp).2 (up _)⟩, fun p hp => ?_, h.pn, ?_, fun p hp => (h.pc p hp).imp id (keepAct hc c6), fun p hp => ?_, h.u2, fun l a ha hk hn => ?_, fun i l a b hne ha hb hki hkl => ?_⟩
  · rcases upd_some ha with ⟨-, e⟩ | ⟨-, e⟩
    · cases e
    · exact h.a6 l a e hn
  · have h1' : g.H ≤ p := h1
    have h2' : p < g.T := h2
    have h3' : (if p % n = c.pl % n then c.pl + n else g.S (p % n)) = p + 1 := h3
    rw [if_neg (fun e => res_ne (n := n) (a := c.pl) (b := p) (by omega) (by omega) e.symm)] at h3'
    exact h.vf p h1' h2' h3'
  · rcases upd_some ha with ⟨-, e⟩ | ⟨-, e⟩
    · cases e
    · exact h.a10 l a e hn
  · rcases List.mem_append.1 hp with hm | hm
    · exact ⟨(h.ol p hm).1, Nat.le_trans (h.ol p hm).2 (up _)⟩
    · rw [List.mem_singleton.1 hm]
      exact ⟨s1, by show _ ≤ (if c.pl % n = c.pl % n then c.pl + n else _); rw [if_pos rfl]; exact Nat.le_refl _⟩
  · rw [List.nodup_append]
    exact ⟨h.on, by simp, fun a ha b hb e => by rw [List.mem_singleton.1 hb] at e; exact notin (e ▸ ha)⟩
  · rcases h.oc p hp with hm | ⟨l, d, h1, h2, h3⟩
    · exact .inl (List.mem_append_left _ hm)
    · by_cases e : l = j
      · subst e
        rw [hc] at h1
        cases h1
        exact .inl (List.mem_append_right _ (by rw [h3]; exact List.mem_singleton.2 rfl))
      · exact .inr ⟨l, d, by rw [upd_ne _ _ e]; exact h1, h2, h3⟩
  · rcases upd_some ha with ⟨-, e⟩ | ⟨-, e⟩
    · cases e
    · exact h.u3 l a e hk hn
  · rcases upd_some ha with ⟨-, e⟩ | ⟨-, e⟩
    · cases e
    · rcases upd_some hb with ⟨-, e'⟩ | ⟨-, e'⟩
      · cases e'
      · exact h.u4 i l a b hne e e' hki hkl
/-- A live act's step: what becomes of the places. -/
theorem CI.step (h : CI n g ac K val PL OL) (hr : RInv n g ac) (hn2 : 2 ≤ n) {j : Nat} {c : Ac} (hc : ac j = some c) (hk : AcK (K j) c) (hl : 2 ≤ c.nx) :
    ∃ val' PL' OL', CI n (rgS n g c) (upd ac j (if endE (acS n g c).nx = true then none else some (acS n g c))) K val' PL' OL' ∧ (∀ p, p < g.T → val' p = val p) ∧
      ((acS n g c).nx = 1 ∧ K j = 0 ∧ PL' = PL ++ [c.pl] ∧ OL' = OL ∧ (acS n g c).pu = val' c.pl ∧ c.pl < g.T ∨ (acS n g c).nx = 1 ∧ K j = 2 ∧ PL' = PL ∧ OL' = OL ++ [c.pl] ∧ (acS n g c).pp = val' c.pl ∧ c.pl < g.T ∨ (acS n g c).nx ≠ 1 ∧ PL' = PL ∧ OL' = OL) := by
  have sil : ∀ a : Ac, rgS n g c = g → acS n g c = a → a.pu = c.pu → a.nx ≠ 6 → a.nx ≠ 10 → a.nx ≠ 1 → c.nx ≠ 6 → c.nx ≠ 10 → ∃ val' PL' OL', CI n (rgS n g c) (upd ac j (if endE (acS n g c).nx = true then none else some (acS n g c))) K val' PL' OL' ∧ (∀ p, p < g.T → val' p = val p) ∧
      ((acS n g c).nx = 1 ∧ K j = 0 ∧ PL' = PL ++ [c.pl] ∧ OL' = OL ∧ (acS n g c).pu = val' c.pl ∧ c.pl < g.T ∨ (acS n g c).nx = 1 ∧ K j = 2 ∧ PL' = PL ∧ OL' = OL ++ [c.pl] ∧ (acS n g c).pp = val' c.pl ∧ c.pl < g.T ∨ (acS n g c).nx ≠ 1 ∧ PL' = PL ∧ OL' = OL) := by
    intro a e1 e2 e3 e4 e5 e6 e7 e8
    rw [e1, e2]
    refine ⟨val, PL, OL, h.quiet hc (fun b hb => ?_) e7 e8, fun _ _ => rfl, .inr (.inr ⟨e6, rfl, rfl⟩)⟩
    by_cases q : endE a.nx = true
    · rw [if_pos q] at hb; cases hb
    · rw [if_neg q] at hb; cases hb; exact ⟨e3, e4, e5⟩
  have live : c.nx = 2 ∨ c.nx = 3 ∨ c.nx = 4 ∨ c.nx = 6 ∨ c.nx = 7 ∨ c.nx = 8 ∨ c.nx = 9 ∨ c.nx = 10 := by
    rcases hk with ⟨-, -, h⟩ | ⟨-, -, h⟩ <;> omega
  have kp : (c.nx = 4 ∨ c.nx = 6) → K j = 0 := fun e => by rcases hk with ⟨h1, -, -⟩ | ⟨-, -, h⟩; exact h1; omega
  have ko : (c.nx = 9 ∨ c.nx = 10) → K j = 2 := fun e => by rcases hk with ⟨-, -, h⟩ | ⟨h1, -, -⟩; omega; exact h1
  rcases live with e | e | e | e | e | e | e | e
  · exact sil _ (by simp [rgS, e]) rfl (by simp [acS, e]) (by simp [acS, e]) (by simp [acS, e]) (by simp [acS, e]) (by omega) (by omega)
  · have hq : lookE (g.S (c.po % n)) c.po 4 2 = 4 ∨ lookE (g.S (c.po % n)) c.po 4 2 = 0 ∨ lookE (g.S (c.po % n)) c.po 4 2 = 2 := by
      rcases look_is (S := g.S (c.po % n)) (r := c.po) (x := 4) (y := 2) with ⟨e, -⟩ | ⟨e, -⟩ | ⟨e, -⟩ <;> omega
    have hnx : (acS n g c).nx = lookE (g.S (c.po % n)) c.po 4 2 := by simp [acS, e]
    exact sil _ (by simp [rgS, e]) rfl (by simp [acS, e]) (by omega) (by omega) (by omega) (by omega) (by omega)
  · by_cases q : g.T = c.po
    · have e1 : rgS n g c = { g with T := c.po + 1 } := by simp [rgS, e, q]
      have e2 : acS n g c = { c with nx := 6, pl := c.po } := by simp [acS, e, q]
      have e3 : endE (acS n g c).nx = false := by rw [e2]; rfl
      rw [e1, e3, e2]
      exact ⟨_, PL, OL, h.claimT hr hn2 hc e q (kp (.inl e)), fun p hp => upd_ne _ _ (by omega), .inr (.inr ⟨(by show (6 : Int) ≠ 1; decide), rfl, rfl⟩)⟩
    · exact sil _ (by simp [rgS, e, q]) rfl (by simp [acS, e, q]) (by simp [acS, e, q]) (by simp [acS, e, q]) (by simp [acS, e, q]) (by omega) (by omega)
  · have e1 : rgS n g c = { g with S := fun i => if i = c.pl % n then c.pl + 1 else g.S i, V := fun i => if i = c.pl % n then c.pu else g.V i } := by simp [rgS, e]
    have e2 : acS n g c = { c with nx := 1 } := by simp [acS, e]
    have e3 : endE (acS n g c).nx = true := by rw [e2]; rfl
    rw [e1, if_pos e3, e2]
    exact ⟨val, _, OL, h.fill hr hn2 hc e, fun _ _ => rfl, .inl ⟨rfl, kp (.inr e), rfl, rfl, h.a6 j c hc e, (hr.fill j c hc e).2.1⟩⟩
  · exact sil _ (by simp [rgS, e]) rfl (by simp [acS, e]) (by simp [acS, e]) (by simp [acS, e]) (by simp [acS, e]) (by omega) (by omega)
  · have hq : lookE (g.S (c.po % n)) (c.po + 1) 9 7 = 9 ∨ lookE (g.S (c.po % n)) (c.po + 1) 9 7 = 0 ∨ lookE (g.S (c.po % n)) (c.po + 1) 9 7 = 7 := by
      rcases look_is (S := g.S (c.po % n)) (r := c.po + 1) (x := 9) (y := 7) with ⟨e, -⟩ | ⟨e, -⟩ | ⟨e, -⟩ <;> omega
    have hnx : (acS n g c).nx = lookE (g.S (c.po % n)) (c.po + 1) 9 7 := by simp [acS, e]
    exact sil _ (by simp [rgS, e]) rfl (by simp [acS, e]) (by omega) (by omega) (by omega) (by omega) (by omega)
  · by_cases q : g.H = c.po
    · have e1 : rgS n g c = { g with H := c.po + 1 } := by simp [rgS, e, q]
      have e2 : acS n g c = { c with nx := 10, pl := c.po } := by simp [acS, e, q]
      have e3 : endE (acS n g c).nx = false := by rw [e2]; rfl
      rw [e1, e3, e2]
      exact ⟨val, PL, OL, h.claimH hr hn2 hc e q (by rw [ko (.inl e)]; decide), fun _ _ => rfl, .inr (.inr ⟨(by show (10 : Int) ≠ 1; decide), rfl, rfl⟩)⟩
    · exact sil _ (by simp [rgS, e, q]) rfl (by simp [acS, e, q]) (by simp [acS, e, q]) (by simp [acS, e, q]) (by simp [acS, e, q]) (by omega) (by omega)
  · have e1 : rgS n g c = { g with S := fun i => if i = c.pl % n then c.pl + n else g.S i } := by simp [rgS, e]
    have e2 : acS n g c = { c with nx := 1, pp := g.V (c.pl % n) } := by simp [acS, e]
    have e3 : endE (acS n g c).nx = true := by rw [e2]; rfl
    have t := hr.take j c hc e
    have := hr.le1
    rw [e1, if_pos e3, e2]
    exact ⟨val, PL, _, h.take hr hn2 hc e, fun _ _ => rfl, .inr (.inl ⟨rfl, ko (.inr e), rfl, rfl, h.a10 j c hc e, by omega⟩)⟩
end
end Go.Proofs.Ytbenpnecjmpcbaa
