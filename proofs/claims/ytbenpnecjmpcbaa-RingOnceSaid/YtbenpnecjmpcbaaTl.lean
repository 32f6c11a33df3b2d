/- A run, its rest, and what is in the ring then: what was put well, and what was taken well. -/
import Derived.Test.YtbenpnecjmpcbaaTk
namespace Go.Proofs.Ytbenpnecjmpcbaa
open Go.RowKit
set_option linter.unusedVariables false
set_option linter.unusedSimpArgs false
/-- Each pick with a value of its own: its number. -/
def ownQ (Q : Nat → Pk) (i : Nat) : Pk := { Q i with v := (i : Int) + 1 }
def isPush (d : Dn) : Bool := d.well && d.kind == 0
def isPop (d : Dn) : Bool := d.well && !(d.kind == 0)
theorem filter_snoc {f : Dn → Bool} (L : List Dn) (d : Dn) : (L ++ [d]).filter f = if f d = true then L.filter f ++ [d] else L.filter f := by
  rw [List.filter_append]
  by_cases h : f d = true
  · rw [if_pos h]; simp [h]
  · rw [if_neg h]; simp [h]
theorem map_same {val val' : Nat → Int} {L : List Nat} {T : Nat} (h : ∀ p, p < T → val' p = val p) (hL : ∀ p ∈ L, p < T) : L.map val' = L.map val := List.map_congr_left fun p hp => h p (hL p hp)
/-- No slot's number is below its own index. -/
def Lo (n : Nat) (g : Rg) : Prop := ∀ i, i < n → i ≤ g.S i
theorem Lo.step {n : Nat} {g : Rg} {ac : Nat → Option Ac} {j : Nat} {c : Ac} (h : Lo n g) (hr : RInv n g ac) (hc : ac j = some c) : Lo n (rgS n g c) := by
  intro i hi
  have hi0 := h i hi
  unfold rgS
  by_cases e4 : c.nx = 4
  · rw [if_pos e4]; split <;> exact hi0
  rw [if_neg e4]
  by_cases e9 : c.nx = 9
  · rw [if_pos e9]; split <;> exact hi0
  rw [if_neg e9]
  by_cases e5 : c.nx = 5
  · rw [if_pos e5]; exact hi0
  rw [if_neg e5]
  by_cases e6 : c.nx = 6
  · rw [if_pos e6]
    have := (hr.fill j c hc e6).2.2
    show i ≤ (if i = c.pl % n then c.pl + 1 else g.S i)
    split
    · next e => rw [← e] at this; omega
    · exact hi0
  rw [if_neg e6]
  by_cases e10 : c.nx = 10
  · rw [if_pos e10]
    have := (hr.take j c hc e10).2.2
    show i ≤ (if i = c.pl % n then c.pl + n else g.S i)
    split
    · next e => rw [← e] at this; omega
    · exact hi0
  rw [if_neg e10]
  exact hi0
structure OI (n k : Nat) (s : Ts) (val : Nat → Int) (PL OL : List Nat) : Prop where
  ci : CI n s.g s.ac s.K val PL OL
  lo : Lo n s.g
  nv : ∀ j c, s.ac j = some c → s.K j = 0 → (s.now j).v = c.pu
  ub : ∀ j c, s.ac j = some c → s.K j = 0 → 1 ≤ c.pu ∧ c.pu ≤ k
  uv : ∀ p, p < s.g.T → 1 ≤ val p ∧ val p ≤ k
  oP : (s.out.filter isPush).map Dn.v = PL.map val
  oO : (s.out.filter isPop).map Dn.v = OL.map val
  hi : ∀ j, 6 ≤ j → s.ac j = none
section
variable {n k : Nat} {s : Ts} {val : Nat → Int} {PL OL : List Nat}
theorem OI.begin_ (h : OI n k s val PL OL) (i : Nat) {j : Nat} (hj6 : j < 6) (hj : s.ac j = none) (d : Int) : OI n (k + 1) (tsBegin s i j d ((k : Int) + 1)) val PL OL := by
  have keep : ∀ {m : Int} {p : Nat}, (∃ l c, s.ac l = some c ∧ c.nx = m ∧ c.pl = p) → ∃ l c, upd s.ac j (some (tc0 d ((k : Int) + 1))) l = some c ∧ c.nx = m ∧ c.pl = p := by
    rintro m p ⟨l, c, h1, h2, h3⟩
    exact ⟨l, c, by rw [upd_ne _ _ (fun e => by subst e; rw [hj] at h1; cases h1)]; exact h1, h2, h3⟩
  have pu : tk0 d = 0 → (tc0 d ((k : Int) + 1)).pu = (k : Int) + 1 := by
    unfold tk0 tc0
    intro h
    split
    · rfl
    · next e => rw [if_neg e] at h; cases h
  have nx := tc0_nx d ((k : Int) + 1)
  have hci := h.ci
  refine ⟨⟨fun l a ha hn => ?_, hci.vf, fun l a ha hn => ?_, hci.pl, hci.ol, hci.pn, hci.on, fun p hp => (hci.pc p hp).imp id keep, fun p hp => (hci.oc p hp).imp id keep, hci.u2, fun l a ha hk hn p hp => ?_, fun x l a b hne ha hb hki hkl => ?_⟩, h.lo, fun l a ha hk => ?_, fun l a ha hk => ?_, fun p hp => by have := h.uv p hp; omega, h.oP, h.oO, fun l hl => ?_⟩
  · rcases upd_some ha with ⟨-, e⟩ | ⟨-, e⟩
    · cases e; omega
    · exact hci.a6 l a e hn
  · rcases upd_some ha with ⟨-, e⟩ | ⟨-, e⟩
    · cases e; omega
    · exact hci.a10 l a e hn
  · have hk' : upd s.K j (tk0 d) l = 0 := hk
    rcases upd_some ha with ⟨rfl, e⟩ | ⟨e0, e⟩
    · cases e
      rw [upd_at] at hk'
      rw [pu hk']
      have := h.uv p hp
      omega
    · rw [upd_ne _ _ e0] at hk'
      exact hci.u3 l a e hk' hn p hp
  · have hki' : upd s.K j (tk0 d) x = 0 := hki
    have hkl' : upd s.K j (tk0 d) l = 0 := hkl
    rcases upd_some ha with ⟨rfl, e⟩ | ⟨e0, e⟩
    · rcases upd_some hb with ⟨rfl, -⟩ | ⟨e1, e'⟩
      · exact absurd rfl hne
      · cases e
        rw [upd_at] at hki'
        rw [upd_ne _ _ e1] at hkl'
        rw [pu hki']
        have := h.ub l b e' hkl'
        omega
    · rcases upd_some hb with ⟨rfl, e'⟩ | ⟨e1, e'⟩
      · cases e'
        rw [upd_at] at hkl'
        rw [upd_ne _ _ e0] at hki'
        rw [pu hkl']
        have := h.ub x a e hki'
        omega
      · rw [upd_ne _ _ e0] at hki'
        rw [upd_ne _ _ e1] at hkl'
        exact hci.u4 x l a b hne e e' hki' hkl'
  · have hk' : upd s.K j (tk0 d) l = 0 := hk
    show (upd s.now j _ l).v = a.pu
    rcases upd_some ha with ⟨rfl, e⟩ | ⟨e0, e⟩
    · cases e
      rw [upd_at] at hk' ⊢
      exact (pu hk').symm
    · rw [upd_ne _ _ e0] at hk' ⊢
      exact h.nv l a e hk'
  · have hk' : upd s.K j (tk0 d) l = 0 := hk
    rcases upd_some ha with ⟨rfl, e⟩ | ⟨e0, e⟩
    · cases e
      rw [upd_at] at hk'
      rw [pu hk']
      omega
    · rw [upd_ne _ _ e0] at hk'
      have := h.ub l a e hk'
      omega
  · show upd s.ac j _ l = none
    rw [upd_ne _ _ (by omega)]
    exact h.hi l hl
theorem acS_pu (g : Rg) (c : Ac) : (acS n g c).pu = c.pu := by
  unfold acS
  repeat' split
  all_goals rfl
theorem OI.step_ (h : OI n k s val PL OL) (ok : TsOk n k s) (hk : k ≤ 200) (hn : 2 ≤ n) (i : Nat) {j : Nat} {c : Ac} (hc : s.ac j = some c) : ∃ val' PL' OL', OI n (k + 1) (tsStep n s i j c) val' PL' OL' := by
  obtain ⟨kd1, kd2⟩ := ok.kd j c hc
  obtain ⟨val', PL', OL', hci, hv, hw⟩ := h.ci.step ok.inv hn hc kd2 (ok.ne j c hc).1
  have hlo := h.lo.step ok.inv hc
  have hj6 : ¬ 6 ≤ j := fun e => by rw [h.hi j e] at hc; cases hc
  have PLl : ∀ p ∈ PL, p < s.g.T := fun p hp => (h.ci.pl p hp).1
  have OLl : ∀ p ∈ OL, p < s.g.T := fun p hp => by have := (h.ci.ol p hp).1; have := ok.inv.le1; omega
  have uv' : ∀ p, p < (rgS n s.g c).T → 1 ≤ val' p ∧ val' p ≤ ((k + 1 : Nat) : Int) := by
    intro p hp
    rcases Nat.lt_or_ge p s.g.T with q | q
    · rw [hv p q]; have := h.uv p q; omega
    · -- the place that was claimed now
      have e4 : c.nx = 4 := by
        rcases Decidable.em (c.nx = 4) with e | e
        · exact e
        · exfalso
          have : (rgS n s.g c).T = s.g.T := by
            have h5 := ok.inv.no5 j c hc
            unfold rgS
            repeat' split
            all_goals first | rfl | (exfalso; omega)
          omega
      have e1 : s.g.T = c.po := by
        rcases Decidable.em (s.g.T = c.po) with e | e
        · exact e
        · exfalso
          have : (rgS n s.g c).T = s.g.T := by simp [rgS, e4, e]
          omega
      have hg' : rgS n s.g c = { s.g with T := c.po + 1 } := by simp [rgS, e4, e1]
      have ha' : acS n s.g c = { c with nx := 6, pl := c.po } := by simp [acS, e4, e1]
      have hp' : p = c.po := by rw [hg'] at hp; have : p < c.po + 1 := hp; omega
      have hK0 : s.K j = 0 := by rcases kd2 with ⟨h1, -, -⟩ | ⟨-, -, h⟩; exact h1; omega
      have h6 := hci.a6 j (acS n s.g c) (by rw [ha', show endE ({ c with nx := 6, pl := c.po } : Ac).nx = false from rfl]; exact upd_at _ _ _) (by rw [ha'])
      rw [acS_pu, ha'] at h6
      have h6' : c.pu = val' c.po := h6
      rw [hp', ← h6']
      have := h.ub j c hc hK0
      omega
  unfold tsStep
  by_cases he : endE (acS n s.g c).nx = true
  · rw [if_pos he] at hci ⊢
    refine ⟨val', PL', OL', ⟨hci, hlo, fun l a ha hkl => ?_, fun l a ha hkl => ?_, uv', ?_, ?_, fun l hl => ?_⟩⟩
    · rcases upd_some ha with ⟨-, e⟩ | ⟨e0, e⟩
      · cases e
      · show (upd s.now j _ l).v = _
        rw [upd_ne _ _ e0]; exact h.nv l a e hkl
    · rcases upd_some ha with ⟨-, e⟩ | ⟨e0, e⟩
      · cases e
      · have := h.ub l a e hkl
        omega
    · show ((s.out ++ [_]).filter isPush).map Dn.v = _
      rw [filter_snoc]
      rcases hw with ⟨w1, w2, w3, w4, w5, w6⟩ | ⟨w1, w2, w3, w4, w5, w6⟩ | ⟨w1, w3, w4⟩
      · have : isPush (dnEnd i (acS n s.g c) (s.now j)) = true := by
          show (decide ((acS n s.g c).nx = 1) && (s.now j).kind == 0) = true
          rw [w1, kd1, w2]; rfl
        rw [if_pos this, w3, List.map_append, List.map_append, map_same hv PLl, h.oP]
        congr 1
        show [if (s.now j).kind = 2 then (acS n s.g c).pp else (s.now j).v] = [val' c.pl]
        rw [if_neg (by rw [kd1, w2]; decide), h.nv j c hc w2, ← w5, acS_pu]
      · have : ¬ isPush (dnEnd i (acS n s.g c) (s.now j)) = true := by
          show ¬ (decide ((acS n s.g c).nx = 1) && (s.now j).kind == 0) = true
          rw [w1, kd1, w2]; decide
        rw [if_neg this, w3, map_same hv PLl, h.oP]
      · have : ¬ isPush (dnEnd i (acS n s.g c) (s.now j)) = true := by
          show ¬ (decide ((acS n s.g c).nx = 1) && (s.now j).kind == 0) = true
          rw [decide_eq_false w1]; simp
        rw [if_neg this, w3, map_same hv PLl, h.oP]
    · show ((s.out ++ [_]).filter isPop).map Dn.v = _
      rw [filter_snoc]
      rcases hw with ⟨w1, w2, w3, w4, w5, w6⟩ | ⟨w1, w2, w3, w4, w5, w6⟩ | ⟨w1, w3, w4⟩
      · have : ¬ isPop (dnEnd i (acS n s.g c) (s.now j)) = true := by
          show ¬ (decide ((acS n s.g c).nx = 1) && !((s.now j).kind == 0)) = true
          rw [w1, kd1, w2]; decide
        rw [if_neg this, w4, map_same hv OLl, h.oO]
      · have : isPop (dnEnd i (acS n s.g c) (s.now j)) = true := by
          show (decide ((acS n s.g c).nx = 1) && !((s.now j).kind == 0)) = true
          rw [w1, kd1, w2]; rfl
        rw [if_pos this, w4, List.map_append, List.map_append, map_same hv OLl, h.oO]
        congr 1
        show [if (s.now j).kind = 2 then (acS n s.g c).pp else (s.now j).v] = [val' c.pl]
        rw [if_pos (by rw [kd1, w2]), w5]
      · have : ¬ isPop (dnEnd i (acS n s.g c) (s.now j)) = true := by
          show ¬ (decide ((acS n s.g c).nx = 1) && !((s.now j).kind == 0)) = true
          rw [decide_eq_false w1]; simp
        rw [if_neg this, w4, map_same hv OLl, h.oO]
    · show upd s.ac j _ l = none
      rw [upd_ne _ _ (by omega)]; exact h.hi l hl
  · rw [if_neg he] at hci ⊢
    have w1 : (acS n s.g c).nx ≠ 1 := fun e => he (by rw [e]; rfl)
    have hPO : PL' = PL ∧ OL' = OL := by
      rcases hw with ⟨x, -⟩ | ⟨x, -⟩ | ⟨-, x⟩
      · exact absurd x w1
      · exact absurd x w1
      · exact x
    obtain ⟨e3, e4⟩ := hPO
    refine ⟨val', PL', OL', ⟨hci, hlo, fun l a ha hkl => ?_, fun l a ha hkl => ?_, uv', by rw [e3, map_same hv PLl]; exact h.oP, by rw [e4, map_same hv OLl]; exact h.oO, fun l hl => ?_⟩⟩
    · show (upd s.now j _ l).v = _
      rcases upd_some ha with ⟨rfl, e⟩ | ⟨e0, e⟩
      · cases e
        rw [upd_at, acS_pu, show (dnRe c (acS n s.g c) (s.now l)).v = (s.now l).v from by unfold dnRe; split <;> rfl]
        exact h.nv _ c hc hkl
      · rw [upd_ne _ _ e0]; exact h.nv l a e hkl
    · rcases upd_some ha with ⟨rfl, e⟩ | ⟨e0, e⟩
      · cases e
        rw [acS_pu]
        have := h.ub _ c hc hkl
        omega
      · have := h.ub l a e hkl
        omega
    · show upd s.ac j _ l = none
      rw [upd_ne _ _ (by omega)]; exact h.hi l hl
end
end Go.Proofs.Ytbenpnecjmpcbaa
