/- A run: what was put and taken well, and when. -/
import Derived.Test.YtbenpnecjmpcbaaTk
namespace Go.Proofs.Ytbenpnecjmpcbaa
open Go.RowKit
set_option linter.unusedVariables false
set_option linter.unusedSimpArgs false
/-- Each pick with a value of its own: its number. -/
def ownQ (Q : Nat → Pk) (i : Nat) : Pk := { Q i with v := (i : Int) + 1 }
def isPush (d : Dn) : Bool := d.well && d.kind == 0
def isPop (d : Dn) : Bool := d.well && !(d.kind == 0)
theorem filter_snoc {f : Dn → Bool} (L : List Dn) (d : Dn) : (L ++ [d]).filter f = if f d = true then L.filter f ++ [d] else L.filter f := by
  rw [List.filter_append]
  by_cases h : f d = true
  · rw [if_pos h]; simp [h]
  · rw [if_neg h]; simp [h]
theorem map_same {val val' : Nat → Int} {L : List Nat} {T : Nat} (h : ∀ p, p < T → val' p = val p) (hL : ∀ p ∈ L, p < T) : L.map val' = L.map val := List.map_congr_left fun p hp => h p (hL p hp)
/-- No slot's number is below its own index. -/
def Lo (n : Nat) (g : Rg) : Prop := ∀ i, i < n → i ≤ g.S i
theorem Lo.step {n : Nat} {g : Rg} {ac : Nat → Option Ac} {j : Nat} {c : Ac} (h : Lo n g) (hr : RInv n g ac) (hc : ac j = some c) : Lo n (rgS n g c) := by
  intro i hi
  have hi0 := h i hi
  unfold rgS
  by_cases e4 : c.nx = 4
  · rw [if_pos e4]; split <;> exact hi0
  rw [if_neg e4]
  by_cases e9 : c.nx = 9
  · rw [if_pos e9]; split <;> exact hi0
  rw [if_neg e9]
  by_cases e5 : c.nx = 5
  · rw [if_pos e5]; exact hi0
  rw [if_neg e5]
  by_cases e6 : c.nx = 6
  · rw [if_pos e6]
    have := (hr.fill j c hc e6).2.2
    show i ≤ (if i = c.pl % n then c.pl + 1 else g.S i)
    split
    · next e => rw [← e] at this; omega
    · exact hi0
  rw [if_neg e6]
  by_cases e10 : c.nx = 10
  · rw [if_pos e10]
    have := (hr.take j c hc e10).2.2
    show i ≤ (if i = c.pl % n then c.pl + n else g.S i)
    split
    · next e => rw [← e] at this; omega
    · exact hi0
  rw [if_neg e10]
  exact hi0
structure OI (n k : Nat) (s : Ts) (val : Nat → Int) (PL OL : List Nat) : Prop where
  ci : CI n s.g s.ac s.K val PL OL
  lo : Lo n s.g
  nv : ∀ j c, s.ac j = some c → s.K j = 0 → (s.now j).v = c.pu
  ub : ∀ j c, s.ac j = some c → s.K j = 0 → 1 ≤ c.pu ∧ c.pu ≤ k
  uv : ∀ p, p < s.g.T → 1 ≤ val p ∧ val p ≤ k
  oP : (s.out.filter isPush).map Dn.v = PL.map val
  oO : (s.out.filter isPop).map Dn.v = OL.map val
  hi : ∀ j, 6 ≤ j → s.ac j = none
section
variable {n k : Nat} {s : Ts} {val : Nat → Int} {PL OL : List Nat}
theorem OI.begin_ (h : OI n k s val PL OL) (i : Nat) {j : Nat} (hj6 : j < 6) (hj : s.ac j = none) (d : Int) : OI n (k + 1) (tsBegin s i j d ((k : Int) + 1)) val PL OL := by
  have keep : ∀ {m : Int} {p : Nat}, (∃ l c, s.ac l = some c ∧ c.nx = m ∧ c.pl = p) → ∃ l c, upd s.ac j (some (tc0 d ((k : Int) + 1))) l = some c ∧ c.nx = m ∧ c.pl = p := by
    rintro m p ⟨l, c, h1, h2, h3⟩
    exact ⟨l, c, by rw [upd_ne _ _ (fun e => by subst e; rw [hj] at h1; cases h1)]; exact h1, h2, h3⟩
  have pu : tk0 d = 0 → (tc0 d ((k : Int) + 1)).pu = (k : Int) + 1 := by
    unfold tk0 tc0
    intro h
    split
    · rfl
    · next e => rw [if_neg e] at h; cases h
  have nx := tc0_nx d ((k : Int) + 1)
  have hci := h.ci
  refine ⟨⟨fun l a ha hn => ?_, hci.vf, fun l a ha hn => ?_, hci.pl, hci.ol, hci.pn, hci.on, fun p hp => (hci.pc p hp).imp id keep, fun p hp => (hci.oc p hp).imp id keep, hci.u2, fun l a ha hk hn p hp => ?_, fun x l a b hne ha hb hki hkl => ?_⟩, h.lo, fun l a ha hk => ?_, fun l a ha hk => ?_, fun p hp => by have := h.uv p hp; omega, h.oP, h.oO, fun l hl => ?_⟩
  · rcases upd_some ha with ⟨-, e⟩ | ⟨-, e⟩
    · cases e; omega
    · exact hci.a6 l a e hn
  · rcases upd_some ha with ⟨-, e⟩ | ⟨-, e⟩
    · cases e; omega
    · exact hci.a10 l a e hn
  · have hk' : upd s.K j (tk0 d) l = 0 := hk
    rcases upd_some ha with ⟨rfl, e⟩ | ⟨e0, e⟩
    · cases e
      rw [upd_at] at hk'
      rw [pu hk']
      have := h.uv p hp
      omega
    · rw [upd_ne _ _ e0] at hk'
      exact hci.u3 l a e hk' hn p hp
  · have hki' : upd s.K j (tk0 d) x = 0 := hki
    have hkl' : upd s.K j (tk0 d) l = 0 := hkl
    rcases upd_some ha with ⟨rfl, e⟩ | ⟨e0, e⟩
    · rcases upd_some hb with ⟨rfl, -⟩ | ⟨e1, e'⟩
      · exact absurd rfl hne
      · cases e
        rw [upd_at] at hki'
        rw [upd_ne _ _ e1] at hkl'
        rw [pu hki']
        have := h.ub l b e' hkl'
        omega
    · rcases upd_some hb with ⟨rfl, e'⟩ | ⟨e1, e'⟩
      · cases e'
        rw [upd_at] at hkl'
        rw [upd_ne _ _ e0] at hki'
        rw [pu hkl']
        have := h.ub x a e hki'
        omega
      · rw [upd_ne _ _ e0] at hki'
        rw [upd_ne _ _ e1] at hkl'
        exact hci.u4 x l a b hne e e' hki' hkl'
  · have hk' : upd s.K j (tk0 d) l = 0 := hk
    show (upd s.now j _ l).v = a.pu
    rcases upd_some ha with ⟨rfl, e⟩ | ⟨e0, e⟩
    · cases e
      rw [upd_at] at hk' ⊢
      exact (pu hk').symm
    · rw [upd_ne _ _ e0] at hk' ⊢
      exact h.nv l a e hk'
  · have hk' : upd s.K j (tk0 d) l = 0 := hk
    rcases upd_some ha with ⟨rfl, e⟩ | ⟨e0, e⟩
    · cases e
      rw [upd_at] at hk'
      rw [pu hk']
      omega
    · rw [upd_ne _ _ e0] at hk'
      have := h.ub l a e hk'
      omega
  · show upd s.ac j _ l = none
    rw [upd_ne _ _ (by omega)]
    exact h.hi l hl
theorem acS_pu (g : Rg) (c : Ac) : (acS n g c).pu = c.pu := by
  unfold acS
  repeat' split
  all_goals rfl
theorem OI.step_ (h : OI n k s val PL OL) (ok : TsOk n k s) (hk : k ≤ 200) (hn : 2 ≤ n) (i : Nat) {j : Nat} {c : Ac} (hc : s.ac j = some c) : ∃ val' PL' OL', OI n (k + 1) (tsStep n s i j c) val' PL' OL' ∧ (∀ p, p < s.g.T → val' p = val p) ∧ ((acS n s.g c).nx = 1 → s.K j = 0 → (acS n s.g c).pu = val' c.pl ∧ c.pl < s.g.T) ∧ ((acS n s.g c).nx = 1 → s.K j = 2 → (acS n s.g c).pp = val' c.pl ∧ c.pl < s.g.T) := by
  obtain ⟨kd1, kd2⟩ := ok.kd j c hc
  obtain ⟨val', PL', OL', hci, hv, hw⟩ := h.ci.step ok.inv hn hc kd2 (ok.ne j c hc).1
  have hw1 : (acS n s.g c).nx = 1 → s.K j = 0 → (acS n s.g c).pu = val' c.pl ∧ c.pl < s.g.T := fun e1 e2 => by
    rcases hw with ⟨w1, w2, w3, w4, w5, w6⟩ | ⟨w1, w2, w3, w4, w5, w6⟩ | ⟨w1, w3, w4⟩
    · exact ⟨w5, w6⟩
    · rw [w2] at e2; exact absurd e2 (by decide)
    · exact absurd e1 w1
  have hw2 : (acS n s.g c).nx = 1 → s.K j = 2 → (acS n s.g c).pp = val' c.pl ∧ c.pl < s.g.T := fun e1 e2 => by
    rcases hw with ⟨w1, w2, w3, w4, w5, w6⟩ | ⟨w1, w2, w3, w4, w5, w6⟩ | ⟨w1, w3, w4⟩
    · rw [w2] at e2; exact absurd e2 (by decide)
    · exact ⟨w5, w6⟩
    · exact absurd e1 w1
  have hlo := h.lo.step ok.inv hc
  have hj6 : ¬ 6 ≤ j := fun e => by rw [h.hi j e] at hc; cases hc
  have PLl : ∀ p ∈ PL, p < s.g.T := fun p hp => (h.ci.pl p hp).1
  have OLl : ∀ p ∈ OL, p < s.g.T := fun p hp => by have := (h.ci.ol p hp).1; have := ok.inv.le1; omega
  have uv' : ∀ p, p < (rgS n s.g c).T → 1 ≤ val' p ∧ val' p ≤ ((k + 1 : Nat) : Int) := by
    intro p hp
    rcases Nat.lt_or_ge p s.g.T with q | q
    · rw [hv p q]; have := h.uv p q; omega
    · -- the place that was claimed now
      have e4 : c.nx = 4 := by
        rcases Decidable.em (c.nx = 4) with e | e
        · exact e
        · exfalso
          have : (rgS n s.g c).T = s.g.T := by
            have h5 := ok.inv.no5 j c hc
            unfold rgS
            repeat' split
            all_goals first | rfl | (exfalso; omega)
          omega
      have e1 : s.g.T = c.po := by
        rcases Decidable.em (s.g.T = c.po) with e | e
        · exact e
        · exfalso
          have : (rgS n s.g c).T = s.g.T := by simp [rgS, e4, e]
          omega
      have hg' : rgS n s.g c = { s.g with T := c.po + 1 } := by simp [rgS, e4, e1]
      have ha' : acS n s.g c = { c with nx := 6, pl := c.po } := by simp [acS, e4, e1]
      have hp' : p = c.po := by rw [hg'] at hp; have : p < c.po + 1 := hp; omega
      have hK0 : s.K j = 0 := by rcases kd2 with ⟨h1, -, -⟩ | ⟨-, -, h⟩; exact h1; omega
      have h6 := hci.a6 j (acS n s.g c) (by rw [ha', show endE ({ c with nx := 6, pl := c.po } : Ac).nx = false from rfl]; exact upd_at _ _ _) (by rw [ha'])
      rw [acS_pu, ha'] at h6
      have h6' : c.pu = val' c.po := h6
      rw [hp', ← h6']
      have := h.ub j c hc hK0
      omega
  unfold tsStep
  by_cases he : endE (acS n s.g c).nx = true
  · rw [if_pos he] at hci ⊢
    refine ⟨val', PL', OL', ⟨hci, hlo, fun l a ha hkl => ?_, fun l a ha hkl => ?_, uv', ?_, ?_, fun l hl => ?_⟩, hv, hw1, hw2⟩
    · rcases upd_some ha with ⟨-, e⟩ | ⟨e0, e⟩
      · cases e
      · show (upd s.now j _ l).v = _
        rw [upd_ne _ _ e0]; exact h.nv l a e hkl
    · rcases upd_some ha with ⟨-, e⟩ | ⟨e0, e⟩
      · cases e
      · have := h.ub l a e hkl
        omega
    · show ((s.out ++ [_]).filter isPush).map Dn.v = _
      rw [filter_snoc]
      rcases hw with ⟨w1, w2, w3, w4, w5, w6⟩ | ⟨w1, w2, w3, w4, w5, w6⟩ | ⟨w1, w3, w4⟩
      · have : isPush (dnEnd i (acS n s.g c) (s.now j)) = true := by
          show (decide ((acS n s.g c).nx = 1) && (s.now j).kind == 0) = true
          rw [w1, kd1, w2]; rfl
        rw [if_pos this, w3, List.map_append, List.map_append, map_same hv PLl, h.oP]
        congr 1
        show [if (s.now j).kind = 2 then (acS n s.g c).pp else (s.now j).v] = [val' c.pl]
        rw [if_neg (by rw [kd1, w2]; decide), h.nv j c hc w2, ← w5, acS_pu]
      · have : ¬ isPush (dnEnd i (acS n s.g c) (s.now j)) = true := by
          show ¬ (decide ((acS n s.g c).nx = 1) && (s.now j).kind == 0) = true
          rw [w1, kd1, w2]; decide
        rw [if_neg this, w3, map_same hv PLl, h.oP]
      · have : ¬ isPush (dnEnd i (acS n s.g c) (s.now j)) = true := by
          show ¬ (decide ((acS n s.g c).nx = 1) && (s.now j).kind == 0) = true
          rw [decide_eq_false w1]; simp
        rw [if_neg this, w3, map_same hv PLl, h.oP]
    · show ((s.out ++ [_]).filter isPop).map Dn.v = _
      rw [filter_snoc]
      rcases hw with ⟨w1, w2, w3, w4, w5, w6⟩ | ⟨w1, w2, w3, w4, w5, w6⟩ | ⟨w1, w3, w4⟩
      · have : ¬ isPop (dnEnd i (acS n s.g c) (s.now j)) = true := by
          show ¬ (decide ((acS n s.g c).nx = 1) && !((s.now j).kind == 0)) = true
          rw [w1, kd1, w2]; decide
        rw [if_neg this, w4, map_same hv OLl, h.oO]
      · have : isPop (dnEnd i (acS n s.g c) (s.now j)) = true := by
          show (decide ((acS n s.g c).nx = 1) && !((s.now j).kind == 0)) = true
          rw [w1, kd1, w2]; rfl
        rw [if_pos this, w4, List.map_append, List.map_append, map_same hv OLl, h.oO]
        congr 1
        show [if (s.now j).kind = 2 then (acS n s.g c).pp else (s.now j).v] = [val' c.pl]
        rw [if_pos (by rw [kd1, w2]), w5]
      · have : ¬ isPop (dnEnd i (acS n s.g c) (s.now j)) = true := by
          show ¬ (decide ((acS n s.g c).nx = 1) && !((s.now j).kind == 0)) = true
          rw [decide_eq_false w1]; simp
        rw [if_neg this, w4, map_same hv OLl, h.oO]
    · show upd s.ac j _ l = none
      rw [upd_ne _ _ (by omega)]; exact h.hi l hl
  · rw [if_neg he] at hci ⊢
    have w1 : (acS n s.g c).nx ≠ 1 := fun e => he (by rw [e]; rfl)
    have hPO : PL' = PL ∧ OL' = OL := by
      rcases hw with ⟨x, -⟩ | ⟨x, -⟩ | ⟨-, x⟩
      · exact absurd x w1
      · exact absurd x w1
      · exact x
    obtain ⟨e3, e4⟩ := hPO
    refine ⟨val', PL', OL', ⟨hci, hlo, fun l a ha hkl => ?_, fun l a ha hkl => ?_, uv', by rw [e3, map_same hv PLl]; exact h.oP, by rw [e4, map_same hv OLl]; exact h.oO, fun l hl => ?_⟩, hv, hw1, hw2⟩
    · show (upd s.now j _ l).v = _
      rcases upd_some ha with ⟨rfl, e⟩ | ⟨e0, e⟩
      · cases e
        rw [upd_at, acS_pu, show (dnRe c (acS n s.g c) (s.now l)).v = (s.now l).v from by unfold dnRe; split <;> rfl]
        exact h.nv _ c hc hkl
      · rw [upd_ne _ _ e0]; exact h.nv l a e hkl
    · rcases upd_some ha with ⟨rfl, e⟩ | ⟨e0, e⟩
      · cases e
        rw [acS_pu]
        have := h.ub _ c hc hkl
        omega
      · have := h.ub l a e hkl
        omega
    · show upd s.ac j _ l = none
      rw [upd_ne _ _ (by omega)]; exact h.hi l hl
end
/-- When each place was claimed: a push claims (tT), a pop claims (tH). -/
structure TI (k : Nat) (s : Ts) (val : Nat → Int) (tT tH : Nat → Nat) : Prop where
  mT : ∀ p q, p < q → q < s.g.T → tT p < tT q
  mH : ∀ p q, p < q → q < s.g.H → tH p < tH q
  kT : ∀ p, p < s.g.T → tT p < k
  kH : ∀ p, p < s.g.H → tH p < k
  nb : ∀ j c, s.ac j = some c → (s.now j).b < k
  a6 : ∀ j c, s.ac j = some c → c.nx = 6 → (s.now j).b < tT c.pl
  a10 : ∀ j c, s.ac j = some c → c.nx = 10 → (s.now j).b < tH c.pl
  oP : ∀ d, d ∈ s.out → d.well = true → d.kind = 0 → ∃ p, p < s.g.T ∧ d.v = val p ∧ d.b < tT p ∧ (tT p : Int) ≤ d.e
  oO : ∀ d, d ∈ s.out → d.well = true → d.kind = 2 → ∃ p, p < s.g.H ∧ p < s.g.T ∧ d.v = val p ∧ d.b < tH p ∧ (tH p : Int) ≤ d.e
  ok : ∀ d, d ∈ s.out → d.kind = 0 ∨ d.kind = 2
section
variable {n k : Nat} {s : Ts} {val val' : Nat → Int} {PL OL : List Nat} {tT tH : Nat → Nat}
theorem TI.begin_ (h : TI k s val tT tH) {j : Nat} (hj : s.ac j = none) (d v : Int) : TI (k + 1) (tsBegin s k j d v) val tT tH := by
  have nx := tc0_nx d v
  refine ⟨h.mT, h.mH, fun p hp => Nat.lt_succ_of_lt (h.kT p hp), fun p hp => Nat.lt_succ_of_lt (h.kH p hp), fun l a ha => ?_, fun l a ha hn => ?_, fun l a ha hn => ?_, h.oP, h.oO, h.ok⟩
  · show (upd s.now j _ l).b < _
    rcases upd_some ha with ⟨rfl, e⟩ | ⟨e0, e⟩
    · rw [upd_at]; show (k : Int) < _; omega
    · rw [upd_ne _ _ e0]; have := h.nb l a e; omega
  · show (upd s.now j _ l).b < _
    rcases upd_some ha with ⟨rfl, e⟩ | ⟨e0, e⟩
    · cases e; omega
    · rw [upd_ne _ _ e0]; exact h.a6 l a e hn
  · show (upd s.now j _ l).b < _
    rcases upd_some ha with ⟨rfl, e⟩ | ⟨e0, e⟩
    · cases e; omega
    · rw [upd_ne _ _ e0]; exact h.a10 l a e hn
theorem dnRe_b (c c' : Ac) (x : Dn) : (dnRe c c' x).b = x.b := by
  unfold dnRe
  split <;> rfl
/-- An act that stands before its last step behind this one has claimed its place with it. -/
theorem claimed {n : Nat} {g : Rg} {K : Int} {c : Ac} (hk : AcK K c) (h2 : 2 ≤ c.nx) : ((acS n g c).nx = 6 → g.T ≤ (acS n g c).pl) ∧ ((acS n g c).nx = 10 → g.H ≤ (acS n g c).pl) := by
  have live : c.nx = 2 ∨ c.nx = 3 ∨ c.nx = 4 ∨ c.nx = 6 ∨ c.nx = 7 ∨ c.nx = 8 ∨ c.nx = 9 ∨ c.nx = 10 := by
    rcases hk with ⟨-, -, h⟩ | ⟨-, -, h⟩ <;> omega
  rcases live with e | e | e | e | e | e | e | e
  · rw [show (acS n g c).nx = 3 from by simp [acS, e]]
    exact ⟨fun q => absurd q (by decide), fun q => absurd q (by decide)⟩
  · rw [show (acS n g c).nx = lookE (g.S (c.po % n)) c.po 4 2 from by simp [acS, e]]
    rcases look_is (S := g.S (c.po % n)) (r := c.po) (x := 4) (y := 2) with ⟨e, -⟩ | ⟨e, -⟩ | ⟨e, -⟩ <;> rw [e] <;> exact ⟨fun q => absurd q (by decide), fun q => absurd q (by decide)⟩
  · by_cases q : g.T = c.po
    · rw [show acS n g c = { c with nx := 6, pl := c.po } from by simp [acS, e, q]]
      exact ⟨fun _ => Nat.le_of_eq q, fun x => absurd (show (6 : Int) = 10 from x) (by decide)⟩
    · rw [show (acS n g c).nx = 2 from by simp [acS, e, q]]
      exact ⟨fun q => absurd q (by decide), fun q => absurd q (by decide)⟩
  · rw [show (acS n g c).nx = 1 from by simp [acS, e]]
    exact ⟨fun q => absurd q (by decide), fun q => absurd q (by decide)⟩
  · rw [show (acS n g c).nx = 8 from by simp [acS, e]]
    exact ⟨fun q => absurd q (by decide), fun q => absurd q (by decide)⟩
  · rw [show (acS n g c).nx = lookE (g.S (c.po % n)) (c.po + 1) 9 7 from by simp [acS, e]]
    rcases look_is (S := g.S (c.po % n)) (r := c.po + 1) (x := 9) (y := 7) with ⟨e, -⟩ | ⟨e, -⟩ | ⟨e, -⟩ <;> rw [e] <;> exact ⟨fun q => absurd q (by decide), fun q => absurd q (by decide)⟩
  · by_cases q : g.H = c.po
    · rw [show acS n g c = { c with nx := 10, pl := c.po } from by simp [acS, e, q]]
      exact ⟨fun x => absurd (show (10 : Int) = 6 from x) (by decide), fun _ => Nat.le_of_eq q⟩
    · rw [show (acS n g c).nx = 7 from by simp [acS, e, q]]
      exact ⟨fun q => absurd q (by decide), fun q => absurd q (by decide)⟩
  · rw [show (acS n g c).nx = 1 from by simp [acS, e]]
    exact ⟨fun q => absurd q (by decide), fun q => absurd q (by decide)⟩
/-- A step of thread j's act at pick k: its claim, if it is one, is of time k. -/
theorem TI.step_ (h : TI k s val tT tH) (ok : TsOk n k s) (hn : 2 ≤ n) {j : Nat} {c : Ac} (hc : s.ac j = some c) (hv : ∀ p, p < s.g.T → val' p = val p)
    (nv : s.K j = 0 → (s.now j).v = c.pu) (hw1 : (acS n s.g c).nx = 1 → s.K j = 0 → (acS n s.g c).pu = val' c.pl ∧ c.pl < s.g.T) (hw2 : (acS n s.g c).nx = 1 → s.K j = 2 → (acS n s.g c).pp = val' c.pl ∧ c.pl < s.g.T) :
    ∃ tT' tH', TI (k + 1) (tsStep n s k j c) val' tT' tH' := by
  obtain ⟨kd1, kd2⟩ := ok.kd j c hc
  obtain ⟨-, gT, gH, g1⟩ := step_pays ok.inv hn hc kd2
  have hnb := h.nb j c hc
  have le1 := ok.inv.le1
  -- what was claimed now is claimed at k
  refine ⟨fun p => if p < s.g.T then tT p else k, fun p => if p < s.g.H then tH p else k, ?_⟩
  have hT1 : ∀ p, p < s.g.T → (if p < s.g.T then tT p else k) = tT p := fun p hp => if_pos hp
  have hH1 : ∀ p, p < s.g.H → (if p < s.g.H then tH p else k) = tH p := fun p hp => if_pos hp
  have gr : ((rgS n s.g c).T : Int) + (rgS n s.g c).H - (s.g.T + s.g.H) ≤ 1 := g1
  have oldP : ∀ d, d ∈ s.out → d.well = true → d.kind = 0 → ∃ p, p < (rgS n s.g c).T ∧ d.v = val' p ∧ d.b < ((if p < s.g.T then tT p else k : Nat) : Int) ∧ ((if p < s.g.T then tT p else k : Nat) : Int) ≤ d.e := fun d hd hw hk => by
    obtain ⟨p, p1, p2, p3, p4⟩ := h.oP d hd hw hk
    exact ⟨p, by omega, by rw [hv p p1]; exact p2, by rw [if_pos p1]; exact p3, by rw [if_pos p1]; exact p4⟩
  have oldO : ∀ d, d ∈ s.out → d.well = true → d.kind = 2 → ∃ p, p < (rgS n s.g c).H ∧ p < (rgS n s.g c).T ∧ d.v = val' p ∧ d.b < ((if p < s.g.H then tH p else k : Nat) : Int) ∧ ((if p < s.g.H then tH p else k : Nat) : Int) ≤ d.e := fun d hd hw hk => by
    obtain ⟨p, p1, p0, p2, p3, p4⟩ := h.oO d hd hw hk
    exact ⟨p, by omega, by omega, by rw [hv p p0]; exact p2, by rw [if_pos p1]; exact p3, by rw [if_pos p1]; exact p4⟩
  have mT' : ∀ p q, p < q → q < (rgS n s.g c).T → (if p < s.g.T then tT p else k) < (if q < s.g.T then tT q else k) := fun p q h1 h2 => by
    by_cases e : q < s.g.T
    · rw [if_pos (show p < s.g.T by omega), if_pos e]; exact h.mT p q h1 e
    · rw [if_pos (show p < s.g.T by omega), if_neg e]; exact h.kT p (by omega)
  have mH' : ∀ p q, p < q → q < (rgS n s.g c).H → (if p < s.g.H then tH p else k) < (if q < s.g.H then tH q else k) := fun p q h1 h2 => by
    by_cases e : q < s.g.H
    · rw [if_pos (show p < s.g.H by omega), if_pos e]; exact h.mH p q h1 e
    · rw [if_pos (show p < s.g.H by omega), if_neg e]; exact h.kH p (by omega)
  have kT' : ∀ p, p < (rgS n s.g c).T → (if p < s.g.T then tT p else k) < k + 1 := fun p hp => by
    by_cases e : p < s.g.T
    · rw [if_pos e]; exact Nat.lt_succ_of_lt (h.kT p e)
    · rw [if_neg e]; omega
  have kH' : ∀ p, p < (rgS n s.g c).H → (if p < s.g.H then tH p else k) < k + 1 := fun p hp => by
    by_cases e : p < s.g.H
    · rw [if_pos e]; exact Nat.lt_succ_of_lt (h.kH p e)
    · rw [if_neg e]; omega
  have far6 : ∀ l a, s.ac l = some a → a.nx = 6 → (s.now l).b < ((if a.pl < s.g.T then tT a.pl else k : Nat) : Int) := fun l a e hn => by
    rw [if_pos (ok.inv.fill l a e hn).2.1]; exact h.a6 l a e hn
  have far10 : ∀ l a, s.ac l = some a → a.nx = 10 → (s.now l).b < ((if a.pl < s.g.H then tH a.pl else k : Nat) : Int) := fun l a e hn => by
    rw [if_pos (ok.inv.take l a e hn).1]; exact h.a10 l a e hn
  unfold tsStep
  by_cases he : endE (acS n s.g c).nx = true
  · rw [if_pos he]
    refine ⟨mT', mH', kT', kH', fun l a ha => ?_, fun l a ha hn => ?_, fun l a ha hn => ?_, fun d hd hw hk => ?_, fun d hd hw hk => ?_, fun d hd => ?_⟩
    · show (upd s.now j _ l).b < _
      rcases upd_some ha with ⟨-, e⟩ | ⟨e0, e⟩
      · cases e
      · rw [upd_ne _ _ e0]; have := h.nb l a e; omega
    · show (upd s.now j _ l).b < _
      rcases upd_some ha with ⟨-, e⟩ | ⟨e0, e⟩
      · cases e
      · rw [upd_ne _ _ e0]; exact far6 l a e hn
    · show (upd s.now j _ l).b < _
      rcases upd_some ha with ⟨-, e⟩ | ⟨e0, e⟩
      · cases e
      · rw [upd_ne _ _ e0]; exact far10 l a e hn
    · have hd' : d ∈ s.out ++ [dnEnd k (acS n s.g c) (s.now j)] := hd
      rcases List.mem_append.1 hd' with hm | hm
      · exact oldP d hm hw hk
      · rw [List.mem_singleton.1 hm] at hw hk ⊢
        have w1 : (acS n s.g c).nx = 1 := of_decide_eq_true hw
        have k0 : s.K j = 0 := by rw [← kd1]; exact hk
        obtain ⟨x1, x2⟩ := hw1 w1 k0
        have c6 : c.nx = 6 := by
          rcases kd2 with ⟨-, -, q⟩ | ⟨q, -, -⟩
          · rcases q with q | q | q | q | q | q
            · have := (ok.ne j c hc).1; omega
            · have := (ok.ne j c hc).1; omega
            · rw [show (acS n s.g c).nx = 3 from by simp [acS, q]] at w1; exact absurd w1 (by decide)
            · rw [show (acS n s.g c).nx = lookE (s.g.S (c.po % n)) c.po 4 2 from by simp [acS, q]] at w1
              rcases look_is (S := s.g.S (c.po % n)) (r := c.po) (x := 4) (y := 2) with ⟨e, -⟩ | ⟨e, -⟩ | ⟨e, -⟩ <;> rw [e] at w1 <;> exact absurd w1 (by decide)
            · by_cases e : s.g.T = c.po
              · rw [show (acS n s.g c).nx = 6 from by simp [acS, q, e]] at w1; exact absurd w1 (by decide)
              · rw [show (acS n s.g c).nx = 2 from by simp [acS, q, e]] at w1; exact absurd w1 (by decide)
            · exact q
          · rw [k0] at q; exact absurd q (by decide)
        refine ⟨c.pl, by show _ < (rgS n s.g c).T; omega, ?_, ?_, ?_⟩
        · show (if (s.now j).kind = 2 then (acS n s.g c).pp else (s.now j).v) = _
          rw [if_neg (by rw [kd1, k0]; decide), nv k0, ← x1, acS_pu]
        · exact far6 j c hc c6
        · show ((if c.pl < s.g.T then tT c.pl else k : Nat) : Int) ≤ (k : Int)
          rw [if_pos x2]; have := h.kT _ x2; omega
    · have hd' : d ∈ s.out ++ [dnEnd k (acS n s.g c) (s.now j)] := hd
      rcases List.mem_append.1 hd' with hm | hm
      · exact oldO d hm hw hk
      · rw [List.mem_singleton.1 hm] at hw hk ⊢
        have w1 : (acS n s.g c).nx = 1 := of_decide_eq_true hw
        have k0 : s.K j = 2 := by rw [← kd1]; exact hk
        obtain ⟨x1, x2⟩ := hw2 w1 k0
        have c10 : c.nx = 10 := by
          rcases kd2 with ⟨q, -, -⟩ | ⟨-, -, q⟩
          · rw [k0] at q; exact absurd q (by decide)
          · rcases q with q | q | q | q | q | q
            · have := (ok.ne j c hc).1; omega
            · have := (ok.ne j c hc).1; omega
            · rw [show (acS n s.g c).nx = 8 from by simp [acS, q]] at w1; exact absurd w1 (by decide)
            · rw [show (acS n s.g c).nx = lookE (s.g.S (c.po % n)) (c.po + 1) 9 7 from by simp [acS, q]] at w1
              rcases look_is (S := s.g.S (c.po % n)) (r := c.po + 1) (x := 9) (y := 7) with ⟨e, -⟩ | ⟨e, -⟩ | ⟨e, -⟩ <;> rw [e] at w1 <;> exact absurd w1 (by decide)
            · by_cases e : s.g.H = c.po
              · rw [show (acS n s.g c).nx = 10 from by simp [acS, q, e]] at w1; exact absurd w1 (by decide)
              · rw [show (acS n s.g c).nx = 7 from by simp [acS, q, e]] at w1; exact absurd w1 (by decide)
            · exact q
        have x3 := (ok.inv.take j c hc c10).1
        refine ⟨c.pl, by show _ < (rgS n s.g c).H; omega, by show _ < (rgS n s.g c).T; omega, ?_, ?_, ?_⟩
        · show (if (s.now j).kind = 2 then (acS n s.g c).pp else (s.now j).v) = _
          rw [if_pos (by rw [kd1, k0]), ← x1]
        · exact far10 j c hc c10
        · show ((if c.pl < s.g.H then tH c.pl else k : Nat) : Int) ≤ (k : Int)
          rw [if_pos x3]; have := h.kH _ x3; omega
    · have hd' : d ∈ s.out ++ [dnEnd k (acS n s.g c) (s.now j)] := hd
      rcases List.mem_append.1 hd' with hm | hm
      · exact h.ok d hm
      · rw [List.mem_singleton.1 hm]
        show (s.now j).kind = 0 ∨ (s.now j).kind = 2
        rw [kd1]
        exact kd2.imp (fun q => q.1) (fun q => q.1)
  · rw [if_neg he]
    refine ⟨mT', mH', kT', kH', fun l a ha => ?_, fun l a ha hn => ?_, fun l a ha hn => ?_, oldP, oldO, h.ok⟩
    · show (upd s.now j _ l).b < _
      rcases upd_some ha with ⟨rfl, e⟩ | ⟨e0, e⟩
      · rw [upd_at, dnRe_b]; omega
      · rw [upd_ne _ _ e0]; have := h.nb l a e; omega
    · show (upd s.now j _ l).b < _
      rcases upd_some ha with ⟨rfl, e⟩ | ⟨e0, e⟩
      · cases e
        rw [upd_at, dnRe_b]
        -- it has claimed now
        have h6 : s.g.T ≤ (acS n s.g c).pl := (claimed kd2 (ok.ne _ c hc).1).1 hn
        show _ < ((if (acS n s.g c).pl < s.g.T then tT _ else k : Nat) : Int)
        rw [if_neg (by omega)]
        exact hnb
      · rw [upd_ne _ _ e0]; exact far6 l a e hn
    · show (upd s.now j _ l).b < _
      rcases upd_some ha with ⟨rfl, e⟩ | ⟨e0, e⟩
      · cases e
        rw [upd_at, dnRe_b]
        have h10 : s.g.H ≤ (acS n s.g c).pl := (claimed kd2 (ok.ne _ c hc).1).2 hn
        show _ < ((if (acS n s.g c).pl < s.g.H then tH _ else k : Nat) : Int)
        rw [if_neg (by omega)]
        exact hnb
      · rw [upd_ne _ _ e0]; exact far10 l a e hn
/-- FIRST IN, FIRST OUT: of two pushes of which one ended well before the other began, the first one's value isn't popped by a pop that began behind the end of the one that took the other's. -/
theorem fifo {s : Ts} (ci : CI n s.g s.ac s.K val PL OL) (h : TI k s val tT tH) {a b x y : Dn} (ha : a ∈ s.out) (hb : b ∈ s.out) (hx : x ∈ s.out) (hy : y ∈ s.out) (wa : a.well = true) (wb : b.well = true) (wx : x.well = true) (wy : y.well = true)
    (ka : a.kind = 0) (kb : b.kind = 0) (kx : x.kind = 2) (ky : y.kind = 2) (hab : a.e < b.b) (hxa : x.v = a.v) (hyb : y.v = b.v) : x.b ≤ y.e := by
  obtain ⟨pa, a1, a2, a3, a4⟩ := h.oP a ha wa ka
  obtain ⟨pb, b1, b2, b3, b4⟩ := h.oP b hb wb kb
  obtain ⟨px, x1, x0, x2, x3, x4⟩ := h.oO x hx wx kx
  obtain ⟨py, y1, y0, y2, y3, y4⟩ := h.oO y hy wy ky
  have e1 : px = pa := ci.u2 px pa x0 a1 (by rw [← x2, ← a2, hxa])
  have e2 : py = pb := ci.u2 py pb y0 b1 (by rw [← y2, ← b2, hyb])
  subst e1 e2
  have hlt : px < py := by
    rcases Nat.lt_or_ge px py with c | c
    · exact c
    · exfalso
      rcases Nat.eq_or_lt_of_le c with e | e
      · rw [e] at b3 b4; omega
      · have := h.mT py px e a1; omega
  have := h.mH px py hlt y1
  omega
end
theorem ts0_OI {n : Nat} (K : Nat → Int) : OI n 0 (ts0 (rg0 n) K) (fun _ => 0) [] [] := by
  refine ⟨⟨fun j c h => (by cases h), fun p h1 h2 => absurd h2 (Nat.not_lt_zero _), fun j c h => (by cases h), fun p h => (by cases h), fun p h => (by cases h), List.nodup_nil, List.nodup_nil, fun p h => absurd h (Nat.not_lt_zero _), fun p h => absurd h (Nat.not_lt_zero _), fun p q h => absurd h (Nat.not_lt_zero _), fun j c h => (by cases h), fun i j c d hne h => (by cases h)⟩, fun i hi => ?_, fun j c h => (by cases h), fun j c h => (by cases h), fun p h => absurd h (Nat.not_lt_zero _), rfl, rfl, fun j hj => rfl⟩
  show i ≤ (if i < n then i else 0)
  rw [if_pos hi]
  exact Nat.le_refl _
theorem ts0_TI {n : Nat} (K : Nat → Int) : TI 0 (ts0 (rg0 n) K) (fun _ => 0) (fun _ => 0) (fun _ => 0) :=
  ⟨fun p q _ h => absurd h (Nat.not_lt_zero _), fun p q _ h => absurd h (Nat.not_lt_zero _), fun p h => absurd h (Nat.not_lt_zero _), fun p h => absurd h (Nat.not_lt_zero _), fun j c h => (by cases h), fun j c h => (by cases h), fun j c h => (by cases h), fun d h => (by cases h), fun d h => (by cases h), fun d h => (by cases h)⟩
theorem tsRun_T {n : Nat} {Q : Nat → Pk} {s : Ts} (ok : TsOk n 0 s) (hn : 2 ≤ n) (h : ∃ val PL OL tT tH, OI n 0 s val PL OL ∧ TI 0 s val tT tH) : ∀ k, k ≤ 200 → ∃ val PL OL tT tH, OI n k (tsRun n (ownQ Q) k s) val PL OL ∧ TI k (tsRun n (ownQ Q) k s) val tT tH
  | 0, _ => h
  | k + 1, hk => by
    obtain ⟨val, PL, OL, tT, tH, ih, it⟩ := tsRun_T (Q := Q) ok hn h k (by omega)
    show ∃ val PL OL tT tH, OI n (k + 1) (tsPick n (tsRun n (ownQ Q) k s) k (((ownQ Q k).t.toNat) % 6) (ownQ Q k).d ((k : Int) + 1)) val PL OL ∧ TI (k + 1) (tsPick n (tsRun n (ownQ Q) k s) k (((ownQ Q k).t.toNat) % 6) (ownQ Q k).d ((k : Int) + 1)) val tT tH
    unfold tsPick
    cases hc : (tsRun n (ownQ Q) k s).ac ((ownQ Q k).t.toNat % 6) with
    | none => exact ⟨val, PL, OL, tT, tH, ih.begin_ k (Nat.mod_lt _ (by decide)) hc _, it.begin_ hc _ _⟩
    | some c =>
      obtain ⟨val', PL', OL', h1, h2, h3, h4⟩ := ih.step_ (tsRun_ok ok hn k) (by omega) hn k hc
      obtain ⟨tT', tH', h5⟩ := it.step_ (tsRun_ok ok hn k) hn hc h2 (ih.nv _ c hc) h3 h4
      exact ⟨val', PL', OL', tT', tH', h1, h5⟩
end Go.Proofs.Ytbenpnecjmpcbaa
