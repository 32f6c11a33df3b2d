/- The rest, and what is in the ring at its end. -/
import Derived.Test.YtbenpnecjmpcbaaTl
namespace Go.Proofs.Ytbenpnecjmpcbaa
open Go.RowKit
set_option linter.unusedVariables false
set_option linter.unusedSimpArgs false
structure QI (n : Nat) (K : Nat → Int) (s : Rs) (P0 O0 : List Int) (val : Nat → Int) (PL OL : List Nat) : Prop where
  ci : CI n s.g s.ac K val PL OL
  lo : Lo n s.g
  ub : ∀ j c, s.ac j = some c → K j = 0 → 1 ≤ c.pu ∧ c.pu ≤ 200
  uv : ∀ p, p < s.g.T → 1 ≤ val p ∧ val p ≤ 200
  oP : P0 ++ s.push = PL.map val
  oO : O0 ++ s.pop = OL.map val
  hi : ∀ j, 6 ≤ j → s.ac j = none
section
variable {n b : Nat} {K : Nat → Int} {s : Rs} {P0 O0 : List Int} {val : Nat → Int} {PL OL : List Nat}
theorem QI.step_ (h : QI n K s P0 O0 val PL OL) (ok : RsOk n b K s) (hn : 2 ≤ n) {j : Nat} {c : Ac} (hc : s.ac j = some c) : ∃ val' PL' OL', QI n K (rsStep n K s j c) P0 O0 val' PL' OL' := by
  have kd2 := ok.kd j c hc
  obtain ⟨val', PL', OL', hci, hv, hw⟩ := h.ci.step ok.inv hn hc kd2 (ok.ne j c hc).1
  have hlo := h.lo.step ok.inv hc
  have hj6 : ¬ 6 ≤ j := fun e => by rw [h.hi j e] at hc; cases hc
  have PLl : ∀ p ∈ PL, p < s.g.T := fun p hp => (h.ci.pl p hp).1
  have OLl : ∀ p ∈ OL, p < s.g.T := fun p hp => by have := (h.ci.ol p hp).1; have := ok.inv.le1; omega
  have uv' : ∀ p, p < (rgS n s.g c).T → 1 ≤ val' p ∧ val' p ≤ 200 := by
    intro p hp
    rcases Nat.lt_or_ge p s.g.T with q | q
    · rw [hv p q]; exact h.uv p q
    · have e4 : c.nx = 4 := by
        rcases Decidable.em (c.nx = 4) with e | e
        · exact e
        · exfalso
          have : (rgS n s.g c).T = s.g.T := by
            have h5 := ok.inv.no5 j c hc
            unfold rgS
            repeat' split
            all_goals first | rfl | (exfalso; omega)
          omega
      have e1 : s.g.T = c.po := by
        rcases Decidable.em (s.g.T = c.po) with e | e
        · exact e
        · exfalso
          have : (rgS n s.g c).T = s.g.T := by simp [rgS, e4, e]
          omega
      have hg' : rgS n s.g c = { s.g with T := c.po + 1 } := by simp [rgS, e4, e1]
      have ha' : acS n s.g c = { c with nx := 6, pl := c.po } := by simp [acS, e4, e1]
      have hp' : p = c.po := by rw [hg'] at hp; have : p < c.po + 1 := hp; omega
      have hK0 : K j = 0 := by rcases kd2 with ⟨h1, -, -⟩ | ⟨-, -, h⟩; exact h1; omega
      have h6 := hci.a6 j (acS n s.g c) (by rw [ha', show endE ({ c with nx := 6, pl := c.po } : Ac).nx = false from rfl]; exact upd_at _ _ _) (by rw [ha'])
      rw [acS_pu, ha'] at h6
      have h6' : c.pu = val' c.po := h6
      rw [hp', ← h6']
      exact h.ub j c hc hK0
  unfold rsStep
  by_cases he : endE (acS n s.g c).nx = true
  · rw [if_pos he] at hci ⊢
    refine ⟨val', PL', OL', ⟨hci, hlo, fun l a ha hkl => ?_, uv', ?_, ?_, fun l hl => ?_⟩⟩
    · rcases upd_some ha with ⟨-, e⟩ | ⟨e0, e⟩
      · cases e
      · exact h.ub l a e hkl
    · show P0 ++ (if (acS n s.g c).nx = 1 ∧ ¬ K j = 2 then s.push ++ [(acS n s.g c).pu] else s.push) = _
      rcases hw with ⟨w1, w2, w3, w4, w5, w6⟩ | ⟨w1, w2, w3, w4, w5, w6⟩ | ⟨w1, w3, w4⟩
      · rw [if_pos ⟨w1, by rw [w2]; decide⟩, w3, List.map_append, map_same hv PLl, ← h.oP, w5, List.append_assoc]
        rfl
      · rw [if_neg (fun e => e.2 w2), w3, map_same hv PLl]; exact h.oP
      · rw [if_neg (fun e => w1 e.1), w3, map_same hv PLl]; exact h.oP
    · show O0 ++ (if (acS n s.g c).nx = 1 ∧ K j = 2 then s.pop ++ [(acS n s.g c).pp] else s.pop) = _
      rcases hw with ⟨w1, w2, w3, w4, w5, w6⟩ | ⟨w1, w2, w3, w4, w5, w6⟩ | ⟨w1, w3, w4⟩
      · rw [if_neg (fun e => by rw [w2] at e; exact absurd e.2 (by decide)), w4, map_same hv OLl]; exact h.oO
      · rw [if_pos ⟨w1, w2⟩, w4, List.map_append, map_same hv OLl, ← h.oO, w5, List.append_assoc]
        rfl
      · rw [if_neg (fun e => w1 e.1), w4, map_same hv OLl]; exact h.oO
    · show upd s.ac j _ l = none
      rw [upd_ne _ _ (by omega)]; exact h.hi l hl
  · rw [if_neg he] at hci ⊢
    have w1 : (acS n s.g c).nx ≠ 1 := fun e => he (by rw [e]; rfl)
    have hPO : PL' = PL ∧ OL' = OL := by
      rcases hw with ⟨x, -⟩ | ⟨x, -⟩ | ⟨-, x⟩
      · exact absurd x w1
      · exact absurd x w1
      · exact x
    obtain ⟨e3, e4⟩ := hPO
    refine ⟨val', PL', OL', ⟨hci, hlo, fun l a ha hkl => ?_, uv', by rw [e3, map_same hv PLl]; exact h.oP, by rw [e4, map_same hv OLl]; exact h.oO, fun l hl => ?_⟩⟩
    · rcases upd_some ha with ⟨rfl, e⟩ | ⟨e0, e⟩
      · cases e
        rw [acS_pu]
        exact h.ub _ c hc hkl
      · exact h.ub l a e hkl
    · show upd s.ac j _ l = none
      rw [upd_ne _ _ (by omega)]; exact h.hi l hl
theorem QI.go (h : ∃ val PL OL, QI n K s P0 O0 val PL OL) (ok : RsOk n b K s) (hn : 2 ≤ n) (j : Nat) : ∀ m, ∃ val PL OL, QI n K (rsGo n K j m s) P0 O0 val PL OL
  | 0 => h
  | m + 1 => by
    obtain ⟨val, PL, OL, ih⟩ := QI.go h ok hn j m
    unfold rsGo
    cases hc : (rsGo n K j m s).ac j with
    | none => exact ⟨val, PL, OL, ih⟩
    | some c => exact ih.step_ (rsGo_ok ok hn j m) hn hc
theorem QI.all (h : ∃ val PL OL, QI n K s P0 O0 val PL OL) (ok : RsOk n b K s) (hn : 2 ≤ n) : ∀ i, ∃ val PL OL, QI n K (rsAll n K i s) P0 O0 val PL OL
  | 0 => h
  | i + 1 => QI.go (QI.all h ok hn i) (rsAll_ok ok hn i) hn i 7
theorem rsStep_far {j l : Nat} {c : Ac} (hl : l ≠ j) : (rsStep n K s j c).ac l = s.ac l := by
  unfold rsStep
  split <;> exact upd_ne _ _ hl
theorem rsGo_far {j l : Nat} (hl : l ≠ j) : ∀ m, (rsGo n K j m s).ac l = s.ac l
  | 0 => rfl
  | m + 1 => by
    have ih := rsGo_far hl m
    unfold rsGo
    cases hc : (rsGo n K j m s).ac j with
    | none => exact ih
    | some c => exact (rsStep_far hl).trans ih
theorem rsGo_done (ok : RsOk n b K s) (hn : 2 ≤ n) (j : Nat) : (rsGo n K j 7 s).ac j = none := by
  cases hc : (rsGo n K j 7 s).ac j with
  | none => rfl
  | some c => have := rsGo_mu ok hn j 7 c hc; omega
theorem rsAll_done (ok : RsOk n b K s) (hn : 2 ≤ n) : ∀ i l, l < i → (rsAll n K i s).ac l = none
  | 0, l, h => absurd h (by omega)
  | i + 1, l, h => by
    show (rsGo n K i 7 (rsAll n K i s)).ac l = none
    by_cases e : l = i
    · subst e; exact rsGo_done (rsAll_ok ok hn l) hn l
    · rw [rsGo_far e]; exact rsAll_done ok hn i l (by omega)
/-- At the end nobody acts: the ring rests, and what was put is what was taken and what is in it. -/
theorem QI.end_ (h : QI n K s P0 O0 val PL OL) (ok : RsOk n b K s) (hn : 2 ≤ n) (h6 : ∀ j, j < 6 → s.ac j = none) :
    ∃ l, Rest n s.g l ∧ (O0 ++ s.pop ++ l).Perm (P0 ++ s.push) ∧ (P0 ++ s.push).Nodup ∧ ∀ v ∈ P0 ++ s.push, 1 ≤ v ∧ v ≤ 200 := by
  have hno : ∀ j, s.ac j = none := fun j => by
    rcases Nat.lt_or_ge j 6 with c | c
    · exact h6 j c
    · exact h.hi j c
  have le1 := ok.inv.le1
  have le2 := ok.inv.le2
  have pc : ∀ p, p < s.g.T → p ∈ PL := fun p hp => by
    rcases h.ci.pc p hp with e | ⟨j, c, e, -⟩
    · exact e
    · rw [hno j] at e; cases e
  have oc : ∀ p, p < s.g.H → p ∈ OL := fun p hp => by
    rcases h.ci.oc p hp with e | ⟨j, c, e, -⟩
    · exact e
    · rw [hno j] at e; cases e
  have sP : PL.Perm (List.range s.g.T) := (List.perm_ext_iff_of_nodup h.ci.pn List.nodup_range).2 fun p => ⟨fun e => List.mem_range.2 (h.ci.pl p e).1, fun e => pc p (List.mem_range.1 e)⟩
  have sO : OL.Perm (List.range s.g.H) := (List.perm_ext_iff_of_nodup h.ci.on List.nodup_range).2 fun p => ⟨fun e => List.mem_range.2 (h.ci.ol p e).1, fun e => oc p (List.mem_range.1 e)⟩
  have full : ∀ p, s.g.H ≤ p → p < s.g.T → s.g.S (p % n) = p + 1 := fun p h1 h2 => by
    have := (h.ci.pl p (pc p h2)).2
    rcases ok.inv.mid p h1 h2 with e | e <;> omega
  have free : ∀ p, s.g.T ≤ p → p < s.g.H + n → s.g.S (p % n) = p := fun p h1 h2 => by
    rcases ok.inv.out p h1 h2 with e | e
    · exact e
    · exfalso
      rcases Nat.lt_or_ge p n with c | c
      · have := h.lo (p % n) (Nat.mod_lt _ (by omega))
        rw [Nat.mod_eq_of_lt c] at this e
        omega
      · have hm : (p - n) % n = p % n := by
          have := Nat.add_mod_right (p - n) n
          rw [← this]
          congr 1
          omega
        have := (h.ci.ol (p - n) (oc (p - n) (by omega))).2
        rw [hm] at this
        omega
  refine ⟨(List.range (s.g.T - s.g.H)).map fun i => val (s.g.H + i), ⟨?_, ?_, fun k hk => ?_, fun k hk hk2 => ?_⟩, ?_, ?_, ?_⟩
  · simp; omega
  · simp; omega
  · simp at hk
    refine ⟨full _ (by omega) (by omega), ?_⟩
    rw [h.ci.vf (s.g.H + k) (by omega) (by omega) (full _ (by omega) (by omega))]
    simp
  · simp at hk
    exact free _ (by omega) (by omega)
  · rw [h.oO, h.oP]
    have e : List.range s.g.T = List.range s.g.H ++ (List.range (s.g.T - s.g.H)).map fun i => s.g.H + i := by
      rw [← List.range_add, show s.g.H + (s.g.T - s.g.H) = s.g.T by omega]
    have e2 : ((List.range (s.g.T - s.g.H)).map fun i => val (s.g.H + i)) = ((List.range (s.g.T - s.g.H)).map fun i => s.g.H + i).map val := by rw [List.map_map]; rfl
    rw [e2, ← List.map_append]
    refine List.Perm.map _ ?_
    refine List.Perm.trans ?_ sP.symm
    rw [e]
    exact List.Perm.append_right _ sO
  · rw [h.oP]
    refine List.pairwise_map.2 ?_
    refine List.Pairwise.imp_of_mem (fun {a b} ha hb hne e => hne ?_) h.ci.pn
    exact h.ci.u2 a b (h.ci.pl a ha).1 (h.ci.pl b hb).1 e
  · intro v hv
    rw [h.oP] at hv
    obtain ⟨p, hp, rfl⟩ := List.mem_map.1 hv
    exact h.uv p (h.ci.pl p hp).1
end
theorem ts0_OI {n : Nat} (K : Nat → Int) : OI n 0 (ts0 (rg0 n) K) (fun _ => 0) [] [] := by
  refine ⟨⟨fun j c h => (by cases h), fun p h1 h2 => absurd h2 (Nat.not_lt_zero _), fun j c h => (by cases h), fun p h => (by cases h), fun p h => (by cases h), List.nodup_nil, List.nodup_nil, fun p h => absurd h (Nat.not_lt_zero _), fun p h => absurd h (Nat.not_lt_zero _), fun p q h => absurd h (Nat.not_lt_zero _), fun j c h => (by cases h), fun i j c d hne h => (by cases h)⟩, fun i hi => ?_, fun j c h => (by cases h), fun j c h => (by cases h), fun p h => absurd h (Nat.not_lt_zero _), rfl, rfl, fun j hj => rfl⟩
  show i ≤ (if i < n then i else 0)
  rw [if_pos hi]
  exact Nat.le_refl _
theorem tsRun_O {n : Nat} {Q : Nat → Pk} {s : Ts} (ok : TsOk n 0 s) (hn : 2 ≤ n) (h : ∃ val PL OL, OI n 0 s val PL OL) : ∀ k, k ≤ 200 → ∃ val PL OL, OI n k (tsRun n (ownQ Q) k s) val PL OL
  | 0, _ => h
  | k + 1, hk => by
    obtain ⟨val, PL, OL, ih⟩ := tsRun_O (Q := Q) ok hn h k (by omega)
    show ∃ val PL OL, OI n (k + 1) (tsPick n (tsRun n (ownQ Q) k s) k (((ownQ Q k).t.toNat) % 6) (ownQ Q k).d ((k : Int) + 1)) val PL OL
    unfold tsPick
    cases hc : (tsRun n (ownQ Q) k s).ac ((ownQ Q k).t.toNat % 6) with
    | none => exact ⟨val, PL, OL, ih.begin_ k (Nat.mod_lt _ (by decide)) hc _⟩
    | some c => exact ih.step_ (tsRun_ok ok hn k) (by omega) hn k hc
theorem OI.rest {n k : Nat} {s : Ts} {val : Nat → Int} {PL OL : List Nat} (h : OI n k s val PL OL) (hk : k ≤ 200) : QI n s.K ⟨s.g, s.ac, [], []⟩ ((s.out.filter isPush).map Dn.v) ((s.out.filter isPop).map Dn.v) val PL OL :=
  ⟨h.ci, h.lo, fun j c hc hK => by have := h.ub j c hc hK; omega, fun p hp => by have := h.uv p hp; omega, by rw [List.append_nil]; exact h.oP, by rw [List.append_nil]; exact h.oO, h.hi⟩
end Go.Proofs.Ytbenpnecjmpcbaa
