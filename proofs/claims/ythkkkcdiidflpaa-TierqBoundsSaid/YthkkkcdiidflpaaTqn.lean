/- A queue by tiers: handles that live, in a row of our own that grows. -/
import Derived.Test.YthkkkcdiidflpaaTqm
import Derived.Maps.AppendAt
namespace Go.Proofs.Ythkkkcdiidflpaa
open Go.ChangeShapes Go.WideShapes Go.RowKit
set_option linter.unusedVariables false
set_option linter.unusedSimpArgs false
theorem TqL.grown {w w' : World} {base q N n K hs : Nat} {s : Ts} {row : Option Nat} (h : TqL w base q N n K s) (he : w.cell? ⟨q, 4, none⟩ = some (.slice (some ⟨hs, 0, none⟩) n n)) (hg : w.grownBy w' row) (hrow : ∀ g, row = some g → g ≠ hs ∧ ∃ cs, Blk w g 41 cs) :
    TqL w' base q N n K s ∧ w'.cell? ⟨q, 4, none⟩ = some (.slice (some ⟨hs, 0, none⟩) n n) := by
  obtain ⟨⟨hs', sp, sc, sf, rp, ra, rb, hp, hb', A, h1, h2⟩, h3⟩ := h
  have e := h1.q4
  rw [he] at e
  injection e with e; injection e with e _ _; injection e with e; injection e with e
  subst e
  have hk : Kept (fun k => row = some k) w w' := ⟨hg.os, hg.tape, hg.output, hg.size, fun k hk hn => hg.block k hk (fun c => hn c.symm)⟩
  have ap : ∀ {g : Nat} {t : TypeId} {cs : Array Value}, Blk w g t cs → t ≠ 41 → ¬ row = some g := fun hb ht c => by
    obtain ⟨_, cs', hc⟩ := hrow _ c
    exact absurd rfl (hb.other hc ht)
  have h1' := h1
  obtain ⟨hd, i1, i2, i3, ⟨cs, bc, cz, cc⟩, i5⟩ := h1'
  obtain ⟨⟨c1, t1⟩, ⟨c2, t2⟩, ⟨c3, t3⟩⟩ := i2.types
  obtain ⟨_, ⟨c4, t4⟩, _⟩ := i3.types
  obtain ⟨cs1, bc1, _, _⟩ := i1.rows
  obtain ⟨cs2, bc2, _, _⟩ := i1.frees
  have hd' := hd.kept hk (ap hd (by decide))
  refine ⟨⟨⟨hs, sp, sc, sf, rp, ra, rb, hp, hb', A, ⟨hd', i1.kept hk (ap i1.head (by decide)) (ap bc1 (by decide)) (ap bc2 (by decide)), RowsAt.kept i2 hk (ap t1 (by decide)) (ap t2 (by decide)) (ap t3 (by decide)),
    i3.kept hk (fun g c hg => ap hg (by decide)) (fun g c hg => ap hg (by decide)) (ap t4 (by decide)), ⟨cs, bc.kept hk (fun c => (hrow _ c).1 rfl), cz, cc⟩, i5⟩, h2⟩, h3⟩, hd'.val (i := 4) rfl⟩
theorem OwH.blk {w : World} {base n : Nat} {v : Value} {K : Nat → Int} (h : OwH w base v n K) {g : Nat} (hg : v.ownBlock = some g) : ∃ cs, Blk w g 41 cs := by
  rcases h.2 with ⟨rfl, _⟩ | ⟨g', cap, cur, rfl, hb, hh, _⟩
  · simp [Value.ownBlock] at hg
  · have : g' = g := by simpa [Value.ownBlock] using hg
    subst this
    exact ⟨cur, hh⟩
theorem OwH.nil_ (w : World) (base : Nat) (K : Nat → Int) : OwH w base (.slice none 0 0) 0 K := World.ownsRow_nil _ _ _ _
theorem OwH.framed {w w' : World} {base q n l hs : Nat} {v : Value} {Z : Nat → Int} (h : OwH w base v l Z) (hf : Fr w w' q n) (he : w.cell? ⟨q, 4, none⟩ = some (.slice (some ⟨hs, 0, none⟩) n n)) (hne : ∀ g, v.ownBlock = some g → g ≠ hs) : OwH w' base v l Z := by
  refine ⟨h.1, ?_⟩
  rcases h.2 with h0 | ⟨g', cap, cur, rfl, hb, hg, h1, h2, h3, h4⟩
  · exact .inl h0
  · exact .inr ⟨g', cap, cur, rfl, hb, (hf.2 hs he).2 g' cur hg (hne g' (by simp [Value.ownBlock])), h1, h2, h3, h4⟩
theorem OwH.alloc {w : World} {base l : Nat} {v : Value} {Z : Nat → Int} (h : OwH w base v l Z) (o : Obj) : OwH (w.alloc o) base v l Z := World.ownsRow.alloc h o
theorem OwH.least {w : World} {base l : Nat} {v : Value} {Z : Nat → Int} (h : OwH w base v l Z) {g : Nat} (hg : v.ownBlock = some g) : base ≤ g ∧ g < w.heap.size := by
  rcases h.2 with ⟨rfl, _⟩ | ⟨g', cap, cur, rfl, hb, hh, _⟩
  · simp [Value.ownBlock] at hg
  · have : g' = g := by simpa [Value.ownBlock] using hg
    subst this
    exact ⟨hb, Blk.size (cs := cur) hh⟩
theorem wpList_apph {w : World} {ops : Array Oper} {rest : List Oper} {o : Oper} {ac : Act} {Q : Exit → Act → World → Prop} (hgd : o.guard = none) (s x : Operand)
    (ho : o.op = .call { callee := .builtin .append, args := #[s, x], argTypes := #[51, 51] })
    {base l g : Nat} {v : Value} {Z : Nat → Int} {z : Int} (hs : ac.eval s = v) (hx : ac.eval x = .slice (some ⟨g, 0, none⟩) 1 1) (hown : OwH w base v l Z) (hg : Blk w g 41 #[.int .u64 z]) (hl : l ≤ 100000) (hb : base ≤ w.heap.size)
    (h : ∀ v' w', OwH w' base v' (l + 1) (upH Z l z) → w.grownBy w' v.ownBlock → (v'.ownBlock = v.ownBlock ∨ v'.ownBlock = some w.heap.size) → wpList Try.prog ops Q rest (ac.put o.dst v') w') : wpList Try.prog ops Q (o :: rest) ac w := by
  obtain ⟨i, hi, hzz⟩ := Option.map_eq_some_iff.1 hdinfo
  simp only [Prod.mk.injEq] at hzz
  obtain ⟨hz0, hz1, hz2⟩ := hzz
  refine wpList_append_own_at w hgd s x 51 ho base 41 i (.int .u64 0) 1 8 Try.underlying51 hi hz0 hz1 hz2 rfl (by decide) v l (hdL Z l) hs hown ⟨g, 0, none⟩ 1 1 [.int .u64 z] hx rfl (fun j u hj => ?_) (fun u hu => by simp at hu; subst hu; rfl) (by unfold maxLen; omega) (by omega) hb ?_
  · match j, hj with
    | 0, hj => simp at hj; subst hj; exact hg.val rfl
  · intro v' w' h1 h2 _ h3
    refine h v' w' ?_ h2 h3
    have e : hdL Z l ++ [.int .u64 z] = hdL (upH Z l z) (l + 1) := by
      refine List.ext_getElem? fun i => ?_
      by_cases hi : i < l
      · rw [List.getElem?_append_left (by rw [hdL_len]; exact hi), hdL_get _ hi, hdL_get _ (by omega)]
        unfold upH; rw [if_neg (by omega)]
      · by_cases hi2 : i = l
        · subst hi2
          rw [List.getElem?_append_right (by rw [hdL_len]; exact Nat.le_refl _), hdL_len, hdL_get _ (by omega)]
          unfold upH; simp
        · rw [List.getElem?_eq_none (by simp [hdL_len]; omega), List.getElem?_eq_none (by rw [hdL_len]; omega)]
    rw [e] at h1
    exact h1
/-- Handles from place p on that live, and differ. -/
def Lives (n : Nat) (s : Ts) (p c : Nat) (Z : Nat → Int) : Prop :=
  (∀ i, p ≤ i → i < c → ∃ j, j < n ∧ s.T j = true ∧ s.H j = Z i) ∧ ∀ i i', p ≤ i → i < c → p ≤ i' → i' < c → Z i = Z i' → i = i'
section
variable {N n K m i c p : Nat} {s : Ts} {r : Rq} {Z : Nat → Int}
theorem Lives.put (h : Lives n s 0 c Z) (hv : TInv N n K s) (hm : s.m = m + 1) (hi : s.F m = i) : Lives n (putS s i m r) 0 (c + 1) (upH Z c (s.H i + 4294967296)) := by
  have hf := hv.free hm
  rw [hi] at hf
  have hne : ∀ j, s.T j = true → j ≠ i := fun j ht e => by rw [e, hf.2] at ht; cases ht
  have hnew : ∀ k, k < c → Z k ≠ s.H i + 4294967296 := fun k hk e => by
    obtain ⟨j, hj, ht, hh⟩ := h.1 k (Nat.zero_le _) hk
    have h1 := hv.hh j hj
    have h2 := hv.hh i hf.1
    have := hne j ht
    omega
  refine ⟨fun k _ hk => ?_, fun k k' _ hk _ hk' e => ?_⟩
  · by_cases d : k = c
    · subst d
      refine ⟨i, hf.1, by show (if i = i then true else s.T i) = true; rw [if_pos rfl], ?_⟩
      show (if i = i then s.H i + 4294967296 else s.H i) = upH Z k (s.H i + 4294967296) k
      unfold upH; rw [if_pos rfl, if_pos rfl]
    · obtain ⟨j, hj, ht, hh⟩ := h.1 k (Nat.zero_le _) (by omega)
      have := hne j ht
      refine ⟨j, hj, by show (if j = i then true else s.T j) = true; rw [if_neg this]; exact ht, ?_⟩
      show (if j = i then s.H i + 4294967296 else s.H j) = upH Z c (s.H i + 4294967296) k
      unfold upH; rw [if_neg this, if_neg d]; exact hh
  · unfold upH at e
    by_cases d : k = c <;> by_cases d' : k' = c
    · omega
    · rw [if_pos d, if_neg d'] at e; exact absurd e.symm (hnew k' (by omega))
    · rw [if_neg d, if_pos d'] at e; exact absurd e (hnew k (by omega))
    · rw [if_neg d, if_neg d'] at e; exact h.2 k k' (Nat.zero_le _) (by omega) (Nat.zero_le _) (by omega) e
theorem Lives.tak (h : Lives n s p c Z) (hi : i < n) (ht : s.T i = true) (hz : s.H i = Z p) (hp : p < c) : Lives n (takS N s i) (p + 1) c Z := by
  refine ⟨fun k hk hkc => ?_, fun k k' hk hkc hk' hkc' e => h.2 k k' (by omega) hkc (by omega) hkc' e⟩
  obtain ⟨j, hj, htj, hh⟩ := h.1 k (by omega) hkc
  have hne : j ≠ i := fun e => by
    subst e
    have := h.2 p k (Nat.le_refl _) hp (by omega) hkc (hz.symm.trans hh)
    omega
  exact ⟨j, hj, by show (if j = i then false else s.T j) = true; rw [if_neg hne]; exact htj, hh⟩
theorem TInv.stale_ (h : TInv N n K s) (hi : i < n) : aliveB n (takS N s i).H (takS N s i).T (s.H i) = false := by
  have h1 := h.hh i hi
  unfold aliveB
  rw [show (s.H i % 4294967296).toNat = i by omega]
  have : (takS N s i).T i = false := by show (if i = i then false else s.T i) = false; rw [if_pos rfl]
  rw [this]; simp
theorem TInv.empty (h : TInv N n K s) (hm : s.m = n) (now : Int) : dueE now s.D = [] := by
  have : s.D = [] := by
    cases hD : s.D with
    | nil => rfl
    | cons e l =>
      obtain ⟨i, hi, ht, _⟩ := h.ds e (by rw [hD]; exact List.mem_cons_self ..)
      have := h.room hi ht
      omega
  rw [this]; rfl
end
end Go.Proofs.Ythkkkcdiidflpaa
