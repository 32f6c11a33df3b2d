/- The team: the ring on both sides, and each thread's act on both sides. -/
import Derived.Test.YtbenpnecjmpcbaaTm
import Derived.Test.YtbenpnecjmpcbaaTb
import Derived.Test.YtbenpnecjmpcbaaRnw
namespace Go.Proofs.Ytbenpnecjmpcbaa
open Go.RowKit
set_option linter.unusedVariables false
set_option linter.unusedSimpArgs false
/-- Where the team lies. -/
structure Ta where
  t : Nat
  r : Nat
  s : Nat
  q : Nat
  b : Nat
  d : Nat
  cb : Nat
  cd : Nat
  pa : Nat → Nat
  py : Nat → Nat
/-- A pointer to an act, if there is one. -/
def pt : Option Ac → Nat → Value
  | none, _ => .pointer none
  | some _, a => .pointer (some ⟨a, 0, none⟩)
/-- All blocks of the team's. -/
def TOwn (A : Ta) (ac : Nat → Option Ac) (k : Nat) : Prop := k = A.t ∨ k = A.r ∨ k = A.s ∨ k = A.q ∨ k = A.b ∨ k = A.d ∨ ∃ j, j < 6 ∧ ac j ≠ none ∧ (k = A.pa j ∨ k = A.py j)
structure TmAt (w : World) (B n : Nat) (A : Ta) (g : Rg) (ac : Nat → Option Ac) (K : Nat → Int) : Prop where
  row : ∃ cs, Blk w A.t 44 cs ∧ cs[0]? = some (.pointer (some ⟨A.r, 0, none⟩)) ∧ cs[1]? = some (.pointer (some ⟨A.q, 0, none⟩)) ∧ ∀ j, j < 6 → cs[2 + j]? = some (pt (ac j) (A.pa j)) ∧ cs[8 + j]? = some (pt (ac j) (A.py j))
  ring : RingAt w A.r A.s n g
  doc : XAt w A.q A.b A.d n A.cb A.cd g
  act : ∀ j c, j < 6 → ac j = some c → ActAt w (A.pa j) A.r c ∧ YOf w (A.py j) (K j) c ∧ AcK (K j) c
  apa : ∀ i j, i < 6 → j < 6 → i ≠ j → ac i ≠ none → ac j ≠ none → A.pa i ≠ A.pa j ∧ A.py i ≠ A.py j
  low : ∀ k, TOwn A ac k → B ≤ k
/-- How far the numbers have come. -/
structure TBd (k n : Nat) (g : Rg) (ac : Nat → Option Ac) : Prop where
  t : g.T ≤ k
  h : g.H ≤ k
  s : ∀ i, g.S i ≤ k + n
  po : ∀ j c, ac j = some c → c.po ≤ k ∧ c.pl ≤ k
theorem ne_some {α : Type} {x : Option α} {c : α} (h : x = some c) : x ≠ none := by rw [h]; exact Option.some_ne_none _
theorem TBd.step {k n : Nat} {g : Rg} {ac : Nat → Option Ac} (h : TBd k n g ac) {j : Nat} {c : Ac} (hc : ac j = some c) : TBd (k + 1) n (rgS n g c) (upd ac j (some (acS n g c))) := by
  obtain ⟨hp, hl⟩ := h.po j c hc
  have ht := h.t
  have hh := h.h
  have hg : (rgS n g c).T ≤ k + 1 ∧ (rgS n g c).H ≤ k + 1 ∧ ∀ i, (rgS n g c).S i ≤ k + 1 + n := by
    unfold rgS
    have hs : ∀ i, g.S i ≤ k + 1 + n := fun i => by have := h.s i; omega
    by_cases e4 : c.nx = 4
    · rw [if_pos e4]
      by_cases e : g.T = c.po
      · rw [if_pos e]; exact ⟨Nat.succ_le_succ hp, by show g.H ≤ _; omega, hs⟩
      · rw [if_neg e]; exact ⟨by omega, by omega, hs⟩
    rw [if_neg e4]
    by_cases e9 : c.nx = 9
    · rw [if_pos e9]
      by_cases e : g.H = c.po
      · rw [if_pos e]; exact ⟨by show g.T ≤ _; omega, Nat.succ_le_succ hp, hs⟩
      · rw [if_neg e]; exact ⟨by omega, by omega, hs⟩
    rw [if_neg e9]
    by_cases e5 : c.nx = 5
    · rw [if_pos e5]; exact ⟨Nat.succ_le_succ ht, by show g.H ≤ _; omega, hs⟩
    rw [if_neg e5]
    by_cases e6 : c.nx = 6
    · rw [if_pos e6]
      refine ⟨by show g.T ≤ _; omega, by show g.H ≤ _; omega, fun i => ?_⟩
      show (if i = c.pl % n then c.pl + 1 else g.S i) ≤ _
      have := hs i
      split <;> omega
    rw [if_neg e6]
    by_cases e10 : c.nx = 10
    · rw [if_pos e10]
      refine ⟨by show g.T ≤ _; omega, by show g.H ≤ _; omega, fun i => ?_⟩
      show (if i = c.pl % n then c.pl + n else g.S i) ≤ _
      have := hs i
      split <;> omega
    rw [if_neg e10]
    exact ⟨by omega, by omega, hs⟩
  refine ⟨hg.1, hg.2.1, hg.2.2, fun i a ha => ?_⟩
  rcases upd_some ha with ⟨-, e⟩ | ⟨-, e⟩
  · cases e
    have hz : (acS n g c).po ≤ k ∧ (acS n g c).pl ≤ k := by
      unfold acS
      repeat' split
      all_goals first | exact ⟨ht, hl⟩ | exact ⟨hh, hl⟩ | exact ⟨hp, hl⟩ | exact ⟨hp, hp⟩ | exact ⟨hp, ht⟩
    omega
  · have := h.po i a e
    omega
theorem TBd.put {k n : Nat} {g : Rg} {ac : Nat → Option Ac} (h : TBd k n g ac) (j : Nat) {x : Option Ac} (hx : ∀ c, x = some c → c.po ≤ k ∧ c.pl ≤ k) : TBd k n g (upd ac j x) :=
  ⟨h.t, h.h, h.s, fun i a ha => by
    rcases upd_some ha with ⟨-, e⟩ | ⟨-, e⟩
    · exact hx a e
    · exact h.po i a e⟩
theorem TBd.more {k k' n : Nat} {g : Rg} {ac : Nat → Option Ac} (h : TBd k n g ac) (hk : k ≤ k') : TBd k' n g ac :=
  ⟨Nat.le_trans h.t hk, Nat.le_trans h.h hk, fun i => by have := h.s i; omega, fun i a ha => by have := h.po i a ha; omega⟩
section
variable {w w' : World} {B n : Nat} {A : Ta} {g : Rg} {ac : Nat → Option Ac} {K : Nat → Int}
theorem TmAt.tb (h : TmAt w B n A g ac K) : ∃ cs, Blk w A.t 44 cs := by obtain ⟨cs, h1, -⟩ := h.row; exact ⟨cs, h1⟩
theorem TmAt.t0 (h : TmAt w B n A g ac K) : w.cell? ⟨A.t, 0, none⟩ = some (.pointer (some ⟨A.r, 0, none⟩)) := by obtain ⟨cs, h1, h2, -⟩ := h.row; exact h1.val h2
theorem TmAt.t1 (h : TmAt w B n A g ac K) : w.cell? ⟨A.t, 1, none⟩ = some (.pointer (some ⟨A.q, 0, none⟩)) := by obtain ⟨cs, h1, h2, h3, -⟩ := h.row; exact h1.val h3
theorem TmAt.ta (h : TmAt w B n A g ac K) {j : Nat} (hj : j < 6) : w.cell? ⟨A.t, 2 + j, none⟩ = some (pt (ac j) (A.pa j)) := by obtain ⟨cs, h1, h2, h3, h4⟩ := h.row; exact h1.val (h4 j hj).1
theorem TmAt.ty (h : TmAt w B n A g ac K) {j : Nat} (hj : j < 6) : w.cell? ⟨A.t, 8 + j, none⟩ = some (pt (ac j) (A.py j)) := by obtain ⟨cs, h1, h2, h3, h4⟩ := h.row; exact h1.val (h4 j hj).2
theorem TmAt.tz (h : TmAt w B n A g ac K) (k : Nat) : w.frozen? ⟨A.t, k, none⟩ = false := by obtain ⟨cs, h1⟩ := h.tb; exact h1.free k
theorem TmAt.lt (h : TmAt w B n A g ac K) : ∀ k, TOwn A ac k → k < w.heap.size := by
  intro k hk
  have ⟨l1, l2⟩ := h.ring.lts
  have ⟨l3, l4, l5⟩ := h.doc.lts
  rcases hk with rfl | rfl | rfl | rfl | rfl | rfl | ⟨j, hj, hc, e⟩
  · obtain ⟨cs, h1⟩ := h.tb; exact h1.size
  · exact l1
  · exact l2
  · exact l3
  · exact l4
  · exact l5
  · obtain ⟨c, hc'⟩ := Option.ne_none_iff_exists'.1 hc
    obtain ⟨h1, h2, -⟩ := h.act j c hj hc'
    rcases e with rfl | rfl
    · exact ActAt.size h1
    · exact Blk.size h2
/-- A block of another type is not the team's. -/
theorem TmAt.not_t (h : TmAt w B n A g ac K) {k : Nat} {T : TypeId} {cs : Array Value} (hb : Blk w k T cs) (h1 : T ≠ 44) (h2 : T ≠ 71) (h3 : T ≠ 73) (h4 : T ≠ 77) (h5 : T ≠ 33) (h6 : T ≠ 83) (h7 : T ≠ 61) : ¬ TOwn A ac k := by
  intro hk
  have ⟨a1, a2⟩ := h.ring.apart hb h2 h3
  have ⟨a3, a4, a5⟩ := h.doc.apart hb h4 h5
  rcases hk with e | e | e | e | e | e | ⟨j, hj, hc, e⟩
  · obtain ⟨cs', hb'⟩ := h.tb; exact hb.other hb' h1 e
  · exact a1 e
  · exact a2 e
  · exact a3 e
  · exact a4 e
  · exact a5 e
  · obtain ⟨c, hc'⟩ := Option.ne_none_iff_exists'.1 hc
    obtain ⟨c1, c2, -⟩ := h.act j c hj hc'
    rcases e with e | e
    · exact hb.other c1 h6 e
    · exact hb.other c2 h7 e
/-- What leaves the team's blocks alone leaves the team alone. -/
theorem TmAt.kept {own : Nat → Prop} (h : TmAt w B n A g ac K) (hk : Kept own w w') (hn : ∀ k, TOwn A ac k → ¬ own k) : TmAt w' B n A g ac K := by
  obtain ⟨cs, h1, h2⟩ := h.row
  refine ⟨⟨cs, h1.kept hk (hn _ (.inl rfl)), h2⟩, h.ring.kept hk (hn _ (.inr (.inl rfl))) (hn _ (.inr (.inr (.inl rfl)))), h.doc.kept hk (hn _ (.inr (.inr (.inr (.inl rfl))))) (hn _ (.inr (.inr (.inr (.inr (.inl rfl)))))) (hn _ (.inr (.inr (.inr (.inr (.inr (.inl rfl)))))))  , fun j c hj hc => ?_, h.apa, h.low⟩
  obtain ⟨c1, c2, c3⟩ := h.act j c hj hc
  exact ⟨c1.kept hk (hn _ (.inr (.inr (.inr (.inr (.inr (.inr ⟨j, hj, ne_some hc, .inl rfl⟩))))))), YAt.kept c2 hk (hn _ (.inr (.inr (.inr (.inr (.inr (.inr ⟨j, hj, ne_some hc, .inr rfl⟩))))))), c3⟩
theorem TmAt.drew_ (h : TmAt w B n A g ac K) : TmAt w.drew B n A g ac K := h.kept (own := fun _ => False) ((Kept.refl _ _).drew_) (fun _ _ => id)
theorem TmAt.alloc_ (h : TmAt w B n A g ac K) (o : Obj) : TmAt (w.alloc o) B n A g ac K := h.kept (own := fun _ => False) ((Kept.refl _ _).alloc_ o) (fun _ _ => id)
theorem TmAt.below {C : Nat} (h : TmAt w B n A g ac K) (hb : Below C w w') (hC : w.heap.size ≤ C) : TmAt w' B n A g ac K :=
  h.kept (own := fun k => C ≤ k) ⟨hb.os, hb.tape, hb.output, hb.size, fun k hk hn => hb.block k (by omega)⟩ (fun k hk => by have := h.lt k hk; omega)
theorem TmAt.far (h : TmAt w B n A g ac K) {p : Addr} (hp : ¬ TOwn A ac p.block) (u : Value) : TmAt (w.setCell p u) B n A g ac K :=
  h.kept (own := fun k => k = p.block) ((Kept.refl (fun k => k = p.block) w).set_ (.inl rfl) u) (fun k hk e => hp (e ▸ hk))
/-- A thread that has ended an act is idle. -/
theorem TmAt.clear (h : TmAt w B n A g ac K) {j : Nat} (hj : j < 6) : TmAt ((w.setCell ⟨A.t, 2 + j, none⟩ (.pointer none)).setCell ⟨A.t, 8 + j, none⟩ (.pointer none)) B n A g (upd ac j none) K := by
  obtain ⟨cs, h1, h2, h3, h4⟩ := h.row
  have low : ∀ k, TOwn A (upd ac j none) k → TOwn A ac k := by
    intro k hk
    rcases hk with e | e | e | e | e | e | ⟨i, hi, hc, e⟩
    · exact .inl e
    · exact .inr (.inl e)
    · exact .inr (.inr (.inl e))
    · exact .inr (.inr (.inr (.inl e)))
    · exact .inr (.inr (.inr (.inr (.inl e))))
    · exact .inr (.inr (.inr (.inr (.inr (.inl e)))))
    · refine .inr (.inr (.inr (.inr (.inr (.inr ⟨i, hi, ?_, e⟩)))))
      intro h0
      apply hc
      unfold upd
      split
      · rfl
      · exact h0
  have nt : ∀ {k : Nat} {T : TypeId} {ds : Array Value}, Blk w k T ds → T ≠ 44 → k ≠ A.t := fun hb hT => hb.other h1 hT
  have hk : Kept (fun k => k = A.t) w ((w.setCell ⟨A.t, 2 + j, none⟩ (.pointer none)).setCell ⟨A.t, 8 + j, none⟩ (.pointer none)) := ((Kept.refl (fun k => k = A.t) w).set_ (.inl rfl) _).set_ (.inl rfl) _
  have ⟨a1, a2⟩ := h.ring.apart h1 (by decide) (by decide)
  have ⟨a3, a4, a5⟩ := h.doc.apart h1 (by decide) (by decide)
  refine ⟨⟨_, (h1.set_ (2 + j) (.pointer none)).set_ (8 + j) (.pointer none), ?_, ?_, fun i hi => ?_⟩, h.ring.kept hk (fun e => a1 e.symm) (fun e => a2 e.symm), h.doc.kept hk (fun e => a3 e.symm) (fun e => a4 e.symm) (fun e => a5 e.symm), fun i c hi hc => ?_, fun i i' hi hi' hn hc hc' => ?_, fun k hk => h.low k (low k hk)⟩
  · rw [get_set_far (by omega), get_set_far (by omega)]; exact h2
  · rw [get_set_far (by omega), get_set_far (by omega)]; exact h3
  · obtain ⟨b1, b2⟩ := h4 i hi
    by_cases e : i = j
    · subst e
      have z : upd ac i none i = none := by unfold upd; simp
      rw [z]
      have s1 : 2 + i < cs.size := (Array.getElem?_eq_some_iff.1 b1).1
      have s2 : 8 + i < (cs.setIfInBounds (2 + i) (.pointer none)).size := by rw [Array.size_setIfInBounds]; exact (Array.getElem?_eq_some_iff.1 b2).1
      exact ⟨by rw [get_set_far (by omega), get_set_same s1]; rfl, by rw [get_set_same s2]; rfl⟩
    · have z : upd ac j none i = ac i := by unfold upd; simp [e]
      rw [z]
      exact ⟨by rw [get_set_far (by omega), get_set_far (by omega)]; exact b1, by rw [get_set_far (by omega), get_set_far (by omega)]; exact b2⟩
  · rcases upd_some hc with ⟨-, e⟩ | ⟨hne, e⟩
    · cases e
    · obtain ⟨c1, c2, c3⟩ := h.act i c hi e
      exact ⟨c1.kept hk (nt c1 (by decide)), YAt.kept c2 hk (nt c2 (by decide)), c3⟩
  · have f : ∀ {x}, upd ac j none x ≠ none → ac x ≠ none := by
      intro x hx h0
      apply hx
      unfold upd
      split
      · rfl
      · exact h0
    exact h.apa i i' hi hi' hn (f hc) (f hc')
/-- A thread that was idle begins an act. -/
theorem TmAt.begun (h : TmAt w B n A g ac K) {j : Nat} (hj : j < 6) (hj0 : ac j = none) (hB : B ≤ w.heap.size) {K0 : Int} {c : Ac} (hc : AcK K0 c) {cs : Array Value} (h1 : Blk w A.t 44 cs) (hg : Begun w A.t A.r j cs K0 c w') :
    ∃ A', A'.t = A.t ∧ TmAt w' B n A' g (upd ac j (some c)) (upd K j K0) ∧ Kept (TOwn A ac) w w' := by
  obtain ⟨a, y, ha, hy, hay, hca, hcy, hb, hk⟩ := hg
  obtain ⟨cs', h1', h2, h3, h4⟩ := h.row
  have ecs : cs' = cs := by
    have e : w.heap[A.t]? = some _ := h1
    have e' : w.heap[A.t]? = some _ := h1'
    rw [e] at e'
    cases e'
    rfl
  subst ecs
  have ⟨a1, a2⟩ := h.ring.apart h1 (by decide) (by decide)
  have ⟨a3, a4, a5⟩ := h.doc.apart h1 (by decide) (by decide)
  refine ⟨{ A with pa := upd A.pa j a, py := upd A.py j y }, rfl, ⟨⟨_, hb, ?_, ?_, fun i hi => ?_⟩, h.ring.kept hk (fun e => a1 e.symm) (fun e => a2 e.symm), h.doc.kept hk (fun e => a3 e.symm) (fun e => a4 e.symm) (fun e => a5 e.symm), fun i x hi hx => ?_, fun i i' hi hi' hn hx hx' => ?_, fun k hk => ?_⟩, hk.more (fun k _ e => .inl e)⟩
  · rw [get_set_far (by omega), get_set_far (by omega)]; exact h2
  · rw [get_set_far (by omega), get_set_far (by omega)]; exact h3
  · obtain ⟨b1, b2⟩ := h4 i hi
    by_cases e : i = j
    · subst e
      have s1 : 2 + i < cs'.size := (Array.getElem?_eq_some_iff.1 b1).1
      have s2 : 8 + i < (cs'.setIfInBounds (2 + i) (.pointer (some ⟨a, 0, none⟩))).size := by rw [Array.size_setIfInBounds]; exact (Array.getElem?_eq_some_iff.1 b2).1
      show _ = some (pt (upd ac i (some c) i) (upd A.pa i a i)) ∧ _ = some (pt (upd ac i (some c) i) (upd A.py i y i))
      rw [show upd ac i (some c) i = some c from by unfold upd; simp, show upd A.pa i a i = a from by unfold upd; simp, show upd A.py i y i = y from by unfold upd; simp]
      exact ⟨by rw [get_set_far (by omega), get_set_same s1]; rfl, by rw [get_set_same s2]; rfl⟩
    · show _ = some (pt (upd ac j (some c) i) (upd A.pa j a i)) ∧ _ = some (pt (upd ac j (some c) i) (upd A.py j y i))
      rw [show upd ac j (some c) i = ac i from by unfold upd; simp [e], show upd A.pa j a i = A.pa i from by unfold upd; simp [e], show upd A.py j y i = A.py i from by unfold upd; simp [e]]
      exact ⟨by rw [get_set_far (by omega), get_set_far (by omega)]; exact b1, by rw [get_set_far (by omega), get_set_far (by omega)]; exact b2⟩
  · rcases upd_some hx with ⟨rfl, e⟩ | ⟨e, e'⟩
    · cases e
      show ActAt w' (upd A.pa i a i) A.r c ∧ YOf w' (upd A.py i y i) (upd K i K0 i) c ∧ AcK (upd K i K0 i) c
      rw [show upd K i K0 i = K0 from by unfold upd; simp, show upd A.pa i a i = a from by unfold upd; simp, show upd A.py i y i = y from by unfold upd; simp]
      exact ⟨hca, hcy, hc⟩
    · obtain ⟨c1, c2, c3⟩ := h.act i x hi e'
      show ActAt w' (upd A.pa j a i) A.r x ∧ YOf w' (upd A.py j y i) (upd K j K0 i) x ∧ AcK (upd K j K0 i) x
      rw [show upd K j K0 i = K i from by unfold upd; simp [e], show upd A.pa j a i = A.pa i from by unfold upd; simp [e], show upd A.py j y i = A.py i from by unfold upd; simp [e]]
      exact ⟨c1.kept hk (c1.other h1 (by decide)), YAt.kept c2 hk (Blk.other c2 h1 (by decide)), c3⟩
  · show upd A.pa j a i ≠ upd A.pa j a i' ∧ upd A.py j y i ≠ upd A.py j y i'
    have lt := fun {x : Nat} (hx : x < 6) (hc : ac x ≠ none) => (⟨h.lt _ (.inr (.inr (.inr (.inr (.inr (.inr ⟨x, hx, hc, .inl rfl⟩)))))), h.lt _ (.inr (.inr (.inr (.inr (.inr (.inr ⟨x, hx, hc, .inr rfl⟩))))))⟩ : A.pa x < w.heap.size ∧ A.py x < w.heap.size)
    have f : ∀ {x}, x ≠ j → upd ac j (some c) x ≠ none → ac x ≠ none := by
      intro x hne hx h0
      apply hx
      unfold upd
      rw [if_neg hne]
      exact h0
    by_cases e : i = j
    · subst e
      have hi2 : i' ≠ i := fun e => hn e.symm
      have := lt hi' (f hi2 hx')
      rw [show upd A.pa i a i = a from by unfold upd; simp, show upd A.py i y i = y from by unfold upd; simp, show upd A.pa i a i' = A.pa i' from by unfold upd; simp [hi2], show upd A.py i y i' = A.py i' from by unfold upd; simp [hi2]]
      omega
    · by_cases e' : i' = j
      · subst e'
        have := lt hi (f e hx)
        rw [show upd A.pa i' a i' = a from by unfold upd; simp, show upd A.py i' y i' = y from by unfold upd; simp, show upd A.pa i' a i = A.pa i from by unfold upd; simp [e], show upd A.py i' y i = A.py i from by unfold upd; simp [e]]
        omega
      · rw [show upd A.pa j a i = A.pa i from by unfold upd; simp [e], show upd A.py j y i = A.py i from by unfold upd; simp [e], show upd A.pa j a i' = A.pa i' from by unfold upd; simp [e'], show upd A.py j y i' = A.py i' from by unfold upd; simp [e']]
        exact h.apa i i' hi hi' hn (f e hx) (f e' hx')
  · rcases hk with e | e | e | e | e | e | ⟨i, hi, hx, e⟩
    · exact h.low k (.inl e)
    · exact h.low k (.inr (.inl e))
    · exact h.low k (.inr (.inr (.inl e)))
    · exact h.low k (.inr (.inr (.inr (.inl e))))
    · exact h.low k (.inr (.inr (.inr (.inr (.inl e)))))
    · exact h.low k (.inr (.inr (.inr (.inr (.inr (.inl e))))))
    · have e' : k = upd A.pa j a i ∨ k = upd A.py j y i := e
      by_cases ei : i = j
      · subst ei
        rw [show upd A.pa i a i = a from by unfold upd; simp, show upd A.py i y i = y from by unfold upd; simp] at e'
        omega
      · rw [show upd A.pa j a i = A.pa i from by unfold upd; simp [ei], show upd A.py j y i = A.py i from by unfold upd; simp [ei]] at e'
        refine h.low k (.inr (.inr (.inr (.inr (.inr (.inr ⟨i, hi, ?_, e'⟩))))))
        intro h0
        apply hx
        unfold upd
        rw [if_neg ei]
        exact h0
end
end Go.Proofs.Ytbenpnecjmpcbaa
