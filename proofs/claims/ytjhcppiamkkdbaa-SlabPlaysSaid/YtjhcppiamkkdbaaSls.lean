/- Both slabs side by side, the handles that were told, and an act: the same calls of both. -/
import Derived.Test.YtjhcppiamkkdbaaSlr
import Derived.Lib.Hide
namespace Go.Proofs.Ytjhcppiamkkdbaa
open Go.RowKit
set_option linter.unusedVariables false
set_option linter.unusedSimpArgs false
/-- Where both lie. -/
structure Sn where
  (p c f n q g1 g2 g3 c1 c2 c3 : Nat)
/-- What the program's holds. -/
structure Sp where
  H : Nat → Int
  T : Nat → Bool
  R : Nat → Rq
  m : Nat
  F : Nat → Nat
/-- What the document's holds. -/
structure Sr where
  Q : Nat → Rq
  T : Nat → Bool
  U : Nat → Int
  l : List Nat
def u64s (l : List Int) : List Value := l.map fun i => Value.int .u64 i
structure Sd (w0 w : World) (B : Nat) (x : Sn) (s : Sp) (r : Sr) (tv : Value) (ts : List Int) (ga : Nat) (ac : Array Value) : Prop where
  s : SlabAt w x.p x.c x.f x.n s.H s.T s.R s.m s.F
  d : ∃ g4 o4 c4, RsB w x.q x.g1 x.g2 x.g3 g4 o4 x.n x.c1 x.c2 x.c3 c4 r.Q r.T r.U r.l ∧ w0.heap.size ≤ g4 ∧ g4 ≠ x.f
  lo : w0.heap.size ≤ x.p ∧ w0.heap.size ≤ x.c ∧ w0.heap.size ≤ x.f ∧ w0.heap.size ≤ x.q ∧ w0.heap.size ≤ x.g1 ∧ w0.heap.size ≤ x.g2 ∧ w0.heap.size ≤ x.g3
  hi : x.p < B ∧ x.c < B ∧ x.f < B ∧ x.q < B ∧ x.g1 < B ∧ x.g2 < B ∧ x.g3 < B
  t : w.ownsRow B 31 1 tv ts.length (u64s ts)
  a : Blk w ga 36 ac
  ga0 : B ≤ ga
  b : Below w0.heap.size w0 w
section
variable {w0 w w' : World} {B : Nat} {x : Sn} {s : Sp} {r : Sr} {tv : Value} {ts : List Int} {ga : Nat} {ac : Array Value}
theorem own_kept_ {own : Nat → Prop} {base size n : Nat} {e : TypeId} {v : Value} {xs : List Value} (h : w.ownsRow base e size v n xs) (hk : Kept own w w') (hn : ∀ g, base ≤ g → ¬ own g) : w'.ownsRow base e size v n xs := by
  refine ⟨h.1, ?_⟩
  rcases h.2 with h0 | ⟨g, cap, cur, hv, hb, hg, h1, h2, h3, h4⟩
  · exact .inl h0
  · exact .inr ⟨g, cap, cur, hv, hb, Blk.kept (t := e) hg hk (hn g hb), h1, h2, h3, h4⟩
theorem Sd.below (h : Sd w0 w B x s r tv ts ga ac) (hb : Below w.heap.size w w') : Sd w0 w' B x s r tv ts ga ac := by
  obtain ⟨h1, ⟨g4, o4, c4, h2, h2a, h2b⟩, h3, h4, h5, h6, h7, h8⟩ := h
  have hk : Kept (fun _ => False) w w' := Kept.of_below hb
  exact ⟨h1.kept hk id id id, ⟨g4, o4, c4, h2.below hb, h2a, h2b⟩, h3, h4, own_kept_ h5 hk fun _ _ => id, h6.kept hk id, h7, h8.trans (hb.mono h8.size)⟩
theorem Sd.same (h : Sd w0 w B x s r tv ts ga ac) {k : Nat} : Sd w0 (w.drewN k) B x s r tv ts ga ac := h.below (below_drewN_ (Below.refl _ _) k)
theorem Sd.apart (h : Sd w0 w B x s r tv ts ga ac) : (¬ (x.q = x.p ∨ x.q = x.c ∨ x.q = x.f)) ∧ (¬ (x.g1 = x.p ∨ x.g1 = x.c ∨ x.g1 = x.f)) ∧ (¬ (x.g2 = x.p ∨ x.g2 = x.c ∨ x.g2 = x.f)) ∧ ¬ (x.g3 = x.p ∨ x.g3 = x.c ∨ x.g3 = x.f) := by
  obtain ⟨g4, o4, c4, h2, -, -⟩ := h.d
  obtain ⟨hd, ⟨a1, b1, -⟩, ⟨a2, b2, -⟩, ⟨a3, b3, -⟩, -, -⟩ := h2
  exact ⟨h.s.apart hd (by decide) (by decide) (by decide), h.s.apart b1 (by decide) (by decide) (by decide), h.s.apart b2 (by decide) (by decide) (by decide), h.s.apart b3 (by decide) (by decide) (by decide)⟩
/-- A call of the program's. -/
theorem Sd.prog {s' : Sp} (h : Sd w0 w B x s r tv ts ga ac) (hs : SlabAt w' x.p x.c x.f x.n s'.H s'.T s'.R s'.m s'.F) (hk : Kept (fun g => g = x.p ∨ g = x.c ∨ g = x.f) w w') : Sd w0 w' B x s' r tv ts ga ac := by
  obtain ⟨n1, n2, n3, n4⟩ := h.apart
  obtain ⟨h1, ⟨g4, o4, c4, h2, h2a, h2b⟩, h3, h4, h5, h6, h7, h8⟩ := h
  have n5 : ¬ (g4 = x.p ∨ g4 = x.c ∨ g4 = x.f) := by
    obtain ⟨cs, b4, -⟩ := h2.r4
    obtain ⟨cc, bc, -⟩ := h1.rows
    rintro (e | e | e)
    · exact b4.other h1.head (by decide) e
    · exact b4.other bc (by decide) e
    · exact h2b e
  exact ⟨hs, ⟨g4, o4, c4, h2.kept hk n1 n2 n3 n4 n5, h2a, h2b⟩, h3, h4, own_kept_ h5 hk fun g hg => by omega, h6.kept hk (by omega), h7, h8.trans (hk.below (fun k e => by omega) h8.size)⟩
/-- A call of the document's. -/
theorem Sd.doc_ {r' : Sr} {g4 o4 c4 : Nat} {l : List Nat} (h : Sd w0 w B x s r tv ts ga ac) (h2 : RsB w x.q x.g1 x.g2 x.g3 g4 o4 x.n x.c1 x.c2 x.c3 c4 r.Q r.T r.U l) (h2a : w0.heap.size ≤ g4) (h2b : g4 ≠ x.f) (hr : Rs5 w w' x.q x.g1 x.g2 x.g3 g4 x.n x.c1 x.c2 x.c3 r'.Q r'.T r'.U r'.l) : Sd w0 w' B x s r' tv ts ga ac := by
  obtain ⟨n1, n2, n3, n4⟩ := h.apart
  obtain ⟨h1, -, h3, h4, h5, h6, h7, h8⟩ := h
  obtain ⟨g5, o5, c5, k1, k2, hk⟩ := hr
  have hl := h1.lts.2.2
  have h9 := h8.size
  have m1 : ¬ (x.p = x.q ∨ x.p = x.g1 ∨ x.p = x.g2 ∨ x.p = x.g3) := by
    rintro (e | e | e | e)
    · exact n1 (.inl e.symm)
    · exact n2 (.inl e.symm)
    · exact n3 (.inl e.symm)
    · exact n4 (.inl e.symm)
  have m2 : ¬ (x.c = x.q ∨ x.c = x.g1 ∨ x.c = x.g2 ∨ x.c = x.g3) := by
    rintro (e | e | e | e)
    · exact n1 (.inr (.inl e.symm))
    · exact n2 (.inr (.inl e.symm))
    · exact n3 (.inr (.inl e.symm))
    · exact n4 (.inr (.inl e.symm))
  have m3 : ¬ (x.f = x.q ∨ x.f = x.g1 ∨ x.f = x.g2 ∨ x.f = x.g3) := by
    rintro (e | e | e | e)
    · exact n1 (.inr (.inr e.symm))
    · exact n2 (.inr (.inr e.symm))
    · exact n3 (.inr (.inr e.symm))
    · exact n4 (.inr (.inr e.symm))
  clear n1 n2 n3 n4
  have j1 : w0.heap.size ≤ g5 := by rcases k2 with e | e <;> omega
  have j2 : g5 ≠ x.f := by rcases k2 with e | e <;> omega
  obtain ⟨z1, z2, z3, z4, z5, z6, z7⟩ := h3
  obtain ⟨y1, y2, y3, y4, y5, y6, y7⟩ := h4
  have far : ∀ g, B ≤ g → ¬ (g = x.q ∨ g = x.g1 ∨ g = x.g2 ∨ g = x.g3) := by
    rintro g hg (e | e | e | e) <;> omega
  have near : ∀ g, (g = x.q ∨ g = x.g1 ∨ g = x.g2 ∨ g = x.g3) → w0.heap.size ≤ g := by
    rintro g (e | e | e | e) <;> omega
  exact ⟨h1.kept hk m1 m2 m3, ⟨g5, o5, c5, k1, j1, j2⟩, ⟨z1, z2, z3, z4, z5, z6, z7⟩, ⟨y1, y2, y3, y4, y5, y6, y7⟩, own_kept_ h5 hk far, h6.kept hk (far ga h7), h7, h8.trans (hk.below near h9)⟩
/-- The document's: how many are taken. -/
theorem rlen_any {q g1 g2 g3 g4 o4 n c1 c2 c3 c4 : Nat} {Q : Nat → Rq} {T : Nat → Bool} {U : Nat → Int} {l : List Nat} (w : World) (hs : RsB w q g1 g2 g3 g4 o4 n c1 c2 c3 c4 Q T U l) (hn : n ≤ 1024) (hl : l.length ≤ n) :
    Calls Try.prog 14 #[.pointer (some ⟨q, 0, none⟩)] w fun e w' => ∃ k, w' = w.drewN k ∧ e = .returned (.int .i64 ((n : Int) - (l.length : Int))) := by
  have q0 := hs.p0
  have q1 := hs.p3
  obtain ⟨m, hm⟩ : ∃ m, l.length = m := ⟨_, rfl⟩
  rw [hm] at q1 hl ⊢
  clear hs hm
  go_enter Try.func14, Try.ntmps14
  go_wp2
  go_quiet (fail)
  go_wp2
  go_ret
  exact ⟨_, rfl, rfl⟩
/-- A handle more is told. -/
theorem Sd.tell {v' : Value} {i : Int} (h : Sd w0 w B x s r tv ts ga ac) (hg : w.grownBy w' tv.ownBlock) (ho : w'.ownsRow B 31 1 v' (ts.length + 1) (u64s ts ++ [.int .u64 i])) : Sd w0 w' B x s r v' (ts ++ [i]) ga ac := by
  obtain ⟨h1, ⟨g4, o4, c4, h2, h2a, h2b⟩, h3, h4, h5, h6, h7, h8⟩ := h
  obtain ⟨z1, z2, z3, z4, z5, z6, z7⟩ := h4
  have hrow : ∀ k, tv.ownBlock = some k → B ≤ k ∧ ∃ cs, Blk w k 31 cs := by
    intro k hk
    rcases h5.2 with ⟨e, _⟩ | ⟨g, cap, cur, rfl, hb, hg, _⟩
    · rw [e] at hk; simp [Value.ownBlock] at hk
    · simp [Value.ownBlock] at hk
      subst hk
      exact ⟨hb, cur, hg⟩
  have hk : Kept (fun k => tv.ownBlock = some k) w w' := (Kept.refl _ w).grown hg fun k e => .inl e
  have far : ∀ g, g < B → ¬ tv.ownBlock = some g := fun g hg e => by have := (hrow g e).1; omega
  have other : ∀ g t cs, Blk w g t cs → 31 ≠ t → ¬ tv.ownBlock = some g := fun g t cs hb ht e => by
    obtain ⟨_, cs', hb'⟩ := hrow g e
    exact hb'.other hb ht rfl
  have n4 : ¬ tv.ownBlock = some g4 := by
    obtain ⟨cs, b4, -⟩ := h2.r4
    exact other _ _ _ b4 (by decide)
  refine ⟨h1.kept hk (far _ z1) (far _ z2) (far _ z3), ⟨g4, o4, c4, h2.kept hk (far _ z4) (far _ z5) (far _ z6) (far _ z7) n4, h2a, h2b⟩, h3, ⟨z1, z2, z3, z4, z5, z6, z7⟩, ?_, h6.kept hk (other _ _ _ h6 (by decide)), h7, h8.trans (hk.below (fun k e => by have := (hrow k e).1; have := h3.1; omega) h8.size)⟩
  rw [List.length_append, u64s, List.map_append]
  exact ho
end
end Go.Proofs.Ytjhcppiamkkdbaa
