/- A queue by tiers in memory: slab, rows, heap and handles side by side. -/
import Derived.Test.YtjkklcigmikleaaSlabb
import Derived.Test.YtjkklcigmikleaaDli
import Derived.Test.YtjkklcigmikleaaHpu
namespace Go.Proofs.Ytjkklcigmikleaa
open Go.ChangeShapes Go.WideShapes Go.RowKit
set_option linter.unusedVariables false
set_option linter.unusedSimpArgs false
/-- A heap whose blocks are named. -/
structure HeapB (w : World) (p b n : Nat) (A : Option Addr) (L : List En) : Prop where
  ex : ∃ m c E F, HeapIn w p b n A m c E F ∧ Ord m E ∧ AllL n F L
section
variable {w w' : World} {p b n : Nat} {A : Option Addr} {L : List En}
theorem HeapB.heapL (h : HeapB w p b n A L) : HeapL 0 w p n L := by
  obtain ⟨m, c, E, F, h4, h5, h6⟩ := h.ex
  exact ⟨b, A, m, c, E, F, h4, h5, h6, Nat.zero_le _, Nat.zero_le _, fun _ _ => Nat.zero_le _⟩
theorem HeapB.types (h : HeapB w p b n A L) : (∃ cs, Blk w p 117 cs) ∧ (∃ cs, Blk w b 3 cs) ∧ ∀ x, A = some x → ∃ cs, Blk w x.block 123 cs := by
  obtain ⟨m, c, E, F, h1, _⟩ := h.ex
  obtain ⟨P, h2, _⟩ := h1.at_
  obtain ⟨ps, bp, _⟩ := h2.place
  refine ⟨⟨_, h2.head⟩, ⟨_, bp⟩, fun x hx => ?_⟩
  rcases Nat.eq_zero_or_pos c with h0 | h0
  · rw [h1.nil_ h0] at hx; cases hx
  · obtain ⟨a, cs, ea, ba, _⟩ := h2.tree h0
    rw [ea] at hx; injection hx with hx; subst hx
    exact ⟨cs, ba⟩
theorem HeapB.kept {own : Nat → Prop} (h : HeapB w p b n A L) (hk : Kept own w w') (h1 : ∀ g cs, Blk w g 117 cs → ¬ own g) (h2 : ∀ g cs, Blk w g 123 cs → ¬ own g) (h3 : ¬ own b) : HeapB w' p b n A L := by
  obtain ⟨m, c, E, F, g1, g2⟩ := h.ex
  obtain ⟨P, ⟨hd, z1, z2, z3, ht, ⟨ps, bp, pz, pc⟩⟩, gl⟩ := g1.at_
  refine ⟨m, c, E, F, ⟨⟨P, ⟨hd.kept hk (h1 _ _ hd), z1, z2, z3, fun h0 => ?_, ⟨ps, bp.kept hk h3, pz, pc⟩⟩, gl⟩, g1.nil_, g1.cmax⟩, g2⟩
  obtain ⟨a, cs, e, ba, az, ac⟩ := ht h0
  exact ⟨a, cs, e, ba.kept hk (h2 _ _ ba), az, ac⟩
theorem HeapB.below (h : HeapB w p b n A L) (hb : Below w.heap.size w w') : HeapB w' p b n A L := h.kept (own := fun _ => False) (Kept.of_below hb) (fun _ _ _ => id) (fun _ _ _ => id) id
/-- The blocks that a call of the heap writes lie apart from those of other types. -/
theorem HeapB.apart {g : Nat} {t : TypeId} {cs : Array Value} (h : HeapB w p b n A L) (hb : Blk w g t cs) (h1 : t ≠ 117) (h2 : t ≠ 123) (h3 : g ≠ b) : ¬ hOwnP p b A g := by
  obtain ⟨⟨c1, t1⟩, _, t3⟩ := h.types
  rintro (e | e | ⟨x, hx, e⟩)
  · exact hb.other t1 h1 e
  · exact h3 e
  · obtain ⟨c3, u3⟩ := t3 x hx
    exact hb.other u3 h2 e.symm
theorem bnew_yes (n : Nat) (h1 : 1 ≤ n) (h2 : n ≤ 1024) (w : World) : Calls Try.prog 27 #[.int .i64 (n : Int)] w fun e w' => ∃ p b, e = .returned (.tuple #[.pointer (some ⟨p, 0, none⟩), .int .i64 0]) ∧ w.heap.size ≤ p ∧ w.heap.size ≤ b ∧ HeapB w' p b n none [] ∧ Below w.heap.size w w' := by
  refine (hnew_yes n h1 h2 w).mono ?_
  rintro e w' ⟨p, b, rfl, hp, hbb, h, hbe⟩
  exact ⟨p, b, rfl, hp, hbb, ⟨0, 0, _, _, h, fun k _ hk => absurd hk (by omega), AllL.empty n⟩, hbe⟩
theorem bput_new {i : Nat} (k t : Int) (hi : i < n) (hh : hasE (i : Int) L = false) (w : World) (h : HeapB w p b n A L) : Calls Try.prog 32 #[.pointer (some ⟨p, 0, none⟩), .int .i64 (i : Int), .int .i64 k, .int .u64 t] w fun e w' => e = .returned (.int .i64 0) ∧ ∃ A', HeapB w' p b n A' (insE ⟨k, t, i⟩ L) ∧ Kept (hOwnP p b A) w w' ∧ ∀ x, A' = some x → (∃ y, A = some y ∧ y.block = x.block) ∨ w.heap.size ≤ x.block := by
  obtain ⟨m, c, E, F, h1, h2, h3⟩ := h.ex
  have hF := h3.none_ hi hh
  refine (hput_new k t hi hF w h1 h2).mono ?_
  rintro e w' ⟨rfl, A', c', E', w2, h4, h5, k1, k2, h6⟩
  refine ⟨rfl, A', ⟨m + 1, c', E', _, h4, h5, h3.ins hi hF k t⟩, ⟨k2.os.trans k1.os, k2.tape.trans k1.tape, k2.output.trans k1.output, Nat.le_trans k1.size k2.size, fun g hg ho => ?_⟩, h6⟩
  refine (k2.block g (Nat.lt_of_lt_of_le hg k1.size) ?_).trans (k1.block g hg ho)
  rintro (e | ⟨x, hx, e⟩)
  · exact ho (.inr (.inl e))
  · rcases h6 x hx with ⟨y, hy, e2⟩ | h7
    · exact ho (.inr (.inr ⟨y, hy, e2.trans e⟩))
    · omega
theorem brem_yes {i : Nat} (hi : i < n) (hh : hasE (i : Int) L = true) (w : World) (h : HeapB w p b n A L) : Calls Try.prog 41 #[.pointer (some ⟨p, 0, none⟩), .int .i64 (i : Int)] w fun e w' => e = .returned (.int .i64 0) ∧ HeapB w' p b n A (remK (i : Int) L) ∧ Kept (hOwnP p b A) w w' := by
  obtain ⟨m, c, E, F, h1, h2, h3⟩ := h.ex
  obtain ⟨kt, hF⟩ := h3.some_ hi hh
  obtain ⟨P, h4, h5⟩ := h1.at_
  obtain ⟨q, hq, _⟩ := h5.get hi hF
  obtain ⟨m', rfl⟩ : ∃ m', m = m' + 1 := ⟨m - 1, by omega⟩
  refine (hrem_yes hi hF rfl w h1 h2).mono ?_
  rintro e w' ⟨rfl, E', h6, h7, k1⟩
  exact ⟨rfl, ⟨m', c, E', _, h6, h7, h3.rem hi⟩, k1⟩
end
theorem RowsL.types {w : World} {p a b N M : Nat} {L : Nat → List Nat} {ub : Int} (h : RowsL w p a b N M L ub) : (∃ cs, Blk w p 104 cs) ∧ (∃ cs, Blk w a 107 cs) ∧ ∃ cs, Blk w b 109 cs := by
  obtain ⟨E0, E1, C, W, B0, B1, U, ⟨a1, a2, a3, a4, a5, hd, ⟨cs, bc, cz, cc⟩, ⟨fs, bf, fz, ff⟩⟩, hr, hu⟩ := h
  exact ⟨⟨_, hd⟩, ⟨_, bc⟩, ⟨_, bf⟩⟩
theorem RowsL.apart {w : World} {p a b N M g : Nat} {L : Nat → List Nat} {ub : Int} {t : TypeId} {cs : Array Value} (h : RowsL w p a b N M L ub) (hb : Blk w g t cs) (h1 : t ≠ 107) (h2 : t ≠ 109) : ¬ (g = a ∨ g = b) := by
  obtain ⟨_, ⟨c1, t1⟩, ⟨c2, t2⟩⟩ := h.types
  rintro (e | e)
  · exact hb.other t1 h1 e
  · exact hb.other t2 h2 e
/-- The queue behind q in w: N tiers, n cells; the blocks of its slab, its rows, its heap, its handles; what they hold. -/
structure TqAt (w : World) (q hs sp sc sf rp ra rb hp hb : Nat) (A : Option Addr) (N n : Nat) (V H : Nat → Int) (T : Nat → Bool) (R : Nat → Rq) (m : Nat) (F : Nat → Nat) (L : Nat → List Nat) (ub : Int) (D : List En) : Prop where
  head : Blk w q 77 #[.int .i64 (N : Int), .pointer (some ⟨sp, 0, none⟩), .pointer (some ⟨rp, 0, none⟩), .pointer (some ⟨hp, 0, none⟩), .slice (some ⟨hs, 0, none⟩) n n]
  slab : SlabAt w sp sc sf n H T R m F
  rows : RowsL w rp ra rb N n L ub
  heap : HeapB w hp hb n A D
  hand : ∃ cs, Blk w hs 41 cs ∧ cs.size = n ∧ ∀ i, i < n → cs[i]? = some (.int .u64 (V i))
  ff : hb ≠ sf
section
variable {w w' : World} {q hs sp sc sf rp ra rb hp hb : Nat} {A A' : Option Addr} {N n m m' : Nat} {V H V' H' : Nat → Int} {T T' : Nat → Bool} {R R' : Nat → Rq} {F F' : Nat → Nat} {L L' : Nat → List Nat} {ub ub' : Int} {D D' : List En}
theorem TqAt.q0 (h : TqAt w q hs sp sc sf rp ra rb hp hb A N n V H T R m F L ub D) : w.cell? ⟨q, 0, none⟩ = some (.int .i64 (N : Int)) := h.head.val (i := 0) rfl
theorem TqAt.q1 (h : TqAt w q hs sp sc sf rp ra rb hp hb A N n V H T R m F L ub D) : w.cell? ⟨q, 1, none⟩ = some (.pointer (some ⟨sp, 0, none⟩)) := h.head.val (i := 1) rfl
theorem TqAt.q2 (h : TqAt w q hs sp sc sf rp ra rb hp hb A N n V H T R m F L ub D) : w.cell? ⟨q, 2, none⟩ = some (.pointer (some ⟨rp, 0, none⟩)) := h.head.val (i := 2) rfl
theorem TqAt.q3 (h : TqAt w q hs sp sc sf rp ra rb hp hb A N n V H T R m F L ub D) : w.cell? ⟨q, 3, none⟩ = some (.pointer (some ⟨hp, 0, none⟩)) := h.head.val (i := 3) rfl
theorem TqAt.q4 (h : TqAt w q hs sp sc sf rp ra rb hp hb A N n V H T R m F L ub D) : w.cell? ⟨q, 4, none⟩ = some (.slice (some ⟨hs, 0, none⟩) n n) := h.head.val (i := 4) rfl
theorem TqAt.h0 (h : TqAt w q hs sp sc sf rp ra rb hp hb A N n V H T R m F L ub D) {i : Nat} (hi : i < n) : w.cell? ⟨hs, i, none⟩ = some (.int .u64 (V i)) := by obtain ⟨cs, bc, _, cc⟩ := h.hand; exact bc.val (cc i hi)
theorem TqAt.zh (h : TqAt w q hs sp sc sf rp ra rb hp hb A N n V H T R m F L ub D) (i : Nat) : w.frozen? ⟨hs, i, none⟩ = false := by obtain ⟨cs, bc, _⟩ := h.hand; exact bc.free i
theorem TqAt.below (h : TqAt w q hs sp sc sf rp ra rb hp hb A N n V H T R m F L ub D) (hb' : Below w.heap.size w w') : TqAt w' q hs sp sc sf rp ra rb hp hb A N n V H T R m F L ub D := by
  obtain ⟨hd, h1, h2, h3, ⟨cs, bc, cz, cc⟩, h5⟩ := h
  have k := Kept.of_below (own := fun _ => False) hb'
  exact ⟨hd.kept k id, h1.kept k id id id, RowsAt.kept h2 k id id id, h3.below hb', ⟨cs, bc.kept k id, cz, cc⟩, h5⟩
theorem TqAt.drewN_ (h : TqAt w q hs sp sc sf rp ra rb hp hb A N n V H T R m F L ub D) (k : Nat) : TqAt (w.drewN k) q hs sp sc sf rp ra rb hp hb A N n V H T R m F L ub D := h.below (below_drewN_ (Below.refl _ _) k)
theorem TqAt.sizes (h : TqAt w q hs sp sc sf rp ra rb hp hb A N n V H T R m F L ub D) : q < w.heap.size ∧ hs < w.heap.size := by
  obtain ⟨cs, bc, _⟩ := h.hand
  exact ⟨h.head.size, bc.size⟩
/-- The slab has changed, and nothing else. -/
theorem TqAt.slabbed (h : TqAt w q hs sp sc sf rp ra rb hp hb A N n V H T R m F L ub D) (hk : Kept (fun g => g = sp ∨ g = sc ∨ g = sf) w w') (hn : SlabAt w' sp sc sf n H' T' R' m' F') : TqAt w' q hs sp sc sf rp ra rb hp hb A N n V H' T' R' m' F' L ub D := by
  obtain ⟨hd, h1, h2, h3, ⟨cs, bc, cz, cc⟩, h5⟩ := h
  obtain ⟨⟨c1, t1⟩, ⟨c2, t2⟩, ⟨c3, t3⟩⟩ := h2.types
  obtain ⟨_, ⟨c4, t4⟩, _⟩ := h3.types
  obtain ⟨cs1, bc1, _, _⟩ := h1.rows
  refine ⟨hd.kept hk (h1.apart hd (by decide) (by decide) (by decide)), hn, RowsAt.kept h2 hk (h1.apart t1 (by decide) (by decide) (by decide)) (h1.apart t2 (by decide) (by decide) (by decide)) (h1.apart t3 (by decide) (by decide) (by decide)),
    h3.kept hk (fun g c hg => h1.apart hg (by decide) (by decide) (by decide)) (fun g c hg => h1.apart hg (by decide) (by decide) (by decide)) ?_, ⟨cs, bc.kept hk (h1.apart bc (by decide) (by decide) (by decide)), cz, cc⟩, h5⟩
  rintro (e | e | e)
  · exact t4.other h1.head (by decide) e
  · exact t4.other bc1 (by decide) e
  · exact h5 e
/-- The rows have changed, and nothing else. -/
theorem TqAt.rowed (h : TqAt w q hs sp sc sf rp ra rb hp hb A N n V H T R m F L ub D) (hk : Kept (fun g => g = ra ∨ g = rb) w w') (hn : RowsL w' rp ra rb N n L' ub') : TqAt w' q hs sp sc sf rp ra rb hp hb A N n V H T R m F L' ub' D := by
  obtain ⟨hd, h1, h2, h3, ⟨cs, bc, cz, cc⟩, h5⟩ := h
  obtain ⟨_, ⟨c4, t4⟩, _⟩ := h3.types
  obtain ⟨cs1, bc1, _, _⟩ := h1.rows
  obtain ⟨cs2, bc2, _, _⟩ := h1.frees
  exact ⟨hd.kept hk (h2.apart hd (by decide) (by decide)), h1.kept hk (h2.apart h1.head (by decide) (by decide)) (h2.apart bc1 (by decide) (by decide)) (h2.apart bc2 (by decide) (by decide)), hn,
    h3.kept hk (fun g c hg => h2.apart hg (by decide) (by decide)) (fun g c hg => h2.apart hg (by decide) (by decide)) (h2.apart t4 (by decide) (by decide)), ⟨cs, bc.kept hk (h2.apart bc (by decide) (by decide)), cz, cc⟩, h5⟩
/-- The heap has changed, and nothing else. -/
theorem TqAt.heaped (h : TqAt w q hs sp sc sf rp ra rb hp hb A N n V H T R m F L ub D) (hk : Kept (hOwnP hp hb A) w w') (hn : HeapB w' hp hb n A' D') : TqAt w' q hs sp sc sf rp ra rb hp hb A' N n V H T R m F L ub D' := by
  obtain ⟨hd, h1, h2, h3, ⟨cs, bc, cz, cc⟩, h5⟩ := h
  obtain ⟨⟨c1, t1⟩, ⟨c2, t2⟩, ⟨c3, t3⟩⟩ := h2.types
  obtain ⟨_, ⟨c4, t4⟩, _⟩ := h3.types
  obtain ⟨cs1, bc1, _, _⟩ := h1.rows
  obtain ⟨cs2, bc2, _, _⟩ := h1.frees
  have ap : ∀ {g : Nat} {t : TypeId} {cs : Array Value}, Blk w g t cs → t ≠ 117 → t ≠ 123 → t ≠ 3 → ¬ hOwnP hp hb A g := fun hg e1 e2 e3 => h3.apart hg e1 e2 (hg.other t4 e3)
  exact ⟨hd.kept hk (ap hd (by decide) (by decide) (by decide)), h1.kept hk (ap h1.head (by decide) (by decide) (by decide)) (ap bc1 (by decide) (by decide) (by decide)) (h3.apart bc2 (by decide) (by decide) (Ne.symm h5)),
    RowsAt.kept h2 hk (ap t1 (by decide) (by decide) (by decide)) (ap t2 (by decide) (by decide) (by decide)) (ap t3 (by decide) (by decide) (by decide)), hn, ⟨cs, bc.kept hk (ap bc (by decide) (by decide) (by decide)), cz, cc⟩, h5⟩
/-- A handle is written. -/
theorem TqAt.handed (h : TqAt w q hs sp sc sf rp ra rb hp hb A N n V H T R m F L ub D) {i : Nat} (hi : i < n) (v : Int) : TqAt (w.setCell ⟨hs, i, none⟩ (.int .u64 v)) q hs sp sc sf rp ra rb hp hb A N n (fun j => if j = i then v else V j) H T R m F L ub D := by
  obtain ⟨hd, h1, h2, h3, ⟨cs, bc, cz, cc⟩, h5⟩ := h
  obtain ⟨⟨c1, t1⟩, ⟨c2, t2⟩, ⟨c3, t3⟩⟩ := h2.types
  obtain ⟨_, ⟨c4, t4⟩, _⟩ := h3.types
  obtain ⟨cs1, bc1, _, _⟩ := h1.rows
  obtain ⟨cs2, bc2, _, _⟩ := h1.frees
  have hk : Kept (fun g => g = hs) w (w.setCell ⟨hs, i, none⟩ (.int .u64 v)) := Kept.set_ (own := fun g => g = hs) (Kept.refl _ _) (p := ⟨hs, i, none⟩) (.inl rfl) _
  refine ⟨hd.kept hk (hd.other bc (by decide)), h1.kept hk (h1.head.other bc (by decide)) (bc1.other bc (by decide)) (bc2.other bc (by decide)), RowsAt.kept h2 hk (t1.other bc (by decide)) (t2.other bc (by decide)) (t3.other bc (by decide)),
    h3.kept hk (fun g c hg => hg.other bc (by decide)) (fun g c hg => hg.other bc (by decide)) (t4.other bc (by decide)), ⟨_, bc.set_ _ _, by simpa using cz, fun j hj => ?_⟩, h5⟩
  by_cases e : j = i
  · rw [if_pos e, e]; exact get_set_same (by omega) _
  · rw [if_neg e, get_set_far (by omega)]; exact cc j hj
end
end Go.Proofs.Ytjkklcigmikleaa
