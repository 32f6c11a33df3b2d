/- Texts of this claim, one behind the other: Tqa Bxs Tqb. -/
import Derived.Test.YtcffeokbipjaoaaGreatMtaa
import Derived.Test.YtcffeokbipjaoaaGreatMtab
import Derived.Test.YtcffeokbipjaoaaGreatMtaf
import Derived.Test.YtcffeokbipjaoaaGreatMtal
namespace Go.Proofs.YtcffeokbipjaoaaGreat
open Go.ChangeShapes Go.WideShapes Go.RowKit
set_option linter.unusedVariables false
set_option linter.unusedSimpArgs false
structure HeapB (w : World) (p b n : Nat) (A : Option Addr) (L : List En) : Prop where
 ex : ∃ m c E F, HeapIn w p b n A m c E F ∧ Ord m E ∧ AllL n F L
section
variable {w w' : World} {p b n : Nat} {A : Option Addr} {L : List En}
theorem HeapB.heapL (h : HeapB w p b n A L) : HeapL 0 w p n L := by
 obtain ⟨m, c, E, F, h4, h5, h6⟩ := h.ex
 exact ⟨b, A, m, c, E, F, h4, h5, h6, Nat.zero_le _, Nat.zero_le _, fun _ _ => Nat.zero_le _⟩
theorem HeapB.types (h : HeapB w p b n A L) : (∃ cs, Blk w p 226 cs) ∧ (∃ cs, Blk w b 3 cs) ∧ ∀ x, A = some x → ∃ cs, Blk w x.block 270 cs := by
 obtain ⟨m, c, E, F, h1, _⟩ := h.ex
 obtain ⟨P, h2, _⟩ := h1.at_
 obtain ⟨ps, bp, _⟩ := h2.place
 refine ⟨⟨_, h2.head⟩, ⟨_, bp⟩, fun x hx => ?_⟩
 rcases Nat.eq_zero_or_pos c with h0 | h0
 · rw [h1.nil_ h0] at hx; cases hx
 · obtain ⟨a, cs, ea, ba, _⟩ := h2.tree h0
   rw [ea] at hx; injection hx with hx; subst hx
   exact ⟨cs, ba⟩
theorem HeapB.kept {own : Nat → Prop} (h : HeapB w p b n A L) (hk : Kept own w w') (h1 : ∀ g cs, Blk w g 226 cs → ¬ own g) (h2 : ∀ g cs, Blk w g 270 cs → ¬ own g) (h3 : ¬ own b) : HeapB w' p b n A L := by
 obtain ⟨m, c, E, F, g1, g2⟩ := h.ex
 obtain ⟨P, ⟨hd, z1, z2, z3, ht, ⟨ps, bp, pz, pc⟩⟩, gl⟩ := g1.at_
 refine ⟨m, c, E, F, ⟨⟨P, ⟨hd.kept hk (h1 _ _ hd), z1, z2, z3, fun h0 => ?_, ⟨ps, bp.kept hk h3, pz, pc⟩⟩, gl⟩, g1.nil_, g1.cmax⟩, g2⟩
 obtain ⟨a, cs, e, ba, az, ac⟩ := ht h0
 exact ⟨a, cs, e, ba.kept hk (h2 _ _ ba), az, ac⟩
theorem HeapB.below (h : HeapB w p b n A L) (hb : Below w.heap.size w w') : HeapB w' p b n A L := h.kept (own := fun _ => False) (Kept.of_below hb) (fun _ _ _ => id) (fun _ _ _ => id) id
theorem HeapB.apart {g : Nat} {t : TypeId} {cs : Array Value} (h : HeapB w p b n A L) (hb : Blk w g t cs) (h1 : t ≠ 226) (h2 : t ≠ 270) (h3 : g ≠ b) : ¬ hOwnP p b A g := by
 obtain ⟨⟨c1, t1⟩, _, t3⟩ := h.types
 rintro (e | e | ⟨x, hx, e⟩)
 · exact hb.other t1 h1 e
 · exact h3 e
 · obtain ⟨c3, u3⟩ := t3 x hx
   exact hb.other u3 h2 e.symm
theorem bnew_yes (n : Nat) (h1 : 1 ≤ n) (h2 : n ≤ 1024) (w : World) : Calls Tryz.prog 77 #[.int .i64 (n : Int)] w fun e w' => ∃ p b, e = .returned (.tuple #[.pointer (some ⟨p, 0, none⟩), .int .i64 0]) ∧ w.heap.size ≤ p ∧ w.heap.size ≤ b ∧ HeapB w' p b n none [] ∧ Below w.heap.size w w' := by
 refine (hnew_yes n h1 h2 w).mono ?_
 rintro e w' ⟨p, b, rfl, hp, hbb, h, hbe⟩
 exact ⟨p, b, rfl, hp, hbb, ⟨0, 0, _, _, h, fun k _ hk => absurd hk (by omega), AllL.empty n⟩, hbe⟩
theorem bput_new {i : Nat} (k t : Int) (hi : i < n) (hh : hasE (i : Int) L = false) (w : World) (h : HeapB w p b n A L) : Calls Tryz.prog 172 #[.pointer (some ⟨p, 0, none⟩), .int .i64 (i : Int), .int .i64 k, .int .u64 t] w fun e w' => e = .returned (.int .i64 0) ∧ ∃ A', HeapB w' p b n A' (insE ⟨k, t, i⟩ L) ∧ Kept (hOwnP p b A) w w' ∧ ∀ x, A' = some x → (∃ y, A = some y ∧ y.block = x.block) ∨ w.heap.size ≤ x.block := by
 obtain ⟨m, c, E, F, h1, h2, h3⟩ := h.ex
 have hF := h3.none_ hi hh
 refine (hput_new k t hi hF w h1 h2).mono ?_
 rintro e w' ⟨rfl, A', c', E', w2, h4, h5, k1, k2, h6⟩
 refine ⟨rfl, A', ⟨m + 1, c', E', _, h4, h5, h3.ins hi hF k t⟩, ⟨k2.os.trans k1.os, k2.tape.trans k1.tape, k2.output.trans k1.output, Nat.le_trans k1.size k2.size, fun g hg ho => ?_⟩, h6⟩
 refine (k2.block g (Nat.lt_of_lt_of_le hg k1.size) ?_).trans (k1.block g hg ho)
 rintro (e | ⟨x, hx, e⟩)
 · exact ho (.inr (.inl e))
 · rcases h6 x hx with ⟨y, hy, e2⟩ | h7
   · exact ho (.inr (.inr ⟨y, hy, e2.trans e⟩))
   · omega
theorem brem_yes {i : Nat} (hi : i < n) (hh : hasE (i : Int) L = true) (w : World) (h : HeapB w p b n A L) : Calls Tryz.prog 167 #[.pointer (some ⟨p, 0, none⟩), .int .i64 (i : Int)] w fun e w' => e = .returned (.int .i64 0) ∧ HeapB w' p b n A (remK (i : Int) L) ∧ Kept (hOwnP p b A) w w' := by
 obtain ⟨m, c, E, F, h1, h2, h3⟩ := h.ex
 obtain ⟨kt, hF⟩ := h3.some_ hi hh
 obtain ⟨P, h4, h5⟩ := h1.at_
 obtain ⟨q, hq, _⟩ := h5.get hi hF
 obtain ⟨m', rfl⟩ : ∃ m', m = m' + 1 := ⟨m - 1, by omega⟩
 refine (hrem_yes hi hF rfl w h1 h2).mono ?_
 rintro e w' ⟨rfl, E', h6, h7, k1⟩
 exact ⟨rfl, ⟨m', c, E', _, h6, h7, h3.rem hi⟩, k1⟩
end
theorem RowsL.types {w : World} {p a b N M : Nat} {L : Nat → List Nat} {ub : Int} (h : RowsL w p a b N M L ub) : (∃ cs, Blk w p 213 cs) ∧ (∃ cs, Blk w a 216 cs) ∧ ∃ cs, Blk w b 218 cs := by
 obtain ⟨E0, E1, C, W, B0, B1, U, ⟨a1, a2, a3, a4, a5, hd, ⟨cs, bc, cz, cc⟩, ⟨fs, bf, fz, ff⟩⟩, hr, hu⟩ := h
 exact ⟨⟨_, hd⟩, ⟨_, bc⟩, ⟨_, bf⟩⟩
theorem RowsL.apart {w : World} {p a b N M g : Nat} {L : Nat → List Nat} {ub : Int} {t : TypeId} {cs : Array Value} (h : RowsL w p a b N M L ub) (hb : Blk w g t cs) (h1 : t ≠ 216) (h2 : t ≠ 218) : ¬ (g = a ∨ g = b) := by
 obtain ⟨_, ⟨c1, t1⟩, ⟨c2, t2⟩⟩ := h.types
 rintro (e | e)
 · exact hb.other t1 h1 e
 · exact hb.other t2 h2 e
structure TqAt (w : World) (q hs sp sc sf rp ra rb hp hb : Nat) (A : Option Addr) (N n : Nat) (V H : Nat → Int) (T : Nat → Bool) (R : Nat → Rq) (m : Nat) (F : Nat → Nat) (L : Nat → List Nat) (ub : Int) (D : List En) : Prop where
 head : Blk w q 159 #[.int .i64 (N : Int), .pointer (some ⟨sp, 0, none⟩), .pointer (some ⟨rp, 0, none⟩), .pointer (some ⟨hp, 0, none⟩), .slice (some ⟨hs, 0, none⟩) n n]
 slab : SlabAt w sp sc sf n H T R m F
 rows : RowsL w rp ra rb N n L ub
 heap : HeapB w hp hb n A D
 hand : ∃ cs, Blk w hs 105 cs ∧ cs.size = n ∧ ∀ i, i < n → cs[i]? = some (.int .u64 (V i))
 ff : hb ≠ sf
section
variable {w w' : World} {q hs sp sc sf rp ra rb hp hb : Nat} {A A' : Option Addr} {N n m m' : Nat} {V H V' H' : Nat → Int} {T T' : Nat → Bool} {R R' : Nat → Rq} {F F' : Nat → Nat} {L L' : Nat → List Nat} {ub ub' : Int} {D D' : List En}
theorem TqAt.q0 (h : TqAt w q hs sp sc sf rp ra rb hp hb A N n V H T R m F L ub D) : w.cell? ⟨q, 0, none⟩ = some (.int .i64 (N : Int)) := h.head.val (i := 0) rfl
theorem TqAt.q1 (h : TqAt w q hs sp sc sf rp ra rb hp hb A N n V H T R m F L ub D) : w.cell? ⟨q, 1, none⟩ = some (.pointer (some ⟨sp, 0, none⟩)) := h.head.val (i := 1) rfl
theorem TqAt.q2 (h : TqAt w q hs sp sc sf rp ra rb hp hb A N n V H T R m F L ub D) : w.cell? ⟨q, 2, none⟩ = some (.pointer (some ⟨rp, 0, none⟩)) := h.head.val (i := 2) rfl
theorem TqAt.q3 (h : TqAt w q hs sp sc sf rp ra rb hp hb A N n V H T R m F L ub D) : w.cell? ⟨q, 3, none⟩ = some (.pointer (some ⟨hp, 0, none⟩)) := h.head.val (i := 3) rfl
theorem TqAt.q4 (h : TqAt w q hs sp sc sf rp ra rb hp hb A N n V H T R m F L ub D) : w.cell? ⟨q, 4, none⟩ = some (.slice (some ⟨hs, 0, none⟩) n n) := h.head.val (i := 4) rfl
theorem TqAt.h0 (h : TqAt w q hs sp sc sf rp ra rb hp hb A N n V H T R m F L ub D) {i : Nat} (hi : i < n) : w.cell? ⟨hs, i, none⟩ = some (.int .u64 (V i)) := by obtain ⟨cs, bc, _, cc⟩ := h.hand; exact bc.val (cc i hi)
theorem TqAt.zh (h : TqAt w q hs sp sc sf rp ra rb hp hb A N n V H T R m F L ub D) (i : Nat) : w.frozen? ⟨hs, i, none⟩ = false := by obtain ⟨cs, bc, _⟩ := h.hand; exact bc.free i
theorem TqAt.below (h : TqAt w q hs sp sc sf rp ra rb hp hb A N n V H T R m F L ub D) (hb' : Below w.heap.size w w') : TqAt w' q hs sp sc sf rp ra rb hp hb A N n V H T R m F L ub D := by
 obtain ⟨hd, h1, h2, h3, ⟨cs, bc, cz, cc⟩, h5⟩ := h
 have k := Kept.of_below (own := fun _ => False) hb'
 exact ⟨hd.kept k id, h1.kept k id id id, RowsAt.kept h2 k id id id, h3.below hb', ⟨cs, bc.kept k id, cz, cc⟩, h5⟩
theorem TqAt.drewN_ (h : TqAt w q hs sp sc sf rp ra rb hp hb A N n V H T R m F L ub D) (k : Nat) : TqAt (w.drewN k) q hs sp sc sf rp ra rb hp hb A N n V H T R m F L ub D := h.below (below_drewN_ (Below.refl _ _) k)
theorem TqAt.sizes (h : TqAt w q hs sp sc sf rp ra rb hp hb A N n V H T R m F L ub D) : q < w.heap.size ∧ hs < w.heap.size := by
 obtain ⟨cs, bc, _⟩ := h.hand
 exact ⟨h.head.size, bc.size⟩
theorem TqAt.slabbed (h : TqAt w q hs sp sc sf rp ra rb hp hb A N n V H T R m F L ub D) (hk : Kept (fun g => g = sp ∨ g = sc ∨ g = sf) w w') (hn : SlabAt w' sp sc sf n H' T' R' m' F') : TqAt w' q hs sp sc sf rp ra rb hp hb A N n V H' T' R' m' F' L ub D := by
 obtain ⟨hd, h1, h2, h3, ⟨cs, bc, cz, cc⟩, h5⟩ := h
 obtain ⟨⟨c1, t1⟩, ⟨c2, t2⟩, ⟨c3, t3⟩⟩ := h2.types
 obtain ⟨_, ⟨c4, t4⟩, _⟩ := h3.types
 obtain ⟨cs1, bc1, _, _⟩ := h1.rows
 refine ⟨hd.kept hk (h1.apart hd (by decide) (by decide) (by decide)), hn, RowsAt.kept h2 hk (h1.apart t1 (by decide) (by decide) (by decide)) (h1.apart t2 (by decide) (by decide) (by decide)) (h1.apart t3 (by decide) (by decide) (by decide)),
   h3.kept hk (fun g c hg => h1.apart hg (by decide) (by decide) (by decide)) (fun g c hg => h1.apart hg (by decide) (by decide) (by decide)) ?_, ⟨cs, bc.kept hk (h1.apart bc (by decide) (by decide) (by decide)), cz, cc⟩, h5⟩
 rintro (e | e | e)
 · exact t4.other h1.head (by decide) e
 · exact t4.other bc1 (by decide) e
 · exact h5 e
theorem TqAt.rowed (h : TqAt w q hs sp sc sf rp ra rb hp hb A N n V H T R m F L ub D) (hk : Kept (fun g => g = ra ∨ g = rb) w w') (hn : RowsL w' rp ra rb N n L' ub') : TqAt w' q hs sp sc sf rp ra rb hp hb A N n V H T R m F L' ub' D := by
 obtain ⟨hd, h1, h2, h3, ⟨cs, bc, cz, cc⟩, h5⟩ := h
 obtain ⟨_, ⟨c4, t4⟩, _⟩ := h3.types
 obtain ⟨cs1, bc1, _, _⟩ := h1.rows
 obtain ⟨cs2, bc2, _, _⟩ := h1.frees
 exact ⟨hd.kept hk (h2.apart hd (by decide) (by decide)), h1.kept hk (h2.apart h1.head (by decide) (by decide)) (h2.apart bc1 (by decide) (by decide)) (h2.apart bc2 (by decide) (by decide)), hn,
   h3.kept hk (fun g c hg => h2.apart hg (by decide) (by decide)) (fun g c hg => h2.apart hg (by decide) (by decide)) (h2.apart t4 (by decide) (by decide)), ⟨cs, bc.kept hk (h2.apart bc (by decide) (by decide)), cz, cc⟩, h5⟩
theorem TqAt.heaped (h : TqAt w q hs sp sc sf rp ra rb hp hb A N n V H T R m F L ub D) (hk : Kept (hOwnP hp hb A) w w') (hn : HeapB w' hp hb n A' D') : TqAt w' q hs sp sc sf rp ra rb hp hb A' N n V H T R m F L ub D' := by
 obtain ⟨hd, h1, h2, h3, ⟨cs, bc, cz, cc⟩, h5⟩ := h
 obtain ⟨⟨c1, t1⟩, ⟨c2, t2⟩, ⟨c3, t3⟩⟩ := h2.types
 obtain ⟨_, ⟨c4, t4⟩, _⟩ := h3.types
 obtain ⟨cs1, bc1, _, _⟩ := h1.rows
 obtain ⟨cs2, bc2, _, _⟩ := h1.frees
 have ap : ∀ {g : Nat} {t : TypeId} {cs : Array Value}, Blk w g t cs → t ≠ 226 → t ≠ 270 → t ≠ 3 → ¬ hOwnP hp hb A g := fun hg e1 e2 e3 => h3.apart hg e1 e2 (hg.other t4 e3)
 exact ⟨hd.kept hk (ap hd (by decide) (by decide) (by decide)), h1.kept hk (ap h1.head (by decide) (by decide) (by decide)) (ap bc1 (by decide) (by decide) (by decide)) (h3.apart bc2 (by decide) (by decide) (Ne.symm h5)),
   RowsAt.kept h2 hk (ap t1 (by decide) (by decide) (by decide)) (ap t2 (by decide) (by decide) (by decide)) (ap t3 (by decide) (by decide) (by decide)), hn, ⟨cs, bc.kept hk (ap bc (by decide) (by decide) (by decide)), cz, cc⟩, h5⟩
theorem TqAt.handed (h : TqAt w q hs sp sc sf rp ra rb hp hb A N n V H T R m F L ub D) {i : Nat} (hi : i < n) (v : Int) : TqAt (w.setCell ⟨hs, i, none⟩ (.int .u64 v)) q hs sp sc sf rp ra rb hp hb A N n (fun j => if j = i then v else V j) H T R m F L ub D := by
 obtain ⟨hd, h1, h2, h3, ⟨cs, bc, cz, cc⟩, h5⟩ := h
 obtain ⟨⟨c1, t1⟩, ⟨c2, t2⟩, ⟨c3, t3⟩⟩ := h2.types
 obtain ⟨_, ⟨c4, t4⟩, _⟩ := h3.types
 obtain ⟨cs1, bc1, _, _⟩ := h1.rows
 obtain ⟨cs2, bc2, _, _⟩ := h1.frees
 have hk : Kept (fun g => g = hs) w (w.setCell ⟨hs, i, none⟩ (.int .u64 v)) := Kept.set_ (own := fun g => g = hs) (Kept.refl _ _) (p := ⟨hs, i, none⟩) (.inl rfl) _
 refine ⟨hd.kept hk (hd.other bc (by decide)), h1.kept hk (h1.head.other bc (by decide)) (bc1.other bc (by decide)) (bc2.other bc (by decide)), RowsAt.kept h2 hk (t1.other bc (by decide)) (t2.other bc (by decide)) (t3.other bc (by decide)),
   h3.kept hk (fun g c hg => hg.other bc (by decide)) (fun g c hg => hg.other bc (by decide)) (t4.other bc (by decide)), ⟨_, bc.set_ _ _, by simpa using cz, fun j hj => ?_⟩, h5⟩
 by_cases e : j = i
 · rw [if_pos e, e]; exact get_set_same (by omega) _
 · rw [if_neg e, get_set_far (by omega)]; exact cc j hj
end
end Go.Proofs.YtcffeokbipjaoaaGreat
namespace Go.Proofs.YtcffeokbipjaoaaGreat
open Go.RowKit
abbrev Bx1 := Nat × TypeId × List Value
theorem bl2 {w : World} {g : Nat} {t : TypeId} {v0 v1 : Value} (h : Blk w g t #[v0, v1]) : w.cell? ⟨g, 0, none⟩ = some v0 ∧ w.cell? ⟨g, 1, none⟩ = some v1 ∧ (∀ k, w.frozen? ⟨g, k, none⟩ = false) ∧ g < w.heap.size :=
 ⟨h.val (i := 0) rfl, h.val (i := 1) rfl, h.free, h.size⟩
theorem bl3 {w : World} {g : Nat} {t : TypeId} {v0 v1 v2 : Value} (h : Blk w g t #[v0, v1, v2]) : w.cell? ⟨g, 0, none⟩ = some v0 ∧ w.cell? ⟨g, 1, none⟩ = some v1 ∧ w.cell? ⟨g, 2, none⟩ = some v2 ∧ (∀ k, w.frozen? ⟨g, k, none⟩ = false) ∧ g < w.heap.size :=
 ⟨h.val (i := 0) rfl, h.val (i := 1) rfl, h.val (i := 2) rfl, h.free, h.size⟩
theorem bl7 {w : World} {g : Nat} {t : TypeId} {v0 v1 v2 v3 v4 v5 v6 : Value} (h : Blk w g t #[v0, v1, v2, v3, v4, v5, v6]) : w.cell? ⟨g, 0, none⟩ = some v0 ∧ w.cell? ⟨g, 1, none⟩ = some v1 ∧ w.cell? ⟨g, 2, none⟩ = some v2 ∧ w.cell? ⟨g, 3, none⟩ = some v3 ∧ w.cell? ⟨g, 4, none⟩ = some v4 ∧ w.cell? ⟨g, 5, none⟩ = some v5 ∧ w.cell? ⟨g, 6, none⟩ = some v6 ∧ (∀ k, w.frozen? ⟨g, k, none⟩ = false) ∧ g < w.heap.size :=
 ⟨h.val (i := 0) rfl, h.val (i := 1) rfl, h.val (i := 2) rfl, h.val (i := 3) rfl, h.val (i := 4) rfl, h.val (i := 5) rfl, h.val (i := 6) rfl, h.free, h.size⟩
theorem bl16 {w : World} {g : Nat} {t : TypeId} {v0 v1 v2 v3 v4 v5 v6 v7 v8 v9 v10 v11 v12 v13 v14 v15 : Value} (h : Blk w g t #[v0, v1, v2, v3, v4, v5, v6, v7, v8, v9, v10, v11, v12, v13, v14, v15]) : w.cell? ⟨g, 0, none⟩ = some v0 ∧ w.cell? ⟨g, 1, none⟩ = some v1 ∧ w.cell? ⟨g, 2, none⟩ = some v2 ∧ w.cell? ⟨g, 3, none⟩ = some v3 ∧ w.cell? ⟨g, 4, none⟩ = some v4 ∧ w.cell? ⟨g, 5, none⟩ = some v5 ∧ w.cell? ⟨g, 6, none⟩ = some v6 ∧ w.cell? ⟨g, 7, none⟩ = some v7 ∧ w.cell? ⟨g, 8, none⟩ = some v8 ∧ w.cell? ⟨g, 9, none⟩ = some v9 ∧ w.cell? ⟨g, 10, none⟩ = some v10 ∧ w.cell? ⟨g, 11, none⟩ = some v11 ∧ w.cell? ⟨g, 12, none⟩ = some v12 ∧ w.cell? ⟨g, 13, none⟩ = some v13 ∧ w.cell? ⟨g, 14, none⟩ = some v14 ∧ w.cell? ⟨g, 15, none⟩ = some v15 ∧ (∀ k, w.frozen? ⟨g, k, none⟩ = false) ∧ g < w.heap.size :=
 ⟨h.val (i := 0) rfl, h.val (i := 1) rfl, h.val (i := 2) rfl, h.val (i := 3) rfl, h.val (i := 4) rfl, h.val (i := 5) rfl, h.val (i := 6) rfl, h.val (i := 7) rfl, h.val (i := 8) rfl, h.val (i := 9) rfl, h.val (i := 10) rfl, h.val (i := 11) rfl, h.val (i := 12) rfl, h.val (i := 13) rfl, h.val (i := 14) rfl, h.val (i := 15) rfl, h.free, h.size⟩
structure Bxs (v w : World) (L : List Bx1) : Prop where
 bl : ∀ (i g : Nat) (T : TypeId) (l : List Value), L[i]? = some (g, T, l) → Blk w g T l.toArray
 lo : ∀ (i g : Nat) (T : TypeId) (l : List Value), L[i]? = some (g, T, l) → v.heap.size ≤ g
 ne : ∀ (i j g : Nat) (T : TypeId) (l : List Value) (g' : Nat) (T' : TypeId) (l' : List Value), L[i]? = some (g, T, l) → L[j]? = some (g', T', l') → i ≠ j → g ≠ g'
 be : Below v.heap.size v w
section
variable {v w w' : World} {L : List Bx1}
theorem Bxs.nil_ (w : World) : Bxs w w [] := ⟨fun i g T l h => by simp at h, fun i g T l h => by simp at h, fun i j g T l g' T' l' h => by simp at h, Below.refl _ _⟩
theorem Bxs.under {B : Nat} (h : Below B w w') (h0 : Bxs v w L) (hB : w.heap.size ≤ B) : Below v.heap.size v w' := h0.be.trans (h.mono (Nat.le_trans h0.be.size hB))
theorem Bxs.below (h : Bxs v w L) (hb : Below w.heap.size w w') : Bxs v w' L :=
 ⟨fun i g T l hi => (h.bl i g T l hi).below_ hb (h.bl i g T l hi).size, h.lo, h.ne, h.be.trans (hb.mono h.be.size)⟩
theorem Bxs.drew_ (h : Bxs v w L) : Bxs v w.drew L := ⟨h.bl, h.lo, h.ne, h.be.drew⟩
theorem Bxs.drewN_ (h : Bxs v w L) (n : Nat) : Bxs v (w.drewN n) L := ⟨h.bl, h.lo, h.ne, ⟨h.be.os, h.be.tape, h.be.output, h.be.size, h.be.block⟩⟩
theorem Bxs.alloc_ (h : Bxs v w L) (l : List Value) (T : TypeId) {g : Nat} (hg : g = w.heap.size) : Bxs v (w.alloc (.cells l.toArray T)) (L ++ [(g, T, l)]) := by
 subst hg
 have key : ∀ i e, (L ++ [((w.heap.size, T, l) : Bx1)])[i]? = some e → L[i]? = some e ∨ i = L.length ∧ e = (w.heap.size, T, l) := by
   intro i e hi
   rcases Nat.lt_trichotomy i L.length with hl | hl | hl
   · exact .inl (by rwa [List.getElem?_append_left hl] at hi)
   · subst hl; exact .inr ⟨rfl, by simpa using hi.symm⟩
   · rw [List.getElem?_append_right (Nat.le_of_lt hl)] at hi
     obtain ⟨n, hn⟩ : ∃ n, i - L.length = n + 1 := ⟨i - L.length - 1, by omega⟩
     rw [hn] at hi
     simp at hi
 refine ⟨fun i g T' l' hi => ?_, fun i g T' l' hi => ?_, fun i j g T1 l1 g' T2 l2 hi hj hne => ?_, h.be.alloc h.be.size _⟩
 · rcases key i _ hi with hi | ⟨_, hi⟩
   · exact (h.bl i _ _ _ hi).alloc_ _
   · injection hi with h1 h2; injection h2 with h2 h3; subst h1 h2 h3; exact Blk.made w _ _
 · rcases key i _ hi with hi | ⟨_, hi⟩
   · exact h.lo i _ _ _ hi
   · injection hi with h1 h2; subst h1; exact h.be.size
 · rcases key i _ hi with hi | ⟨e1, hi⟩ <;> rcases key j _ hj with hj | ⟨e2, hj⟩
   · exact h.ne i j _ _ _ _ _ _ hi hj hne
   · injection hj with h1 h2; subst h1; exact Nat.ne_of_lt (h.bl i _ _ _ hi).size
   · injection hi with h1 h2; subst h1; exact Nat.ne_of_gt (h.bl j _ _ _ hj).size
   · omega
theorem Bxs.set_ (h : Bxs v w L) (i k : Nat) {g : Nat} {T : TypeId} {l : List Value} (hi : L[i]? = some (g, T, l)) (u : Value) : Bxs v (w.setCell ⟨g, k, none⟩ u) (L.set i (g, T, l.set k u)) := by
 have key : ∀ j e, (L.set i (g, T, l.set k u))[j]? = some e → (j ≠ i ∧ L[j]? = some e) ∨ j = i ∧ e = (g, T, l.set k u) := by
   intro j e hj
   by_cases hji : j = i
   · subst hji
     rw [List.getElem?_set_self (by rw [List.getElem?_eq_some_iff] at hi; exact hi.1)] at hj
     exact .inr ⟨rfl, by simpa using hj.symm⟩
   · rw [List.getElem?_set_ne (Ne.symm hji)] at hj
     exact .inl ⟨hji, hj⟩
 refine ⟨fun j g1 T1 l1 hj => ?_, fun j g1 T1 l1 hj => ?_, fun j j' g1 T1 l1 g2 T2 l2 hj hj' hne => ?_, h.be.setCell (h.lo i _ _ _ hi) _⟩
 · rcases key j _ hj with ⟨hne, hj⟩ | ⟨_, hj⟩
   · exact (h.bl j _ _ _ hj).far _ (h.ne j i _ _ _ _ _ _ hj hi hne)
   · injection hj with h1 h2; injection h2 with h2 h3; subst h1 h2 h3
     have := (h.bl i _ _ _ hi).set_ k u
     simpa using this
 · rcases key j _ hj with ⟨_, hj⟩ | ⟨_, hj⟩
   · exact h.lo j _ _ _ hj
   · injection hj with h1 h2; subst h1; exact h.lo i _ _ _ hi
 · rcases key j _ hj with ⟨n1, k1⟩ | ⟨e1, k1⟩ <;> rcases key j' _ hj' with ⟨n2, k2⟩ | ⟨e2, k2⟩
   · exact h.ne j j' _ _ _ _ _ _ k1 k2 hne
   · injection k2 with h1 h2; rw [h1]; exact h.ne j i _ _ _ _ _ _ k1 hi n1
   · injection k1 with h1 h2; rw [h1]; exact h.ne i j' _ _ _ _ _ _ hi k2 (Ne.symm n2)
   · omega
theorem Bxs.some_ (h : Bxs v w L) (L' : List Bx1) (f : Nat → Nat) (hf : ∀ i e, L'[i]? = some e → L[f i]? = some e) (hi : ∀ i j, i < L'.length → j < L'.length → f i = f j → i = j) : Bxs v w L' :=
 ⟨fun i g T l e => h.bl (f i) _ _ _ (hf i _ e), fun i g T l e => h.lo (f i) _ _ _ (hf i _ e), fun i j g T l g' T' l' e e' hne => h.ne (f i) (f j) _ _ _ _ _ _ (hf i _ e) (hf j _ e') fun he => hne (hi i j (by rw [List.getElem?_eq_some_iff] at e; exact e.1) (by rw [List.getElem?_eq_some_iff] at e'; exact e'.1) he), h.be⟩
end
theorem wp_worldx {P : Program} {code : Code} {Q : Exit → Act → World → Prop} {a : Act} {w : World} (φ : World → Prop) (h : φ w) (k : ∀ wx, φ wx → Code.wp P code Q a wx) : Code.wp P code Q a w := k w h
end Go.Proofs.YtcffeokbipjaoaaGreat
namespace Go.Proofs.YtcffeokbipjaoaaGreat
open Go.ChangeShapes Go.WideShapes Go.RowKit
set_option linter.unusedVariables false
set_option linter.unusedSimpArgs false
section
variable {q hs sp sc sf rp ra rb hp hb : Nat} {A : Option Addr} {N n m : Nat} {V H : Nat → Int} {T : Nat → Bool} {R : Nat → Rq} {F : Nat → Nat} {L : Nat → List Nat} {ub : Int} {D : List En}
theorem tlen (w : World) (h : TqAt w q hs sp sc sf rp ra rb hp hb A N n V H T R m F L ub D) : Calls Tryz.prog 87 #[.pointer (some ⟨q, 0, none⟩)] w fun e w' => e = .returned (.int .i64 ((n : Int) - m)) ∧ Below w.heap.size w w' := by
 have q1 := h.q1
 have HS := Lib.hid h.slab
 clear h
 go_enter Tryz.func87, Tryz.ntmps87
 go_wp2_with (go_at_call 137; refine (sllen_any _ HS.out).mono ?_; rintro e w1 ⟨k, rfl, rfl⟩)
 go_ret
 exact ⟨rfl, below_drewN_ (Below.refl _ _) _⟩
theorem tcount (r : Int) (w : World) (h : TqAt w q hs sp sc sf rp ra rb hp hb A N n V H T R m F L ub D) : Calls Tryz.prog 173 #[.pointer (some ⟨q, 0, none⟩), .int .i64 r] w fun e w' => e = .returned (.int .i64 ((rowE N L r).length : Int)) ∧ w = w' := by
 have q2 := h.q2
 have HR := Lib.hid h.rows
 clear h
 go_enter Tryz.func173, Tryz.ntmps173
 go_wp2_with (go_at_call 193; refine (len_any r _ HR.out).mono ?_; rintro e w1 ⟨rfl, rfl⟩)
 go_ret
 exact ⟨rfl, rfl⟩
theorem ttier (w : World) (h : TqAt w q hs sp sc sf rp ra rb hp hb A N n V H T R m F L ub D) : Calls Tryz.prog 90 #[.pointer (some ⟨q, 0, none⟩)] w fun e w' => e = .returned (.int .i64 (N : Int)) ∧ w = w' := by
 have q0 := h.q0
 clear h
 go_enter Tryz.func90, Tryz.ntmps90
 go_wp2
 go_ret
 exact ⟨rfl, rfl⟩
theorem tget_yes (g : Int) (w : World) (h : TqAt w q hs sp sc sf rp ra rb hp hb A N n V H T R m F L ub D) (h0 : 0 ≤ g) (h1 : g ≤ 18446744073709551615) (ha : aliveB n H T g = true) {i : Nat} (hi : (g % 4294967296).toNat = i) : Calls Tryz.prog 162 #[.pointer (some ⟨q, 0, none⟩), .int .u64 g] w fun e w' => e = .returned (.tuple #[rqv (R i), .int .i64 0]) ∧ Below w.heap.size w w' := by
 have HQ := Lib.hid h
 have HA := Lib.hid ha
 have HI := Lib.hid hi
 clear h ha hi
 go_enter Tryz.func162, Tryz.ntmps162
 go_upto_region 3 with fail
 refine wp_worldx (fun wx => Bxs w wx [(w.heap.size, 107, [.int .u64 0, .int .i64 0, .int .i64 0, .int .i64 0, .int .i64 0])]) ((Bxs.nil_ w).alloc_ _ _ (by simp)) ?_
 rintro x1 bx
 have hx := HQ.out.below bx.be
 have q1 := hx.q1
 have HS := Lib.hid hx.slab
 have BX := Lib.hid bx
 clear bx hx
 go_wp2_with (go_at_call 92; refine (slget_yes _ _ HS.out h0 h1 HA.out HI.out).mono ?_; rintro e w1 ⟨he, hbw⟩; have he : e = .returned (.tuple #[.agg #[.int .u64 (R i).a, .int .i64 (R i).b, .int .i64 (R i).c, .int .i64 (R i).d, .int .i64 (R i).e], .int .i64 0]) := he; subst he; have BY := Lib.hid (BX.out.below hbw); clear hbw q1; have p0 := (BY.out.bl 0 _ _ _ rfl).val (i := 0) rfl; have p1 := (BY.out.bl 0 _ _ _ rfl).val (i := 1) rfl; have p2 := (BY.out.bl 0 _ _ _ rfl).val (i := 2) rfl; have p3 := (BY.out.bl 0 _ _ _ rfl).val (i := 3) rfl; have p4 := (BY.out.bl 0 _ _ _ rfl).val (i := 4) rfl; have z0 : ∀ k, w1.frozen? ⟨w.heap.size, k, none⟩ = false := (BY.out.bl 0 _ _ _ rfl).free; have y0 : w.heap.size < w1.heap.size := (BY.out.bl 0 _ _ _ rfl).size)
 refine bodyPost_ret (v := .tuple #[rqv (R i), .int .i64 0]) (by simp [results, Tryz.results162, go_sem, rqv, *]) rfl ⟨rfl, ?_⟩
 repeat (first | with_reducible exact BY.out.be | refine Below.setCell ?_ (by simp) _)
theorem thand_no (p : Value) (i : Int) (w : World) : Calls Tryz.prog 209 #[p, .int .i64 i, .bool false] w fun e w' => e = .returned (.tuple #[.int .u64 0, .bool false]) ∧ w = w' := by
 go_enter Tryz.func209, Tryz.ntmps209
 go_wp2
 go_ret2
 exact ⟨rfl, rfl⟩
theorem thand_yes {i : Nat} (hi : i < n) (w : World) (h : TqAt w q hs sp sc sf rp ra rb hp hb A N n V H T R m F L ub D) : Calls Tryz.prog 209 #[.pointer (some ⟨q, 0, none⟩), .int .i64 (i : Int), .bool true] w fun e w' => e = .returned (.tuple #[.int .u64 (V i), .bool true]) ∧ w = w' := by
 have q4 := h.q4
 have h0 := h.h0 hi
 have n0 := h.slab.n0
 clear h
 go_enter Tryz.func209, Tryz.ntmps209
 go_wp2
 go_ret2
 exact ⟨rfl, rfl⟩
theorem rowE_lt {w : World} (h : TqAt w q hs sp sc sf rp ra rb hp hb A N n V H T R m F L ub D) (r : Int) : ∀ x ∈ rowE N L r, x < n := by
 intro x hx
 unfold rowE at hx
 by_cases hr : r < 0 ∨ (N : Int) ≤ r
 · rw [if_pos hr] at hx; cases hx
 · rw [if_neg hr] at hx; exact h.rows.lists.lt _ (by omega) x hx
theorem hdE_lt {w : World} (h : TqAt w q hs sp sc sf rp ra rb hp hb A N n V H T R m F L ub D) (r : Int) (hn : neE (rowE N L r) = true) : hdE (rowE N L r) < n := by
 have h2 := rowE_lt h r
 revert h2 hn
 generalize rowE N L r = l
 intro hn h2
 cases l with
 | nil => cases hn
 | cons x l => exact h2 x List.mem_cons_self
theorem laE_lt {w : World} (h : TqAt w q hs sp sc sf rp ra rb hp hb A N n V H T R m F L ub D) (r : Int) (hn : neE (rowE N L r) = true) : laE (rowE N L r) < n := by
 have h2 := rowE_lt h r
 revert h2 hn
 generalize rowE N L r = l
 intro hn h2
 have h0 : 0 < l.length := by cases l with
   | nil => cases hn
   | cons x l => simp
 rw [laE_eq h0]
 exact h2 _ (List.getElem_mem _)
theorem thead (r : Int) (w : World) (h : TqAt w q hs sp sc sf rp ra rb hp hb A N n V H T R m F L ub D) : Calls Tryz.prog 175 #[.pointer (some ⟨q, 0, none⟩), .int .i64 r] w fun e w' => e = .returned (.tuple #[.int .u64 (if neE (rowE N L r) = true then V (hdE (rowE N L r)) else 0), .bool (neE (rowE N L r))]) ∧ w = w' := by
 have q2 := h.q2
 have HQ := Lib.hid h
 have hl := hdE_lt h r
 cases hn : neE (rowE N L r) with
 | false =>
   have HN := Lib.hid hn
   clear h hn hl
   go_enter Tryz.func175, Tryz.ntmps175
   go_wp2_with (first
     | (go_at_call 212; refine (front_any r _ HQ.out.rows).mono ?_; rintro e w1 ⟨rfl, rfl⟩; rw [HN.out])
     | (go_at_call 209; refine (thand_no _ _ _).mono ?_; rintro e w1 ⟨rfl, rfl⟩))
   go_ret2
   exact ⟨rfl, rfl⟩
 | true =>
   have HN := Lib.hid hn
   have HL := Lib.hid (hl hn)
   clear h hn hl
   go_enter Tryz.func175, Tryz.ntmps175
   go_wp2_with (first
     | (go_at_call 212; refine (front_any r _ HQ.out.rows).mono ?_; rintro e w1 ⟨rfl, rfl⟩; rw [HN.out])
     | (go_at_call 209; refine (thand_yes HL.out _ HQ.out).mono ?_; rintro e w1 ⟨rfl, rfl⟩))
   go_ret2
   exact ⟨by simp, rfl⟩
theorem ttail (r : Int) (w : World) (h : TqAt w q hs sp sc sf rp ra rb hp hb A N n V H T R m F L ub D) : Calls Tryz.prog 169 #[.pointer (some ⟨q, 0, none⟩), .int .i64 r] w fun e w' => e = .returned (.tuple #[.int .u64 (if neE (rowE N L r) = true then V (laE (rowE N L r)) else 0), .bool (neE (rowE N L r))]) ∧ w = w' := by
 have q2 := h.q2
 have HQ := Lib.hid h
 have hl := laE_lt h r
 cases hn : neE (rowE N L r) with
 | false =>
   have HN := Lib.hid hn
   clear h hn hl
   go_enter Tryz.func169, Tryz.ntmps169
   go_wp2_with (first
     | (go_at_call 210; refine (back_any r _ HQ.out.rows).mono ?_; rintro e w1 ⟨rfl, rfl⟩; rw [HN.out])
     | (go_at_call 209; refine (thand_no _ _ _).mono ?_; rintro e w1 ⟨rfl, rfl⟩))
   go_ret2
   exact ⟨rfl, rfl⟩
 | true =>
   have HN := Lib.hid hn
   have HL := Lib.hid (hl hn)
   clear h hn hl
   go_enter Tryz.func169, Tryz.ntmps169
   go_wp2_with (first
     | (go_at_call 210; refine (back_any r _ HQ.out.rows).mono ?_; rintro e w1 ⟨rfl, rfl⟩; rw [HN.out])
     | (go_at_call 209; refine (thand_yes HL.out _ HQ.out).mono ?_; rintro e w1 ⟨rfl, rfl⟩))
   go_ret2
   exact ⟨by simp, rfl⟩
end
end Go.Proofs.YtcffeokbipjaoaaGreat
