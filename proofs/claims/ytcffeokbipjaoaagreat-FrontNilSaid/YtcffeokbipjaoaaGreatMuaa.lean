/- Texts of this claim, one behind the other: Blk Slab Help Helpb Helpc. -/
import Derived.Below
import Derived.Laws.OwnMore
import Derived.Deep.Draws
import Derived.Laws.Rows
import Derived.Laws.MakeOwn
import Derived.Test.YtcffeokbipjaoaaGreatProg
import Derived.WalkKit
import Derived.IntWalk
import Derived.Lib.Hide
import Derived.Deep.OwnRows
import Derived.Deep.DeepCutAuto
import Derived.Deep.RegionHeld3
import Derived.WalkSpells
import Derived.Deep.RegionHeld
import Derived.Calls
namespace Go.Proofs.YtcffeokbipjaoaaGreat
open Go.RowKit
def Blk (w : World) (g : Nat) (t : TypeId) (cs : Array Value) : Prop := w.heap[g]? = some (.cells cs t (0, 0))
structure Kept (own : Nat → Prop) (w w' : World) : Prop where
 os : w'.os = w.os
 tape : w'.tape = w.tape
 output : w'.output = w.output
 size : w.heap.size ≤ w'.heap.size
 block : ∀ k, k < w.heap.size → ¬ own k → w'.heap[k]? = w.heap[k]?
section
variable {w w' w'' : World} {g : Nat} {t : TypeId} {cs : Array Value} {own own' : Nat → Prop}
theorem Blk.size (h : Blk w g t cs) : g < w.heap.size := by
 rcases Nat.lt_or_ge g w.heap.size with hlt | hge
 · exact hlt
 · unfold Blk at h; rw [Array.getElem?_eq_none hge] at h; cases h
theorem Blk.at_ (h : Blk w g t cs) (i : Nat) : w.cell? ⟨g, i, none⟩ = cs[i]? := cell_of_row w g i cs t (0, 0) h
theorem Blk.val (h : Blk w g t cs) {i : Nat} {v : Value} (hv : cs[i]? = some v) : w.cell? ⟨g, i, none⟩ = some v := (h.at_ i).trans hv
theorem Blk.free (h : Blk w g t cs) (i : Nat) : w.frozen? ⟨g, i, none⟩ = false := by
 unfold Blk at h
 simp [World.frozen?, h]
theorem Blk.made (w : World) (t : TypeId) (cs : Array Value) : Blk (w.alloc (.cells cs t)) w.heap.size t cs := heap_alloc_new w _
theorem Blk.new_ {w : World} {g : Nat} {t : TypeId} {cs : Array Value} (h : g = w.heap.size) : Blk (w.alloc (.cells cs t)) g t cs := by rw [h]; exact Blk.made w t cs
theorem Blk.drew_ (h : Blk w g t cs) : Blk w.drew g t cs := h
theorem Blk.alloc_ (h : Blk w g t cs) (o : Obj) : Blk (w.alloc o) g t cs := (Below.heap_alloc w o g h.size).trans h
theorem Blk.set_ (h : Blk w g t cs) (i : Nat) (u : Value) : Blk (w.setCell ⟨g, i, none⟩ u) g t (cs.setIfInBounds i u) := by
 unfold Blk at h ⊢
 simp [World.setCell, Array.getElem?_modify, h]
theorem Blk.far (h : Blk w g t cs) {p : Addr} (u : Value) (hp : g ≠ p.block) : Blk (w.setCell p u) g t cs := (Below.heap_setCell w p u g hp).trans h
theorem Blk.below_ {B : Nat} (h : Blk w g t cs) (hb : Below B w w') (hg : g < B) : Blk w' g t cs := (hb.block g hg).trans h
theorem Blk.kept (h : Blk w g t cs) (hk : Kept own w w') (hg : ¬ own g) : Blk w' g t cs := (hk.block g h.size hg).trans h
theorem Blk.other {g' : Nat} {t' : TypeId} {cs' : Array Value} (h : Blk w g t cs) (h' : Blk w g' t' cs') (hne : t ≠ t') : g ≠ g' := by
 rintro rfl
 unfold Blk at h h'
 rw [h] at h'
 injection h' with h'
 injection h' with _ ht
 exact hne ht
theorem own_kept {base size n : Nat} {e : TypeId} {v : Value} {xs : List Value} (h : w.ownsRow base e size v n xs) (hk : Kept own w w') (hn : ∀ g cs, Blk w g e cs → ¬ own g) : w'.ownsRow base e size v n xs := by
 refine ⟨h.1, ?_⟩
 rcases h.2 with h0 | ⟨g, cap, cur, hv, hb, hg, h1, h2, h3, h4⟩
 · exact .inl h0
 · exact .inr ⟨g, cap, cur, hv, hb, Blk.kept (cs := cur) hg hk (hn g cur hg), h1, h2, h3, h4⟩
theorem own_form {base size n : Nat} {e : TypeId} {v : Value} {xs : List Value} (h : w.ownsRow base e size v n xs) : ∃ A c, v = .slice A n c := by
 rcases h.2 with ⟨rfl, rfl⟩ | ⟨g, cap, cur, rfl, _⟩
 · exact ⟨_, _, rfl⟩
 · exact ⟨_, _, rfl⟩
theorem own_at {base size n : Nat} {e : TypeId} {v : Value} {xs : List Value} (h : w.ownsRow base e size v n xs) (h0 : 0 < n) : ∃ g c, v = .slice (some ⟨g, 0, none⟩) n c ∧ base ≤ g ∧ g < w.heap.size := by
 rcases h.2 with ⟨_, h1⟩ | ⟨g, cap, cur, rfl, hb, hg, _⟩
 · omega
 · exact ⟨g, cap, rfl, hb, Blk.size (cs := cur) hg⟩
theorem Blk.grown_ {base size n : Nat} {e : TypeId} {v : Value} {xs : List Value} (h : Blk w g t cs) (hg : w.grownBy w' v.ownBlock) (ho : w.ownsRow base e size v n xs) (hne : e ≠ t) : Blk w' g t cs := by
 refine (hg.block g h.size fun hc => ?_).trans h
 rcases ho.2 with ⟨rfl, _⟩ | ⟨g', cap, cur, rfl, _, hh, _⟩
 · simp [Value.ownBlock] at hc
 · have : g = g' := by simpa [Value.ownBlock] using hc
   subst this
   exact Blk.other (t := e) hh h hne rfl
theorem Kept.refl (own : Nat → Prop) (w : World) : Kept own w w := ⟨rfl, rfl, rfl, Nat.le_refl _, fun _ _ _ => rfl⟩
theorem Kept.trans (h : Kept own w w') (k : Kept own w' w'') : Kept own w w'' :=
 ⟨k.os.trans h.os, k.tape.trans h.tape, k.output.trans h.output, Nat.le_trans h.size k.size, fun i hi hn => (k.block i (Nat.lt_of_lt_of_le hi h.size) hn).trans (h.block i hi hn)⟩
theorem Kept.more (h : Kept own w w') (hm : ∀ k, k < w.heap.size → own k → own' k) : Kept own' w w' :=
 ⟨h.os, h.tape, h.output, h.size, fun i hi hn => h.block i hi fun ho => hn (hm i hi ho)⟩
theorem Kept.drew_ (h : Kept own w w') : Kept own w w'.drew := ⟨h.os, h.tape, h.output, h.size, h.block⟩
theorem Kept.drewN_ (h : Kept own w w') (n : Nat) : Kept own w (w'.drewN n) := ⟨h.os, h.tape, h.output, h.size, h.block⟩
theorem Kept.alloc_ (h : Kept own w w') (o : Obj) : Kept own w (w'.alloc o) :=
 ⟨h.os, h.tape, h.output, by simp; exact Nat.le_succ_of_le h.size, fun k hk hn => (Below.heap_alloc w' o k (Nat.lt_of_lt_of_le hk h.size)).trans (h.block k hk hn)⟩
theorem Kept.set_ (h : Kept own w w') {p : Addr} (hp : own p.block ∨ w.heap.size ≤ p.block) (u : Value) : Kept own w (w'.setCell p u) :=
 ⟨h.os, h.tape, h.output, by simp [World.setCell]; exact h.size, fun k hk hn => (Below.heap_setCell w' p u k (by rcases hp with hp | hp; exact fun e => hn (e ▸ hp); omega)).trans (h.block k hk hn)⟩
theorem Kept.of_below (h : Below w.heap.size w w') : Kept own w w' := ⟨h.os, h.tape, h.output, h.size, fun k hk _ => h.block k hk⟩
theorem Kept.below {B : Nat} (h : Kept own w w') (hB : ∀ k, own k → B ≤ k) (hs : B ≤ w.heap.size) : Below B w w' :=
 ⟨h.os, h.tape, h.output, h.size, fun k hk => h.block k (Nat.lt_of_lt_of_le hk hs) fun ho => by have := hB k ho; omega⟩
theorem Kept.grown (h : Kept own w w') {row : Option Nat} (hg : w'.grownBy w'' row) (hr : ∀ k, row = some k → own k ∨ w.heap.size ≤ k) : Kept own w w'' :=
 ⟨hg.os.trans h.os, hg.tape.trans h.tape, hg.output.trans h.output, Nat.le_trans h.size hg.size, fun k hk hn => (hg.block k (Nat.lt_of_lt_of_le hk h.size) (fun e => by rcases hr k e.symm with ho | ho; exact hn ho; omega)).trans (h.block k hk hn)⟩
end
theorem get_set_same {cs : Array Value} {i : Nat} (h : i < cs.size) (u : Value) : (cs.setIfInBounds i u)[i]? = some u := by simp [h]
theorem get_set_far {cs : Array Value} {i j : Nat} (h : i ≠ j) (u : Value) : (cs.setIfInBounds i u)[j]? = cs[j]? := by simp [h]
theorem made_size (z : Array Value) (n : Nat) : (madeCells z n).size = n := size_madeCells z n
theorem made_at (z : Array Value) (n : Nat) {i : Nat} (hi : i < n) (hz : 0 < z.size) : (madeCells z n)[i]? = z[i % z.size]? := by
 have h : i % z.size < z.size := Nat.mod_lt _ hz
 simp [madeCells, hi, h]
end Go.Proofs.YtcffeokbipjaoaaGreat
namespace Go.Proofs.YtcffeokbipjaoaaGreat
open Go.RowKit
set_option linter.unusedVariables false
structure Rq where
 a : Int
 b : Int
 c : Int
 d : Int
 e : Int
def rowOf (h : Int) (t : Bool) (q : Rq) : List Value := [.int .u64 h, .bool t, .int .u64 q.a, .int .i64 q.b, .int .i64 q.c, .int .i64 q.d, .int .i64 q.e]
structure SlabAt (w : World) (p c f n : Nat) (H : Nat → Int) (T : Nat → Bool) (R : Nat → Rq) (m : Nat) (F : Nat → Nat) : Prop where
 pc : p ≠ c
 pf : p ≠ f
 cf : c ≠ f
 n0 : n ≤ 1024
 mn : m ≤ n
 head : Blk w p 221 #[.slice (some ⟨c, 0, none⟩) n n, .slice (some ⟨f, 0, none⟩) m n]
 rows : ∃ cs, Blk w c 223 cs ∧ cs.size = n * 7 ∧ ∀ i, i < n → ∀ k, k < 7 → cs[i * 7 + k]? = (rowOf (H i) (T i) (R i))[k]?
 frees : ∃ fs, Blk w f 3 fs ∧ fs.size = n ∧ ∀ j, j < m → fs[j]? = some (.int .i64 (F j : Int))
section
variable {w w' : World} {p c f n m : Nat} {H H' : Nat → Int} {T T' : Nat → Bool} {R R' : Nat → Rq} {F F' : Nat → Nat}
theorem SlabAt.kept {own : Nat → Prop} (h : SlabAt w p c f n H T R m F) (hk : Kept own w w') (op : ¬ own p) (oc : ¬ own c) (of : ¬ own f) : SlabAt w' p c f n H T R m F := by
 obtain ⟨a1, a2, a3, a4, a5, hd, ⟨cs, bc, cz, cc⟩, ⟨fs, bf, fz, ff⟩⟩ := h
 exact ⟨a1, a2, a3, a4, a5, hd.kept hk op, ⟨cs, bc.kept hk oc, cz, cc⟩, ⟨fs, bf.kept hk of, fz, ff⟩⟩
theorem SlabAt.lts (h : SlabAt w p c f n H T R m F) : p < w.heap.size ∧ c < w.heap.size ∧ f < w.heap.size := by
 obtain ⟨a1, a2, a3, a4, a5, hd, ⟨cs, bc, cz, cc⟩, ⟨fs, bf, fz, ff⟩⟩ := h
 exact ⟨hd.size, bc.size, bf.size⟩
theorem SlabAt.p0 (h : SlabAt w p c f n H T R m F) : w.cell? ⟨p, 0, none⟩ = some (.slice (some ⟨c, 0, none⟩) n n) := h.head.val (i := 0) rfl
theorem SlabAt.p1 (h : SlabAt w p c f n H T R m F) : w.cell? ⟨p, 1, none⟩ = some (.slice (some ⟨f, 0, none⟩) m n) := h.head.val (i := 1) rfl
theorem SlabAt.zp (h : SlabAt w p c f n H T R m F) (k : Nat) : w.frozen? ⟨p, k, none⟩ = false := h.head.free k
theorem SlabAt.zc (h : SlabAt w p c f n H T R m F) (k : Nat) : w.frozen? ⟨c, k, none⟩ = false := by obtain ⟨cs, bc, _, _⟩ := h.rows; exact bc.free k
theorem SlabAt.zf (h : SlabAt w p c f n H T R m F) (k : Nat) : w.frozen? ⟨f, k, none⟩ = false := by obtain ⟨fs, bf, _, _⟩ := h.frees; exact bf.free k
theorem SlabAt.f0 (h : SlabAt w p c f n H T R m F) {j : Nat} (hj : j < m) : w.cell? ⟨f, j, none⟩ = some (.int .i64 (F j : Int)) := by obtain ⟨fs, bf, _, ff⟩ := h.frees; exact bf.val (ff j hj)
theorem SlabAt.fAny (h : SlabAt w p c f n H T R m F) {j : Nat} (hj : j < n) : ∃ v, w.cell? ⟨f, j, none⟩ = some v := by
 obtain ⟨fs, bf, fz, ff⟩ := h.frees
 exact ⟨_, bf.val (Array.getElem?_eq_getElem (by omega))⟩
theorem SlabAt.c0 (h : SlabAt w p c f n H T R m F) {i : Nat} (hi : i < n) : w.cell? ⟨c, i * 7, none⟩ = some (.int .u64 (H i)) := by obtain ⟨cs, bc, _, cc⟩ := h.rows; exact bc.val (cc i hi 0 (by omega))
theorem SlabAt.c1 (h : SlabAt w p c f n H T R m F) {i : Nat} (hi : i < n) : w.cell? ⟨c, i * 7 + 1, none⟩ = some (.bool (T i)) := by obtain ⟨cs, bc, _, cc⟩ := h.rows; exact bc.val (cc i hi 1 (by omega))
theorem SlabAt.c2 (h : SlabAt w p c f n H T R m F) {i : Nat} (hi : i < n) : w.cell? ⟨c, i * 7 + 2, none⟩ = some (.int .u64 (R i).a) := by obtain ⟨cs, bc, _, cc⟩ := h.rows; exact bc.val (cc i hi 2 (by omega))
theorem SlabAt.c3 (h : SlabAt w p c f n H T R m F) {i : Nat} (hi : i < n) : w.cell? ⟨c, i * 7 + 3, none⟩ = some (.int .i64 (R i).b) := by obtain ⟨cs, bc, _, cc⟩ := h.rows; exact bc.val (cc i hi 3 (by omega))
theorem SlabAt.c4 (h : SlabAt w p c f n H T R m F) {i : Nat} (hi : i < n) : w.cell? ⟨c, i * 7 + 4, none⟩ = some (.int .i64 (R i).c) := by obtain ⟨cs, bc, _, cc⟩ := h.rows; exact bc.val (cc i hi 4 (by omega))
theorem SlabAt.c5 (h : SlabAt w p c f n H T R m F) {i : Nat} (hi : i < n) : w.cell? ⟨c, i * 7 + 5, none⟩ = some (.int .i64 (R i).d) := by obtain ⟨cs, bc, _, cc⟩ := h.rows; exact bc.val (cc i hi 5 (by omega))
theorem SlabAt.c6 (h : SlabAt w p c f n H T R m F) {i : Nat} (hi : i < n) : w.cell? ⟨c, i * 7 + 6, none⟩ = some (.int .i64 (R i).e) := by obtain ⟨cs, bc, _, cc⟩ := h.rows; exact bc.val (cc i hi 6 (by omega))
theorem SlabAt.apart {g : Nat} {t : TypeId} {cs : Array Value} (h : SlabAt w p c f n H T R m F) (hb : Blk w g t cs) (h1 : t ≠ 221) (h2 : t ≠ 223) (h3 : t ≠ 3) : ¬ (g = p ∨ g = c ∨ g = f) := by
 obtain ⟨cs, bc, _, _⟩ := h.rows
 obtain ⟨fs, bf, _, _⟩ := h.frees
 rintro (e | e | e)
 · exact hb.other h.head h1 e
 · exact hb.other bc h2 e
 · exact hb.other bf h3 e
theorem SlabAt.below (h : SlabAt w p c f n H T R m F) {B : Nat} (hb : Below B w w') (hp : p < B) (hc : c < B) (hf : f < B) : SlabAt w' p c f n H T R m F := by
 obtain ⟨a1, a2, a3, a4, a5, hd, ⟨cs, bc, cz, cc⟩, ⟨fs, bf, fz, ff⟩⟩ := h
 exact ⟨a1, a2, a3, a4, a5, hd.below_ hb hp, ⟨cs, bc.below_ hb hc, cz, cc⟩, ⟨fs, bf.below_ hb hf, fz, ff⟩⟩
theorem SlabAt.grown_ {base size l : Nat} {e : TypeId} {v : Value} {xs : List Value} (h : SlabAt w p c f n H T R m F) (hg : w.grownBy w' v.ownBlock) (ho : w.ownsRow base e size v l xs) (h1 : e ≠ 221) (h2 : e ≠ 223) (h3 : e ≠ 3) : SlabAt w' p c f n H T R m F := by
 obtain ⟨a1, a2, a3, a4, a5, hd, ⟨cs, bc, cz, cc⟩, ⟨fs, bf, fz, ff⟩⟩ := h
 exact ⟨a1, a2, a3, a4, a5, hd.grown_ hg ho h1, ⟨cs, bc.grown_ hg ho h2, cz, cc⟩, ⟨fs, bf.grown_ hg ho h3, fz, ff⟩⟩
theorem SlabAt.drew_ (h : SlabAt w p c f n H T R m F) : SlabAt w.drew p c f n H T R m F := h.kept (own := fun _ => False) (Kept.refl _ _).drew_ id id id
theorem SlabAt.drewN_ (h : SlabAt w p c f n H T R m F) (k : Nat) : SlabAt (w.drewN k) p c f n H T R m F := h.kept (own := fun _ => False) ((Kept.refl _ _).drewN_ k) id id id
theorem SlabAt.alloc_ (h : SlabAt w p c f n H T R m F) (o : Obj) : SlabAt (w.alloc o) p c f n H T R m F := h.kept (own := fun _ => False) ((Kept.refl _ _).alloc_ o) id id id
theorem SlabAt.far (h : SlabAt w p c f n H T R m F) {a : Addr} (hp : p ≠ a.block) (hc : c ≠ a.block) (hf : f ≠ a.block) (u : Value) : SlabAt (w.setCell a u) p c f n H T R m F :=
 h.kept (own := fun k => k = a.block) (Kept.set_ (own := fun k => k = a.block) (Kept.refl _ _) (.inl rfl) u) hp hc hf
theorem SlabAt.congr (h : SlabAt w p c f n H T R m F) (hr : ∀ j, j < n → H' j = H j ∧ T' j = T j ∧ R' j = R j) (hf : ∀ j, j < m → F' j = F j) : SlabAt w p c f n H' T' R' m F' := by
 obtain ⟨a1, a2, a3, a4, a5, hd, ⟨cs, bc, cz, cc⟩, ⟨fs, bf, fz, ff⟩⟩ := h
 exact ⟨a1, a2, a3, a4, a5, hd, ⟨cs, bc, cz, fun i hi k hk => by rw [(hr i hi).1, (hr i hi).2.1, (hr i hi).2.2]; exact cc i hi k hk⟩, ⟨fs, bf, fz, fun j hj => by rw [hf j hj]; exact ff j hj⟩⟩
theorem SlabAt.setRow (h : SlabAt w p c f n H T R m F) {i k : Nat} (hi : i < n) (hk : k < 7) {v : Value}
   (hr : ∀ j, j < n → ∀ l, l < 7 → (rowOf (H' j) (T' j) (R' j))[l]? = if j = i ∧ l = k then some v else (rowOf (H j) (T j) (R j))[l]?) : SlabAt (w.setCell ⟨c, i * 7 + k, none⟩ v) p c f n H' T' R' m F := by
 obtain ⟨a1, a2, a3, a4, a5, hd, ⟨cs, bc, cz, cc⟩, ⟨fs, bf, fz, ff⟩⟩ := h
 refine ⟨a1, a2, a3, a4, a5, hd.far _ a1, ⟨_, bc.set_ _ _, by simpa using cz, fun j hj l hl => ?_⟩, ⟨fs, bf.far _ (Ne.symm a3), fz, ff⟩⟩
 rw [hr j hj l hl]
 by_cases e : j = i ∧ l = k
 · rw [if_pos e, e.1, e.2]; exact get_set_same (by omega) v
 · rw [if_neg e, get_set_far (by omega)]; exact cc j hj l hl
theorem SlabAt.setH (h : SlabAt w p c f n H T R m F) {i : Nat} (hi : i < n) {v : Int} (hv : ∀ j, j < n → H' j = if j = i then v else H j) : SlabAt (w.setCell ⟨c, i * 7, none⟩ (.int .u64 v)) p c f n H' T R m F :=
 h.setRow (k := 0) hi (by omega) fun j hj l hl => by
   rw [hv j hj]
   by_cases e : j = i
   · match l, hl with
     | 0, _ => simp [e, rowOf]
     | 1, _ | 2, _ | 3, _ | 4, _ | 5, _ | 6, _ => simp [rowOf]
   · simp [e]
theorem SlabAt.setT (h : SlabAt w p c f n H T R m F) {i : Nat} (hi : i < n) {v : Bool} (hv : ∀ j, j < n → T' j = if j = i then v else T j) : SlabAt (w.setCell ⟨c, i * 7 + 1, none⟩ (.bool v)) p c f n H T' R m F :=
 h.setRow (k := 1) hi (by omega) fun j hj l hl => by
   rw [hv j hj]
   by_cases e : j = i
   · match l, hl with
     | 1, _ => simp [e, rowOf]
     | 0, _ | 2, _ | 3, _ | 4, _ | 5, _ | 6, _ => simp [rowOf]
   · simp [e]
theorem SlabAt.setRa (h : SlabAt w p c f n H T R m F) {i : Nat} (hi : i < n) {v : Int} : SlabAt (w.setCell ⟨c, i * 7 + 2, none⟩ (.int .u64 v)) p c f n H T (fun j => if j = i then { R j with a := v } else R j) m F :=
 h.setRow (k := 2) hi (by omega) fun j hj l hl => by
   by_cases e : j = i
   · match l, hl with
     | 2, _ => simp [e, rowOf]
     | 0, _ | 1, _ | 3, _ | 4, _ | 5, _ | 6, _ => simp [e, rowOf]
   · simp [e]
theorem SlabAt.setRb (h : SlabAt w p c f n H T R m F) {i : Nat} (hi : i < n) {v : Int} : SlabAt (w.setCell ⟨c, i * 7 + 2 + 1, none⟩ (.int .i64 v)) p c f n H T (fun j => if j = i then { R j with b := v } else R j) m F :=
 h.setRow (k := 3) hi (by omega) fun j hj l hl => by
   by_cases e : j = i
   · match l, hl with
     | 3, _ => simp [e, rowOf]
     | 0, _ | 1, _ | 2, _ | 4, _ | 5, _ | 6, _ => simp [e, rowOf]
   · simp [e]
theorem SlabAt.setRc (h : SlabAt w p c f n H T R m F) {i : Nat} (hi : i < n) {v : Int} : SlabAt (w.setCell ⟨c, i * 7 + 2 + 2, none⟩ (.int .i64 v)) p c f n H T (fun j => if j = i then { R j with c := v } else R j) m F :=
 h.setRow (k := 4) hi (by omega) fun j hj l hl => by
   by_cases e : j = i
   · match l, hl with
     | 4, _ => simp [e, rowOf]
     | 0, _ | 1, _ | 2, _ | 3, _ | 5, _ | 6, _ => simp [e, rowOf]
   · simp [e]
theorem SlabAt.setRd (h : SlabAt w p c f n H T R m F) {i : Nat} (hi : i < n) {v : Int} : SlabAt (w.setCell ⟨c, i * 7 + 2 + 3, none⟩ (.int .i64 v)) p c f n H T (fun j => if j = i then { R j with d := v } else R j) m F :=
 h.setRow (k := 5) hi (by omega) fun j hj l hl => by
   by_cases e : j = i
   · match l, hl with
     | 5, _ => simp [e, rowOf]
     | 0, _ | 1, _ | 2, _ | 3, _ | 4, _ | 6, _ => simp [e, rowOf]
   · simp [e]
theorem SlabAt.setRe (h : SlabAt w p c f n H T R m F) {i : Nat} (hi : i < n) {v : Int} : SlabAt (w.setCell ⟨c, i * 7 + 2 + 4, none⟩ (.int .i64 v)) p c f n H T (fun j => if j = i then { R j with e := v } else R j) m F :=
 h.setRow (k := 6) hi (by omega) fun j hj l hl => by
   by_cases e : j = i
   · match l, hl with
     | 6, _ => simp [e, rowOf]
     | 0, _ | 1, _ | 2, _ | 3, _ | 4, _ | 5, _ => simp [e, rowOf]
   · simp [e]
theorem SlabAt.setR (h : SlabAt w p c f n H T R m F) {i : Nat} (hi : i < n) {q0 q1 q2 q3 q4 : Int} (hv : ∀ j, j < n → R' j = if j = i then ⟨q0, q1, q2, q3, q4⟩ else R j) :
   SlabAt (((((w.setCell ⟨c, i * 7 + 2, none⟩ (.int .u64 q0)).setCell ⟨c, i * 7 + 2 + 1, none⟩ (.int .i64 q1)).setCell ⟨c, i * 7 + 2 + 2, none⟩ (.int .i64 q2)).setCell ⟨c, i * 7 + 2 + 3, none⟩ (.int .i64 q3)).setCell ⟨c, i * 7 + 2 + 4, none⟩ (.int .i64 q4)) p c f n H T R' m F :=
 (((((h.setRa hi).setRb hi).setRc hi).setRd hi).setRe hi).congr (fun j hj => ⟨rfl, rfl, by rw [hv j hj]; by_cases e : j = i <;> simp [e]⟩) (fun _ _ => rfl)
theorem SlabAt.setF (h : SlabAt w p c f n H T R m F) {i : Nat} {v : Nat} (hi : i < n) (hv : ∀ j, j < m → F' j = if j = i then v else F j) : SlabAt (w.setCell ⟨f, i, none⟩ (.int .i64 (v : Int))) p c f n H T R m F' := by
 obtain ⟨a1, a2, a3, a4, a5, hd, ⟨cs, bc, cz, cc⟩, ⟨fs, bf, fz, ff⟩⟩ := h
 refine ⟨a1, a2, a3, a4, a5, hd.far _ a2, ⟨cs, bc.far _ a3, cz, cc⟩, ⟨_, bf.set_ _ _, by simpa using fz, fun j hj => ?_⟩⟩
 rw [hv j hj]
 by_cases e : j = i
 · rw [if_pos e, e]; exact get_set_same (by omega) _
 · rw [if_neg e, get_set_far (by omega)]; exact ff j hj
theorem SlabAt.pop (h : SlabAt w p c f n H T R (m + 1) F) : SlabAt (w.setCell ⟨p, 1, none⟩ (.slice (some ⟨f, 0, none⟩) m n)) p c f n H T R m F := by
 obtain ⟨a1, a2, a3, a4, a5, hd, ⟨cs, bc, cz, cc⟩, ⟨fs, bf, fz, ff⟩⟩ := h
 exact ⟨a1, a2, a3, a4, by omega, by simpa using hd.set_ 1 (.slice (some ⟨f, 0, none⟩) m n), ⟨cs, bc.far _ (Ne.symm a1), cz, cc⟩, ⟨fs, bf.far _ (Ne.symm a2), fz, fun j hj => ff j (by omega)⟩⟩
theorem SlabAt.push (h : SlabAt w p c f n H T R m F) (hm : m < n) {v : Nat} (hv : ∀ j, j < m + 1 → F' j = if j = m then v else F j) :
   SlabAt ((w.setCell ⟨f, m, none⟩ (.int .i64 (v : Int))).setCell ⟨p, 1, none⟩ (.slice (some ⟨f, 0, none⟩) (m + 1) n)) p c f n H T R (m + 1) F' := by
 obtain ⟨a1, a2, a3, a4, a5, hd, ⟨cs, bc, cz, cc⟩, ⟨fs, bf, fz, ff⟩⟩ := h
 refine ⟨a1, a2, a3, a4, by omega, by simpa using (hd.far (.int .i64 (v : Int)) (p := ⟨f, m, none⟩) a2).set_ 1 (.slice (some ⟨f, 0, none⟩) (m + 1) n), ⟨cs, (bc.far _ a3).far _ (Ne.symm a1), cz, cc⟩, ⟨_, (bf.set_ m _).far _ (Ne.symm a2), by simpa using fz, fun j hj => ?_⟩⟩
 rw [hv j hj]
 by_cases e : j = m
 · rw [if_pos e, e]; exact get_set_same (by omega) _
 · rw [if_neg e, get_set_far (by omega)]; exact ff j (by omega)
end
theorem upto_step {α : Type} (k j : Nat) (a b : α) : (if j < k + 1 then a else b) = if j = k then a else if j < k then a else b := by
 by_cases e : j = k
 · rw [if_pos e, if_pos (by omega)]
 · by_cases e2 : j < k
   · rw [if_neg e, if_pos e2, if_pos (by omega)]
   · rw [if_neg e, if_neg e2, if_neg (by omega)]
theorem upto_at {α : Type} (k j : Nat) (a : Nat → α) (b : α) : (if j < k + 1 then a j else b) = if j = k then a k else if j < k then a j else b := by
 rw [upto_step]; by_cases e : j = k
 · rw [if_pos e, if_pos e, e]
 · rw [if_neg e, if_neg e]
theorem cinfo : (Tryz.prog.info? 223).map (fun i => (i.zero, i.size, i.bytes)) = some (some (.agg #[.int .u64 0, .bool false, .int .u64 0, .int .i64 0, .int .i64 0, .int .i64 0, .int .i64 0]), 7, 56) := by kernel_rfl
theorem iinfo : (Tryz.prog.info? 3).map (fun i => (i.zero, i.size, i.bytes)) = some (some (.int .i64 0), 1, 8) := by kernel_rfl
set_option maxHeartbeats 400000 in
theorem slcell_any (h : Int) (w : World) (h0 : 0 ≤ h) (h1 : h ≤ 18446744073709551615) :
   Calls Tryz.prog 166 #[.int .u64 h] w fun e w' => e = .returned (.int .i64 (h % 4294967296)) ∧ w = w' := by
 go_enter Tryz.func166, Tryz.ntmps166
 go_wp2
 go_ret
 exact ⟨rfl, rfl⟩
theorem run_cells (n : Nat) (hn : n ≤ 1024) (w : World) :
   (Instr.makeSlice 219 (.int .i64 (n : Int)) (.int .i64 (n : Int))).run Tryz.prog w = .ok (.slice (some ⟨w.heap.size, 0, none⟩) n n) (w.alloc (.cells (madeCells #[.int .u64 0, .bool false, .int .u64 0, .int .i64 0, .int .i64 0, .int .i64 0, .int .i64 0] (n * 7)) 223)) := by
 obtain ⟨i, hi, hzz⟩ := Option.map_eq_some_iff.1 cinfo
 simp only [Prod.mk.injEq] at hzz
 obtain ⟨hz, hs, hb⟩ := hzz
 have h := run_make (P := Tryz.prog) w 219 223 i _ Tryz.underlying219 hi hz .i64 .i64 n n (by omega) (Int.le_refl _) (by rw [hb]; omega) (by omega)
 simp only [Int.toNat_natCast, hs] at h
 exact h
theorem run_ints (n : Nat) (hn : n ≤ 1024) (w : World) :
   (Instr.makeSlice 67 (.int .i64 (n : Int)) (.int .i64 (n : Int))).run Tryz.prog w = .ok (.slice (some ⟨w.heap.size, 0, none⟩) n n) (w.alloc (.cells (madeCells #[.int .i64 0] n) 3)) :=
 run_make_row' (P := Tryz.prog) 67 3 (.int .i64 0) 8 Tryz.underlying67 iinfo rfl .i64 .i64 n (by omega) (by omega) w
set_option maxHeartbeats 400000 in
theorem slnew_yes (n : Nat) (w : World) (h0 : 1 ≤ n) (h1 : n ≤ 1024) :
   Calls Tryz.prog 76 #[.int .i64 (n : Int)] w fun e w' => ∃ p c f : Nat, e = .returned (.tuple #[.pointer (some ⟨p, 0, none⟩), .int .i64 0]) ∧ w.heap.size ≤ p ∧ w.heap.size ≤ c ∧ w.heap.size ≤ f ∧
     SlabAt w' p c f n (fun i => i) (fun _ => false) (fun _ => ⟨0, 0, 0, 0, 0⟩) n (fun j => n - 1 - j) ∧ Below w.heap.size w w' := by
 have hm1 := run_cells n h1
 have hm2 := run_ints n h1
 go_enter Tryz.func76, Tryz.ntmps76
 go_upto_region 3 with fail
 go_cut [4] (fun s4 wx => ∃ p c f : Nat, s4 = .pointer (some ⟨p, 0, none⟩) ∧ p ≠ c ∧ p ≠ f ∧ c ≠ f ∧ w.heap.size ≤ p ∧ w.heap.size ≤ c ∧ w.heap.size ≤ f ∧
   Blk wx p 221 #[.slice (some ⟨c, 0, none⟩) n n, .slice (some ⟨f, 0, none⟩) n n] ∧
   Blk wx c 223 (madeCells #[.int .u64 0, .bool false, .int .u64 0, .int .i64 0, .int .i64 0, .int .i64 0, .int .i64 0] (n * 7)) ∧ Blk wx f 3 (madeCells #[.int .i64 0] n) ∧ Below w.heap.size w wx)
 case first =>
   go_region
   all_goals (try go_wp2)
   all_goals go_meet
   all_goals (first
     | (refine ⟨w.heap.size + 1 + 1, w.heap.size, w.heap.size + 1, rfl, by omega, by omega, by omega, by omega, by omega, by omega, ?_, ?_, ?_, ?_⟩ <;> (repeat (first | with_reducible exact Below.refl _ _ | with_reducible apply Below.drew | refine Below.alloc ?_ (by (try simp); (try omega)) _ | (with_reducible refine Blk.new_ ?_; simp; done) | with_reducible refine Blk.drew_ ?_ | with_reducible refine Blk.alloc_ ?_ _)); done)
     | (refine ⟨w.heap.size + 1 + 1, w.heap.size + 1, w.heap.size, rfl, by omega, by omega, by omega, by omega, by omega, by omega, ?_, ?_, ?_, ?_⟩ <;> (repeat (first | with_reducible exact Below.refl _ _ | with_reducible apply Below.drew | refine Below.alloc ?_ (by (try simp); (try omega)) _ | (with_reducible refine Blk.new_ ?_; simp; done) | with_reducible refine Blk.drew_ ?_ | with_reducible refine Blk.alloc_ ?_ _)); done))
 case rest =>
   obtain ⟨p, c, f, rfl, hpc, hpf, hcf, hp, hc, hf, bp, bc, bf, hb⟩ := hcut
   go_wp2
   clear hm1 hm2
   go_loopw [5, 19] (fun _ i wr => ∃ k : Nat, k ≤ n ∧ i = .int .i64 k ∧ SlabAt wr p c f n (fun j => if j < k then (j : Int) else 0) (fun _ => false) (fun _ => ⟨0, 0, 0, 0, 0⟩) n (fun j => if j < k then n - 1 - j else 0) ∧ Below w.heap.size w wr) (fun _ i _ => n - (intOf i).toNat)
   case atStart =>
     refine ⟨0, Nat.zero_le _, rfl, ⟨hpc, hpf, hcf, h1, Nat.le_refl _, bp, ⟨_, bc, ?_, ?_⟩, ⟨_, bf, ?_, ?_⟩⟩, hb⟩
     · exact made_size _ _
     · intro i hi k hk
       rw [made_at _ _ (by omega) (by decide)]
       have e : (i * 7 + k) % 7 = k := by omega
       match k, hk with
       | 0, _ | 1, _ | 2, _ | 3, _ | 4, _ | 5, _ | 6, _ => simp [rowOf, e]
     · exact made_size _ _
     · intro j hj
       rw [made_at _ _ (by omega) (by decide)]
       simp [Nat.mod_one]
   case round =>
     obtain ⟨k, hk, rfl, hs, hbr⟩ := hrel
     by_cases hlt : k < n
     · have ⟨_, _, _, _, _, hd, ⟨cs, bc', cz, cc⟩, ⟨fs, bf', fz, ff⟩⟩ := hs
       have c0 := hd.val (i := 0) rfl
       have c1 := hd.val (i := 1) rfl
       have c2 := bc'.val (cc k hlt 0 (by omega))
       have c3 := bf'.val (ff k hlt)
       have z2 := bc'.free (k * 7 + 0)
       have z3 := bf'.free k
       simp only [Nat.add_zero] at c2 z2
       have HS := Lib.hid hs
       clear cc ff hs
       go_wp2
       go_roundw
       case rel =>
         have e : ((n : Int) - 1 - k) = ((n - 1 - k : Nat) : Int) := by omega
         rw [e]
         exact ⟨k + 1, by omega, by go_num, (HS.out.setH hlt (fun j hj => upto_at k j (fun j => (j : Int)) 0)).setF hlt (fun j hj => upto_at k j (fun j => n - 1 - j) 0), (hbr.setCell hc _).setCell hf _⟩
       case measure => simp [intOf]; omega
     · have hke : k = n := by omega
       subst hke
       have HS := Lib.hid hs
       clear hs
       go_wp2
       go_ret2
       refine ⟨p, c, f, rfl, hp, hc, hf, HS.out.congr (fun j hj => ⟨by simp [hj], rfl, rfl⟩) (fun j hj => by simp [hj]), hbr⟩
end Go.Proofs.YtcffeokbipjaoaaGreat
namespace Go.Proofs.YtcffeokbipjaoaaGreat
open Go.RowKit
theorem under0 {w a c : World} (h : Below w.heap.size w a) (hc : Below a.heap.size a c) : Below w.heap.size w c := h.trans (hc.mono h.size)
end Go.Proofs.YtcffeokbipjaoaaGreat
namespace Go.Proofs.YtcffeokbipjaoaaGreat
open Go.RowKit
theorem kalloc {w : World} {a : Addr} {v : Value} (h : w.cell? a = some v) (o : Obj) : (w.alloc o).cell? a = some v := (World.cell?_alloc_some w a o (by rw [h]; rfl)).trans h
theorem kdrew {w : World} {a : Addr} {v : Value} (h : w.cell? a = some v) : w.drew.cell? a = some v := h
theorem kset {w : World} {a p : Addr} {v u : Value} (h : w.cell? a = some v) (hp : p.block ≠ a.block) : (w.setCell p u).cell? a = some v := (World.cell?_setCell_far w p a u hp).trans h
theorem klt {w : World} {a : Addr} {v : Value} (h : w.cell? a = some v) : a.block < w.heap.size := World.block_lt_of_cell? w a h
end Go.Proofs.YtcffeokbipjaoaaGreat
namespace Go.Proofs.YtcffeokbipjaoaaGreat
theorem wp_enter {P : Program} {o : Oper} {a : Act} {next : Act → World → Prop} {Q : Exit → Act → World → Prop} {w : World} {f : FuncId} {args : Array Value}
   (h : (execOp a.eval o).run P w = .ok (.enter f args) w)
   (k : Calls P f args w fun e w1 => ∃ v, e = .returned v ∧ next (a.put o.dst v) w1) : o.wp P a w next Q := by
 unfold Oper.wp
 rw [h, Oper.upon_enter]
 refine k.mono ?_
 rintro e w1 ⟨v, rfl, hn⟩
 exact hn
end Go.Proofs.YtcffeokbipjaoaaGreat
