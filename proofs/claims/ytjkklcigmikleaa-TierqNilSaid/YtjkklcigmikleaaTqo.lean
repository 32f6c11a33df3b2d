/- Who goes through a queue, tier by tier: All. -/
import Derived.Test.YtjkklcigmikleaaTqi
import Derived.Test.YtjkklcigmikleaaDall
import Derived.Test.YtjkklcigmikleaaRfn
namespace Go.Proofs.Ytjkklcigmikleaa
open Go.RowKit Go.Shelf
set_option linter.unusedVariables false
set_option linter.unusedSimpArgs false
attribute [local go_sem] Oper.semAt_some
/-- All members, tier by tier. -/
def allT (L : Nat → List Nat) (t : Nat) : List Nat := (List.range t).flatMap L
theorem allT_succ (L : Nat → List Nat) (t : Nat) : allT L (t + 1) = allT L t ++ L t := by unfold allT; rw [List.range_succ, List.flatMap_append]; simp
theorem allT_pre (L : Nat → List Nat) {t N : Nat} (h : t ≤ N) : allT L t <+: allT L N := by
  obtain ⟨d, rfl⟩ := Nat.le.dest h
  clear h
  induction d with
  | zero => exact List.prefix_refl _
  | succ d ih => rw [← Nat.add_assoc, allT_succ]; exact ih.trans (List.prefix_append _ _)
/-- What is handed to the loop: a handle, a request. -/
abbrev encQ (V : Nat → Int) (R : Nat → Rq) (i : Nat) : Array Value := #[.int .u64 (V i), rqv (R i)]
abbrev tyQ : TypeId := 24
abbrev tyY : TypeId := 97
abbrev tyR : TypeId := 67
abbrev tyI : TypeId := 3
/-- What a loop over a queue must leave alone: all below B, and from k on the boxes of the iterator's own types. -/
structure KpQ (B k : Nat) (X Y : World) : Prop where
  be : Below B X Y
  bx : ∀ g t cs, k ≤ g → (t = tyQ ∨ t = tyY ∨ t = tyR ∨ t = tyI) → Blk X g t cs → Blk Y g t cs
theorem KpQ.refl (B k : Nat) (X : World) : KpQ B k X X := ⟨Below.refl _ _, fun _ _ _ _ _ h => h⟩
theorem KpQ.trans {B k : Nat} {X Y Z : World} (h : KpQ B k X Y) (j : KpQ B k Y Z) : KpQ B k X Z := ⟨h.be.trans j.be, fun g t cs hg ht hb => j.bx g t cs hg ht (h.bx g t cs hg ht hb)⟩
theorem KpQ.of_below {B k : Nat} {X Y : World} (h : Below X.heap.size X Y) (hB : B ≤ X.heap.size) : KpQ B k X Y := ⟨h.mono hB, fun g t cs _ _ hb => hb.below_ h hb.size⟩
theorem KpQ.put {B k : Nat} (X : World) (l : Nat) (o o' : Obj) (hl : B ≤ l) (h : X.heap[l]? = some o) (ho : o.isCells = false) : KpQ B k X (X.putObj l o') :=
  ⟨⟨rfl, rfl, rfl, by simp, fun i hi => World.putObj_heap_other (by omega)⟩, fun g t cs _ _ hb => by
    have hne : g ≠ l := by
      rintro rfl
      unfold Blk at hb
      rw [hb] at h
      injection h with h
      subst h
      cases ho
    unfold Blk at hb ⊢
    rw [World.putObj_heap_other hne]
    exact hb⟩
/-- Marks of loops that are over. -/
def Marks (B : Nat) (ds : List Deferred) (W : World) : Prop := (ds.map fun d => d.target).Nodup ∧ ∀ d, d ∈ ds → ∃ D, d = { target := .collected D, args := #[] } ∧ B ≤ D ∧ W.heap[D]? = some (.deferred (some []))
theorem Marks.keeps {B : Nat} {ds : List Deferred} {W W' : World} (h : Marks B ds W) (hk : KeepsFrom B W W') : Marks B ds W' :=
  ⟨h.1, fun d hd => by obtain ⟨D, h1, h2, h3⟩ := h.2 d hd; exact ⟨D, h1, h2, hk.same D _ h2 h3 rfl⟩⟩
theorem Marks.own {B B' : Nat} {ds : List Deferred} {W X Y : World} {row : Option Nat} (h0 : Marks B ds W) (hB : W.heap.size ≤ B') (h : Marks B ds X) (hg : X.grownBy Y row) (hr : ∀ r, row = some r → B' ≤ r) : Marks B ds Y :=
  ⟨h.1, fun d hd => by
    obtain ⟨D, h1, h2, h3⟩ := h.2 d hd
    obtain ⟨D', h1', _, h3'⟩ := h0.2 d hd
    have e : D = D' := by rw [h1] at h1'; injection h1' with h1'; injection h1'
    subst e
    have hlt := (Array.getElem?_eq_some_iff.1 h3').1
    refine ⟨D, h1, h2, (hg.block D (Array.getElem?_eq_some_iff.1 h3).1 (fun e => ?_)).trans h3⟩
    have := hr D e.symm
    omega⟩
theorem Marks.add {B D : Nat} {ds : List Deferred} {W : World} (h : Marks B ds W) (hB : B ≤ D) (hD : W.heap[D]? = some (.deferred (some []))) (hn : ∀ d, d ∈ ds → ∀ D', d = { target := .collected D', args := #[] } → D' < D) : Marks B ({ target := .collected D, args := #[] } :: ds) W := by
  refine ⟨?_, fun d hd => ?_⟩
  · rw [List.map_cons]
    refine List.nodup_cons.2 ⟨fun m => ?_, h.1⟩
    obtain ⟨d, hd, e⟩ := List.mem_map.1 m
    obtain ⟨D', h1, _, _⟩ := h.2 d hd
    have := hn d hd D' h1
    rw [h1] at e
    have e2 : D' = D := by simpa using e
    omega
  · rcases List.mem_cons.1 hd with rfl | hd
    · exact ⟨D, rfl, hB, hD⟩
    · exact h.2 d hd
/-- A function leaves with its marks. -/
theorem leaves_marks {F : Fence} {n : Nat} {P : Program} {fn : Func} {tmps : Array Value} {R : Ending → World → Prop} {B : Nat} {v : Value} (hv : ∀ W, (results fn tmps).run P W = .ok v W) (Φ : World → Prop) (hΦ : OwnFrom B (fun (_ : Unit) W => Φ W)) (hR : ∀ W, Φ W → R (.returned v) W) :
    ∀ (ds : List Deferred) (W : World), Marks B ds W → Φ W → LeavesInM F n P fn tmps R ds .returning W
  | [], W, _, h => ⟨v, hv W, hR W h⟩
  | d :: ds, W, hm, h => by
    obtain ⟨D, rfl, hB, hD⟩ := hm.2 d List.mem_cons_self
    have h9 := hm.1
    rw [List.map_cons] at h9
    have h8 := List.nodup_cons.1 h9
    refine ⟨by simp, .inl ⟨D, _, rfl, run_takeDeferred hD, leaves_marks hv Φ hΦ hR ds _ ⟨h8.2, fun d hd => ?_⟩ (hΦ.putObj (s := ()) _ h hB hD rfl)⟩⟩
    obtain ⟨D', h1, h2, h3⟩ := hm.2 d (List.mem_cons_of_mem _ hd)
    refine ⟨D', h1, h2, (World.putObj_heap_other ?_).trans h3⟩
    rintro rfl
    exact h8.1 (List.mem_map.2 ⟨d, hd, by rw [h1]⟩)
end Go.Proofs.Ytjkklcigmikleaa
