/- A queue by tiers: who is due, as they are taken one by one. -/
import Derived.Test.YthkkkcdiidflpaaTqi
import Derived.Laws.BitsLemmas
namespace Go.Proofs.Ythkkkcdiidflpaa
open Go.ChangeShapes Go.WideShapes Go.RowKit
set_option linter.unusedVariables false
set_option linter.unusedSimpArgs false
theorem i64_and7 (n : Int) : bits .and .i64 n 7 = n % 8 := by
  have h7 : (BitVec.ofInt 64 7).toNat = 2 ^ 3 - 1 := by decide
  have key : (BitVec.ofInt 64 n &&& BitVec.ofInt 64 7).toNat = (n % ((2 ^ 64 : Nat) : Int)).toNat % 2 ^ 3 := by
    rw [BitVec.toNat_and, BitVec.toNat_ofInt, h7, Nat.and_two_pow_sub_one_eq_mod]
  show IntKind.i64.wrap ((BitVec.ofInt 64 n &&& BitVec.ofInt 64 7).toNat : Nat) = n % 8
  rw [key, IntKind.wrap_i64]
  omega
theorem due_rem (now c : Int) (L : List En) : dueE now (remK c L) = remK c (dueE now L) := by
  unfold dueE remK
  rw [List.filter_filter, List.filter_filter]
  congr 1
  funext e
  exact Bool.and_comm _ _
theorem remk_none {c : Int} {L : List En} (h : ∀ e, e ∈ L → e.m ≠ c) : remK c L = L := by
  unfold remK
  rw [List.filter_eq_self]
  intro e he
  simp [h e he]
theorem rem_drop {D : List En} (hs : D.Pairwise ltE) (hu : ∀ e e', e ∈ D → e' ∈ D → e.m = e'.m → e = e') {p : Nat} (hp : p < D.length) : remK (D[p].m) (D.drop p) = D.drop (p + 1) := by
  have e : D.drop p = D[p] :: D.drop (p + 1) := List.drop_eq_getElem_cons hp
  have h1 : (D.drop p).Pairwise ltE := hs.sublist (List.drop_sublist _ _)
  rw [e] at h1 ⊢
  have h2 := (List.pairwise_cons.1 h1).1
  have h3 : remK (D[p].m) (D[p] :: D.drop (p + 1)) = remK (D[p].m) (D.drop (p + 1)) := by
    unfold remK
    rw [List.filter_cons_of_neg (by simp)]
  rw [h3]
  refine remk_none fun x hx he => ?_
  have := hu x D[p] (List.mem_of_mem_drop hx) (List.getElem_mem hp) he
  subst this
  exact ltE_irrefl _ (h2 _ hx)
theorem due_ins (now : Int) (e : En) : ∀ L : List En, (dueE now (insE e L)).length = (dueE now L).length + (if e.k ≤ now then 1 else 0)
  | [] => by unfold insE dueE; by_cases c : e.k ≤ now <;> simp [c]
  | a :: l => by
    unfold insE
    split
    · unfold dueE; by_cases c : e.k ≤ now <;> simp [c]
    · have ih := due_ins now e l
      unfold dueE at ih ⊢
      by_cases c : a.k ≤ now
      · rw [List.filter_cons_of_pos (by simp [c]), List.filter_cons_of_pos (by simp [c]), List.length_cons, List.length_cons, ih]; omega
      · rw [List.filter_cons_of_neg (by simp [c]), List.filter_cons_of_neg (by simp [c]), ih]
theorem due_up {D : List En} (now : Int) (hs : D.Pairwise ltE) : (dueE now D).Pairwise ltE := hs.sublist List.filter_sublist
theorem due_mem {D : List En} {now : Int} {e : En} : e ∈ dueE now D ↔ e ∈ D ∧ e.k ≤ now := by unfold dueE; simp
section
variable {N n K : Nat} {s : Ts}
theorem TInv.one (h : TInv N n K s) (e e' : En) (he : e ∈ s.D) (he' : e' ∈ s.D) (hm : e.m = e'.m) : e = e' := by
  obtain ⟨i, _, _, rfl⟩ := h.ds e he
  obtain ⟨j, _, _, rfl⟩ := h.ds e' he'
  have : i = j := by have : (i : Int) = j := hm; omega
  subst this
  rfl
/-- Who stands at place p of those that are due. -/
theorem TInv.due_at (h : TInv N n K s) {now : Int} {p : Nat} (hp : p < (dueE now s.D).length) : ∃ i : Nat, memE (dueE now s.D) p = i ∧ i < n ∧ s.T i = true ∧ (dueE now s.D)[p] = ⟨(s.R i).d, (s.R i).a, (i : Int)⟩ ∧ (s.R i).d ≤ now := by
  have h1 := due_mem.1 (List.getElem_mem hp)
  obtain ⟨i, hi, ht, he⟩ := h.ds _ h1.1
  refine ⟨i, ?_, hi, ht, he, by have := h1.2; rw [he] at this; exact this⟩
  unfold memE
  rw [List.getElem?_eq_getElem hp, he]
  simp
theorem memE_drop (D : List En) (p : Nat) : memE (D.drop p) 0 = memE D p := by unfold memE; rw [List.getElem?_drop, Nat.add_zero]
theorem TqL.box5 {w : World} {base q g : Nat} {a0 a1 a2 a3 a4 u0 u1 u2 u3 u4 : Value} (h : TqL w base q N n K s) (hg : Blk w g 33 #[a0, a1, a2, a3, a4]) :
    TqL (((((w.setCell ⟨g, 0, none⟩ u0).setCell ⟨g, 1, none⟩ u1).setCell ⟨g, 2, none⟩ u2).setCell ⟨g, 3, none⟩ u3).setCell ⟨g, 4, none⟩ u4) base q N n K s ∧
    Blk (((((w.setCell ⟨g, 0, none⟩ u0).setCell ⟨g, 1, none⟩ u1).setCell ⟨g, 2, none⟩ u2).setCell ⟨g, 3, none⟩ u3).setCell ⟨g, 4, none⟩ u4) g 33 #[u0, u1, u2, u3, u4] := by
  have b0 := hg.set_ 0 u0
  have b1 := b0.set_ 1 u1
  have b2 := b1.set_ 2 u2
  have b3 := b2.set_ 3 u3
  exact ⟨((((h.boxed hg).boxed b0).boxed b1).boxed b2).boxed b3, b3.set_ 4 u4⟩
theorem OwH.frame {w w' : World} {base q g c l : Nat} {hs : Nat} {Z : Nat → Int} (h : OwH w base (.slice (some ⟨g, 0, none⟩) l c) l Z) (hf : Fr w w' q n) (he : w.cell? ⟨q, 4, none⟩ = some (.slice (some ⟨hs, 0, none⟩) n n)) (hne : g ≠ hs) : OwH w' base (.slice (some ⟨g, 0, none⟩) l c) l Z := by
  refine ⟨h.1, ?_⟩
  rcases h.2 with h0 | ⟨g', cap, cur, hv, hb, hg, h1, h2, h3, h4⟩
  · exact .inl h0
  · refine .inr ⟨g', cap, cur, hv, hb, ?_, h1, h2, h3, h4⟩
    have : g = g' := by injection hv with e _ _; injection e with e; injection e
    subst this
    exact (hf.2 hs he).2 g cur hg hne
theorem OwH.far {w : World} {base g l c : Nat} {Z : Nat → Int} {p : Addr} {cs : Array Value} (h : OwH w base (.slice (some ⟨g, 0, none⟩) l c) l Z) (hb : Blk w p.block 33 cs) (u : Value) : OwH (w.setCell p u) base (.slice (some ⟨g, 0, none⟩) l c) l Z := by
  refine ⟨h.1, ?_⟩
  rcases h.2 with h0 | ⟨g', cap, cur, hv, hb', hg, h1, h2, h3, h4⟩
  · exact .inl h0
  · exact .inr ⟨g', cap, cur, hv, hb', Blk.far (cs := cur) hg u (Blk.other (cs := cur) hg hb (by decide)), h1, h2, h3, h4⟩
theorem box_rest {w : World} {base q hs g gd l c B : Nat} {a0 a1 a2 a3 a4 u0 u1 u2 u3 u4 : Value} {Z : Nat → Int} {w0 : World} (hg : Blk w g 33 #[a0, a1, a2, a3, a4]) (ho : OwH w base (.slice (some ⟨gd, 0, none⟩) l c) l Z) (h4 : w.cell? ⟨q, 4, none⟩ = some (.slice (some ⟨hs, 0, none⟩) n n)) (hq : q ≠ g) (hb : Below B w0 w) (hB : B ≤ g) :
    OwH (((((w.setCell ⟨g, 0, none⟩ u0).setCell ⟨g, 1, none⟩ u1).setCell ⟨g, 2, none⟩ u2).setCell ⟨g, 3, none⟩ u3).setCell ⟨g, 4, none⟩ u4) base (.slice (some ⟨gd, 0, none⟩) l c) l Z ∧
    (((((w.setCell ⟨g, 0, none⟩ u0).setCell ⟨g, 1, none⟩ u1).setCell ⟨g, 2, none⟩ u2).setCell ⟨g, 3, none⟩ u3).setCell ⟨g, 4, none⟩ u4).cell? ⟨q, 4, none⟩ = some (.slice (some ⟨hs, 0, none⟩) n n) ∧
    Below B w0 (((((w.setCell ⟨g, 0, none⟩ u0).setCell ⟨g, 1, none⟩ u1).setCell ⟨g, 2, none⟩ u2).setCell ⟨g, 3, none⟩ u3).setCell ⟨g, 4, none⟩ u4) := by
  have b0 := hg.set_ 0 u0
  have b1 := b0.set_ 1 u1
  have b2 := b1.set_ 2 u2
  have b3 := b2.set_ 3 u3
  have o0 := OwH.far (p := ⟨g, 0, none⟩) ho hg u0
  have o1 := OwH.far (p := ⟨g, 1, none⟩) o0 b0 u1
  have o2 := OwH.far (p := ⟨g, 2, none⟩) o1 b1 u2
  have o3 := OwH.far (p := ⟨g, 3, none⟩) o2 b2 u3
  have o4 := OwH.far (p := ⟨g, 4, none⟩) o3 b3 u4
  have k0 := (World.cell?_of_block (a := ⟨q, 4, none⟩) (Below.heap_setCell w ⟨g, 0, none⟩ u0 q hq)).trans h4
  have k1 := (World.cell?_of_block (a := ⟨q, 4, none⟩) (Below.heap_setCell _ ⟨g, 1, none⟩ u1 q hq)).trans k0
  have k2 := (World.cell?_of_block (a := ⟨q, 4, none⟩) (Below.heap_setCell _ ⟨g, 2, none⟩ u2 q hq)).trans k1
  have k3 := (World.cell?_of_block (a := ⟨q, 4, none⟩) (Below.heap_setCell _ ⟨g, 3, none⟩ u3 q hq)).trans k2
  have k4 := (World.cell?_of_block (a := ⟨q, 4, none⟩) (Below.heap_setCell _ ⟨g, 4, none⟩ u4 q hq)).trans k3
  have e0 := hb.setCell (p := ⟨g, 0, none⟩) hB u0
  have e1 := e0.setCell (p := ⟨g, 1, none⟩) hB u1
  have e2 := e1.setCell (p := ⟨g, 2, none⟩) hB u2
  have e3 := e2.setCell (p := ⟨g, 3, none⟩) hB u3
  have e4 := e3.setCell (p := ⟨g, 4, none⟩) hB u4
  exact ⟨o4, k4, e4⟩
theorem TqL.due_len {w : World} {base q : Nat} (h : TqL w base q N n K s) (now : Int) : (dueE now s.D).length ≤ n := by
  obtain ⟨⟨hs, sp, sc, sf, rp, ra, rb, hp, hb', A, h1, h2⟩, h3⟩ := h
  exact Nat.le_trans (List.length_filter_le _ _) h1.heap.heapL.len.1
end
end Go.Proofs.Ythkkkcdiidflpaa
