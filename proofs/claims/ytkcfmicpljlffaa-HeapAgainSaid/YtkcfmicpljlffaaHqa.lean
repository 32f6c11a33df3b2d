/- The program's heap beside the document's. -/
import Derived.Test.YtkcfmicpljlffaaHpz
namespace Go.Proofs.Ytkcfmicpljlffaa
open Go.ChangeShapes Go.WideShapes Go.RowKit
set_option linter.unusedVariables false
set_option linter.unusedSimpArgs false
/-- The types of whose blocks a heap is not made. -/
def okH (t : TypeId) : Prop := t ≠ 60 ∧ t ≠ 65 ∧ t ≠ 3
theorem okH_x : okH 31 := ⟨by decide, by decide, by decide⟩
theorem okH_e : okH 46 := ⟨by decide, by decide, by decide⟩
section
variable {w w' : World} {p b n m c base x : Nat} {A : Option Addr} {E : Nat → En} {F : Nat → Option (Int × Int)} {L : List En}
theorem HeapIn.apart (h : HeapIn w p b n A m c E F) {g : Nat} {t : TypeId} {cs : Array Value} (hb : Blk w g t cs) (ht : okH t) : g ≠ p ∧ g ≠ b ∧ ∀ y, A = some y → y.block ≠ g := by
  obtain ⟨P, h1, h2⟩ := h.at_
  obtain ⟨ps, bp, _, _⟩ := h1.place
  refine ⟨hb.other h1.head ht.1, hb.other bp ht.2.2, fun y hy e => ?_⟩
  rcases Nat.eq_zero_or_pos c with h0 | h0
  · rw [h.nil_ h0] at hy; cases hy
  · obtain ⟨a, cs', ea, ba, _⟩ := h1.tree h0
    rw [ea] at hy
    injection hy with hy
    subst hy
    exact hb.other ba ht.2.1 e.symm
theorem HeapIn.tkept (h : HeapIn w p b n A m c E F) {own : Nat → Prop} (hk : Kept own w w') (ho : ∀ g, own g → g = p ∨ g = b ∨ (∃ y, A = some y ∧ y.block = g) ∨ w.heap.size ≤ g) : TKept okH w w' :=
  TKept.of_kept hk fun g t cs hb ht hg => by
    obtain ⟨h1, h2, h3⟩ := h.apart hb ht
    have := hb.size
    rcases ho g hg with e | e | ⟨y, hy, e⟩ | e
    · exact h1 e
    · exact h2 e
    · exact h3 y hy e
    · omega
theorem HeapL.keptx {t : TypeId} {cs : Array Value} (h : HeapL base w p n L) (hx : Blk w x t cs) (ht : okH t) (hk : Kept (fun g => g = x) w w') : HeapL base w' p n L := by
  obtain ⟨b, A, m, c, E, F, h1, h2⟩ := h.ex
  obtain ⟨a1, a2, a3⟩ := h1.apart hx ht
  exact ⟨b, A, m, c, E, F, h1.kept2 hk (Ne.symm a1) (Ne.symm a2) (fun y hy e => a3 y hy e), h2⟩
theorem HeapL.distinct (h : HeapL base w p n L) : L.Pairwise fun a b => a.m ≠ b.m := by
  obtain ⟨b, A, m, c, E, F, h1, _, h3, _⟩ := h.ex
  refine List.Pairwise.imp_of_mem ?_ h3.up
  intro a b ha hb hl e
  obtain ⟨i, hi, ei, fi⟩ := (h3.mem a).1 ha
  obtain ⟨j, hj, ej, fj⟩ := (h3.mem b).1 hb
  have : i = j := by omega
  subst this
  rw [fi] at fj
  injection fj with fj
  injection fj with f1 f2
  unfold ltE at hl
  omega
theorem lput_new2 {i : Nat} (k t : Int) (hi : i < n) (hh : hasE (i : Int) L = false) (w : World) (h : HeapL base w p n L) : Calls Try.prog 16 #[.pointer (some ⟨p, 0, none⟩), .int .i64 (i : Int), .int .i64 k, .int .u64 t] w fun e w' => e = .returned (.int .i64 0) ∧ HeapL base w' p n (insE ⟨k, t, i⟩ L) ∧ Below base w w' ∧ TKept okH w w' := by
  have hs := h.size
  obtain ⟨b, A, m, c, E, F, h1, h2, h3, hp, hb, ha⟩ := h.ex
  have hF := h3.none_ hi hh
  refine (hput_new k t hi hF w h1 h2).mono ?_
  rintro e w' ⟨rfl, A', c', E', w2, h4, h5, k1, k2, h6⟩
  have ha' : ∀ x, A' = some x → base ≤ x.block := fun x hx => by
    rcases h6 x hx with ⟨y, hy, e⟩ | h7
    · rw [← e]; exact ha y hy
    · omega
  have b1 := k1.below (own_base_ hp hb ha) hs
  have b2 := k2.below (fun g hg => own_base_ hp hb ha' g (.inr hg)) (Nat.le_trans hs k1.size)
  have k3 : Kept (fun g => hOwnP p b A g ∨ hOwn b A' g) w w' := (k1.more fun _ _ h => .inl h).trans (k2.more fun _ _ h => .inr h)
  refine ⟨rfl, ⟨b, A', m + 1, c', E', _, h4, h5, h3.ins hi hF k t, hp, hb, ha'⟩, b1.trans b2, h1.tkept k3 fun g hg => ?_⟩
  rcases hg with (h | h | ⟨y, hy, e⟩) | (h | ⟨y, hy, e⟩)
  · exact .inl h
  · exact .inr (.inl h)
  · exact .inr (.inr (.inl ⟨y, hy, e⟩))
  · exact .inr (.inl h)
  · rcases h6 y hy with ⟨z, hz, ez⟩ | h7
    · exact .inr (.inr (.inl ⟨z, hz, by omega⟩))
    · exact .inr (.inr (.inr (by omega)))
theorem lrem_yes2 {i : Nat} (hi : i < n) (hh : hasE (i : Int) L = true) (w : World) (h : HeapL base w p n L) : Calls Try.prog 10 #[.pointer (some ⟨p, 0, none⟩), .int .i64 (i : Int)] w fun e w' => e = .returned (.int .i64 0) ∧ HeapL base w' p n (remE (i : Int) L) ∧ Below base w w' ∧ TKept okH w w' := by
  have hs := h.size
  obtain ⟨b, A, m, c, E, F, h1, h2, h3, hp, hb, ha⟩ := h.ex
  obtain ⟨kt, hF⟩ := h3.some_ hi hh
  obtain ⟨P, h4, h5⟩ := h1.at_
  obtain ⟨q, hq, _⟩ := h5.get hi hF
  obtain ⟨m', rfl⟩ : ∃ m', m = m' + 1 := ⟨m - 1, by omega⟩
  refine (hrem_yes hi hF rfl w h1 h2).mono ?_
  rintro e w' ⟨rfl, E', h6, h7, k1⟩
  refine ⟨rfl, ⟨b, A, m', c, E', _, h6, h7, h3.rem hi, hp, hb, ha⟩, k1.below (own_base_ hp hb ha) hs, h1.tkept k1 fun g hg => ?_⟩
  rcases hg with h | h | ⟨y, hy, e⟩
  · exact .inl h
  · exact .inr (.inl h)
  · exact .inr (.inr (.inl ⟨y, hy, e⟩))
theorem rem_head {a : En} {l : List En} (h : (a :: l).Pairwise fun a b => a.m ≠ b.m) : remE a.m (a :: l) = l := by
  rw [List.pairwise_cons] at h
  unfold remE
  rw [List.filter_cons]
  simp
  intro b hb
  exact Ne.symm (h.1 b hb)
theorem has_tail {a : En} {l : List En} (h : (a :: l).Pairwise fun a b => a.m ≠ b.m) : hasE a.m l = false := by
  rw [List.pairwise_cons] at h
  rw [hasE_no]
  intro e he
  exact Ne.symm (h.1 e he)
theorem drop_cons {i : Nat} (hi : i < L.length) : L.drop i = L[i]! :: L.drop (i + 1) := by
  rw [List.drop_eq_getElem_cons hi, getElem!_pos L i hi]
end
end Go.Proofs.Ytkcfmicpljlffaa
