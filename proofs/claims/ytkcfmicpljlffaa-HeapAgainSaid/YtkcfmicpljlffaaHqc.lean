/- Two heaps side by side. -/
import Derived.Test.YtkcfmicpljlffaaHqa
namespace Go.Proofs.Ytkcfmicpljlffaa
open Go.ChangeShapes Go.WideShapes Go.RowKit
set_option linter.unusedVariables false
set_option linter.unusedSimpArgs false
/-- A heap with its blocks: the head, the places, the tree. -/
structure HeapB (w : World) (p b n : Nat) (A : Option Addr) (L : List En) : Prop where
  ex : ∃ m c E F, HeapIn w p b n A m c E F ∧ Ord m E ∧ AllL n F L
/-- Two heaps apart from one another, their blocks from base on, their places below top. -/
structure Two (base top : Nat) (w : World) (p p' n : Nat) (L L' : List En) : Prop where
  ex : ∃ b A b' A', HeapB w p b n A L ∧ HeapB w p' b' n A' L' ∧ base ≤ p ∧ base ≤ b ∧ (∀ x, A = some x → base ≤ x.block) ∧ base ≤ p' ∧ base ≤ b' ∧ (∀ x, A' = some x → base ≤ x.block) ∧
    p ≠ p' ∧ b ≠ b' ∧ (∀ x y, A = some x → A' = some y → x.block ≠ y.block) ∧ b < top ∧ b' < top ∧ base ≤ w.heap.size
section
variable {w w' : World} {p p' b b' n base top : Nat} {A A' : Option Addr} {L L' : List En}
theorem HeapB.below (h : HeapB w p b n A L) (hb : Below w.heap.size w w') : HeapB w' p b n A L := by
  obtain ⟨m, c, E, F, h1, h2⟩ := h.ex
  exact ⟨m, c, E, F, h1.below hb, h2⟩
theorem HeapB.heapL (h : HeapB w p b n A L) (h1 : base ≤ p) (h2 : base ≤ b) (h3 : ∀ x, A = some x → base ≤ x.block) : HeapL base w p n L := by
  obtain ⟨m, c, E, F, h4, h5, h6⟩ := h.ex
  exact ⟨b, A, m, c, E, F, h4, h5, h6, h1, h2, h3⟩
theorem HeapB.sizes (h : HeapB w p b n A L) : p < w.heap.size ∧ b < w.heap.size ∧ ∀ x, A = some x → x.block < w.heap.size := by
  obtain ⟨m, c, E, F, h4, _⟩ := h.ex
  have hu := h4.under_ (by omega)
  exact ⟨hu.p, hu.b, hu.a⟩
theorem HeapB.types (h : HeapB w p b n A L) : (∃ cs, Blk w p 60 cs) ∧ (∃ cs, Blk w b 3 cs) ∧ ∀ x, A = some x → ∃ cs, Blk w x.block 65 cs := by
  obtain ⟨m, c, E, F, h1, _⟩ := h.ex
  obtain ⟨P, h2, _⟩ := h1.at_
  obtain ⟨ps, bp, _⟩ := h2.place
  refine ⟨⟨_, h2.head⟩, ⟨_, bp⟩, fun x hx => ?_⟩
  rcases Nat.eq_zero_or_pos c with h0 | h0
  · rw [h1.nil_ h0] at hx; cases hx
  · obtain ⟨a, cs, ea, ba, _⟩ := h2.tree h0
    rw [ea] at hx; injection hx with hx; subst hx
    exact ⟨cs, ba⟩
/-- A heap stays as it is where another one is changed. -/
theorem HeapB.stay {own : Nat → Prop} (h : HeapB w p' b' n A' L') (g : HeapB w p b n A L) (hp : p ≠ p') (hb : b ≠ b') (ha : ∀ x y, A = some x → A' = some y → x.block ≠ y.block) (hk : Kept own w w')
    (ho : ∀ k, own k → k = p ∨ k = b ∨ (∃ y, A = some y ∧ y.block = k) ∨ w.heap.size ≤ k) : HeapB w' p' b' n A' L' := by
  obtain ⟨s1, s2, s3⟩ := h.sizes
  obtain ⟨⟨c1, t1⟩, ⟨c2, t2⟩, t3⟩ := h.types
  obtain ⟨⟨d1, u1⟩, ⟨d2, u2⟩, u3⟩ := g.types
  obtain ⟨m, c, E, F, h1, h2⟩ := h.ex
  refine ⟨m, c, E, F, h1.kept2 hk (fun x => ?_) (fun x => ?_) (fun y hy x => ?_), h2⟩
  · rcases ho _ x with e | e | ⟨z, hz, e⟩ | e
    · exact hp e.symm
    · exact Blk.other t1 u2 (by decide) e
    · obtain ⟨cz, uz⟩ := u3 z hz; exact Blk.other t1 uz (by decide) e.symm
    · omega
  · rcases ho _ x with e | e | ⟨z, hz, e⟩ | e
    · exact Blk.other t2 u1 (by decide) e
    · exact hb e.symm
    · obtain ⟨cz, uz⟩ := u3 z hz; exact Blk.other t2 uz (by decide) e.symm
    · omega
  · have := s3 y hy
    obtain ⟨cy, ty⟩ := t3 y hy
    rcases ho _ x with e | e | ⟨z, hz, e⟩ | e
    · exact Blk.other ty u1 (by decide) e
    · exact Blk.other ty u2 (by decide) e
    · exact ha z y hz hy e
    · omega
theorem Two.symm (h : Two base top w p p' n L L') : Two base top w p' p n L' L := by
  obtain ⟨b, A, b', A', h1, h2, a1, a2, a3, a4, a5, a6, a7, a8, a9, a10, a11, a12⟩ := h.ex
  exact ⟨b', A', b, A, h2, h1, a4, a5, a6, a1, a2, a3, Ne.symm a7, Ne.symm a8, fun x y hx hy e => a9 y x hy hx e.symm, a11, a10, a12⟩
theorem Two.below (h : Two base top w p p' n L L') (hb : Below w.heap.size w w') : Two base top w' p p' n L L' := by
  obtain ⟨b, A, b', A', h1, h2, a1, a2, a3, a4, a5, a6, a7, a8, a9, a10, a11, a12⟩ := h.ex
  exact ⟨b, A, b', A', h1.below hb, h2.below hb, a1, a2, a3, a4, a5, a6, a7, a8, a9, a10, a11, Nat.le_trans a12 hb.size⟩
theorem Two.one (h : Two base top w p p' n L L') : HeapL base w p n L := by
  obtain ⟨b, A, b', A', h1, h2, a1, a2, a3, _⟩ := h.ex
  exact h1.heapL a1 a2 a3
theorem Two.two (h : Two base top w p p' n L L') : HeapL base w p' n L' := h.symm.one
/-- What lies apart from both heaps stays: a block of integers from top on. -/
def Past (top : Nat) (w w' : World) : Prop := w'.os = w.os ∧ w'.tape = w.tape ∧ w'.output = w.output ∧ w.heap.size ≤ w'.heap.size ∧ ∀ g cs, Blk w g 3 cs → top ≤ g → Blk w' g 3 cs
theorem Past.own {B k : Nat} {v : Value} {xs : List Value} (h : Past top w w') (ho : w.ownsRow B 3 1 v k xs) (hB : top ≤ B) : w'.ownsRow B 3 1 v k xs := by
  refine ⟨ho.1, ?_⟩
  rcases ho.2 with h0 | ⟨g, cap, cur, hv, hb, hg, h1⟩
  · exact .inl h0
  · exact .inr ⟨g, cap, cur, hv, hb, h.2.2.2.2 g cur hg (by omega), h1⟩
theorem past_of {own : Nat → Prop} (g : HeapB w p b n A L) (ht : b < top) (hk : Kept own w w') (ho : ∀ k, own k → k = p ∨ k = b ∨ (∃ y, A = some y ∧ y.block = k) ∨ w.heap.size ≤ k) : Past top w w' := by
  obtain ⟨⟨d1, u1⟩, ⟨d2, u2⟩, u3⟩ := g.types
  refine ⟨hk.os, hk.tape, hk.output, hk.size, fun k cs hb htk => hb.kept hk fun x => ?_⟩
  have := hb.size
  rcases ho _ x with e | e | ⟨z, hz, e⟩ | e
  · exact Blk.other hb u1 (by decide) e
  · omega
  · obtain ⟨cz, uz⟩ := u3 z hz; exact Blk.other hb uz (by decide) e.symm
  · omega
theorem two_put {i : Nat} (k t : Int) (hi : i < n) (hh : hasE (i : Int) L = false) (w : World) (h : Two base top w p p' n L L') : Calls Try.prog 16 #[.pointer (some ⟨p, 0, none⟩), .int .i64 (i : Int), .int .i64 k, .int .u64 t] w fun e w' => e = .returned (.int .i64 0) ∧ Two base top w' p p' n (insE ⟨k, t, i⟩ L) L' ∧ Below base w w' ∧ Past top w w' := by
  obtain ⟨b, A, b', A', h1, h2, a1, a2, a3, a4, a5, a6, a7, a8, a9, a10, a11, a12⟩ := h.ex
  obtain ⟨m, c, E, F, g1, g2, g3⟩ := h1.ex
  have hF := g3.none_ hi hh
  refine (hput_new k t hi hF w g1 g2).mono ?_
  rintro e w' ⟨rfl, B', c', E', w2, h4, h5, k1, k2, h6⟩
  have k3 : Kept (fun g => hOwnP p b A g ∨ hOwn b B' g) w w' := (k1.more fun _ _ h => .inl h).trans (k2.more fun _ _ h => .inr h)
  have ho : ∀ g, (hOwnP p b A g ∨ hOwn b B' g) → g = p ∨ g = b ∨ (∃ y, A = some y ∧ y.block = g) ∨ w.heap.size ≤ g := by
    intro g hg
    rcases hg with (h | h | ⟨y, hy, e⟩) | (h | ⟨y, hy, e⟩)
    · exact .inl h
    · exact .inr (.inl h)
    · exact .inr (.inr (.inl ⟨y, hy, e⟩))
    · exact .inr (.inl h)
    · rcases h6 y hy with ⟨z, hz, ez⟩ | h7
      · exact .inr (.inr (.inl ⟨z, hz, by omega⟩))
      · exact .inr (.inr (.inr (by omega)))
  have hB : ∀ x, B' = some x → base ≤ x.block := fun x hx => by
    rcases h6 x hx with ⟨y, hy, e⟩ | h7
    · rw [← e]; exact a3 y hy
    · omega
  obtain ⟨s1, s2, s3⟩ := h2.sizes
  refine ⟨rfl, ⟨b, B', b', A', ⟨m + 1, c', E', _, h4, h5, g3.ins hi hF k t⟩, h2.stay h1 a7 a8 a9 k3 ho, a1, a2, hB, a4, a5, a6, a7, a8, fun x y hx hy => ?_, a10, a11, Nat.le_trans a12 k3.size⟩, k3.below (fun g hg => ?_) a12, past_of h1 a10 k3 ho⟩
  · rcases h6 x hx with ⟨z, hz, e⟩ | h7
    · rw [← e]; exact a9 z y hz hy
    · have := s3 y hy; omega
  · rcases ho g hg with e | e | ⟨z, hz, e⟩ | e
    · omega
    · omega
    · rw [← e]; exact a3 z hz
    · omega
theorem two_rem {i : Nat} (hi : i < n) (hh : hasE (i : Int) L = true) (w : World) (h : Two base top w p p' n L L') : Calls Try.prog 10 #[.pointer (some ⟨p, 0, none⟩), .int .i64 (i : Int)] w fun e w' => e = .returned (.int .i64 0) ∧ Two base top w' p p' n (remE (i : Int) L) L' ∧ Below base w w' ∧ Past top w w' := by
  obtain ⟨b, A, b', A', h1, h2, a1, a2, a3, a4, a5, a6, a7, a8, a9, a10, a11, a12⟩ := h.ex
  obtain ⟨m, c, E, F, g1, g2, g3⟩ := h1.ex
  obtain ⟨kt, hF⟩ := g3.some_ hi hh
  obtain ⟨P, h4, h5⟩ := g1.at_
  obtain ⟨q, hq, _⟩ := h5.get hi hF
  obtain ⟨m', rfl⟩ : ∃ m', m = m' + 1 := ⟨m - 1, by omega⟩
  refine (hrem_yes hi hF rfl w g1 g2).mono ?_
  rintro e w' ⟨rfl, E', h6, h7, k1⟩
  have ho : ∀ g, hOwnP p b A g → g = p ∨ g = b ∨ (∃ y, A = some y ∧ y.block = g) ∨ w.heap.size ≤ g := by
    intro g hg
    rcases hg with h | h | ⟨y, hy, e⟩
    · exact .inl h
    · exact .inr (.inl h)
    · exact .inr (.inr (.inl ⟨y, hy, e⟩))
  refine ⟨rfl, ⟨b, A, b', A', ⟨m', c, E', _, h6, h7, g3.rem hi⟩, h2.stay h1 a7 a8 a9 k1 ho, a1, a2, a3, a4, a5, a6, a7, a8, a9, a10, a11, Nat.le_trans a12 k1.size⟩, k1.below (own_base_ a1 a2 a3) a12, past_of h1 a10 k1 ho⟩
theorem two_new (n : Nat) (h1 : 1 ≤ n) (h2 : n ≤ 1024) (w : World) (h : HeapL base w p n []) (hbs : base ≤ w.heap.size) : Calls Try.prog 9 #[.int .i64 (n : Int)] w fun e w' => ∃ p', e = .returned (.tuple #[.pointer (some ⟨p', 0, none⟩), .int .i64 0]) ∧ Two base w'.heap.size w' p p' n [] [] ∧ Below w.heap.size w w' := by
  obtain ⟨b, A, m, c, E, F, g1, g2, g3, a1, a2, a3⟩ := h.ex
  have hB : HeapB w p b n A [] := ⟨m, c, E, F, g1, g2, g3⟩
  obtain ⟨s1, s2, s3⟩ := hB.sizes
  refine (hnew_yes n h1 h2 w).mono ?_
  rintro e w' ⟨p', b', rfl, hp, hb, h4, hbe⟩
  have hB2 : HeapB w' p' b' n none [] := ⟨0, 0, _, _, h4, fun k _ hk => absurd hk (by omega), AllL.empty n⟩
  obtain ⟨t1, t2, _⟩ := hB2.sizes
  have := hbe.size
  exact ⟨p', rfl, ⟨b, A, b', none, hB.below hbe, hB2, a1, a2, a3, by omega, by omega, (fun x hx => by cases hx), by omega, by omega, (fun x y _ hy => by cases hy), by omega, by omega, by omega⟩, hbe⟩
end
theorem own_blk {w : World} {B k c g sz : Nat} {e : TypeId} {xs : List Value} (h : w.ownsRow B e sz (.slice (some ⟨g, 0, none⟩) k c) k xs) : ∃ cs, Blk w g e cs := by
  rcases h.2 with ⟨h0, _⟩ | ⟨g', cap, cur, hv, hb, hg, h1⟩
  · cases h0
  · injection hv with hv1
    injection hv1 with hv1
    injection hv1 with hv1
    subst hv1
    exact ⟨cur, hg⟩
/-- The entries of some members in some order. -/
noncomputable def buildP (K : Nat → Int) (σ : Nat → Nat) : Nat → List En
  | 0 => []
  | k + 1 => insE ⟨K (σ k), 7, σ k⟩ (buildP K σ k)
section
variable {K : Nat → Int} {σ : Nat → Nat} {n : Nat}
theorem buildP_mem {e : En} (k : Nat) : e ∈ buildP K σ k ↔ ∃ i, i < k ∧ e = ⟨K (σ i), 7, σ i⟩ := by
  induction k with
  | zero => simp [buildP]
  | succ k ih =>
    show e ∈ insE _ _ ↔ _
    rw [mem_ins, ih]
    constructor
    · rintro (h | ⟨i, hi, h⟩)
      · exact ⟨k, by omega, h⟩
      · exact ⟨i, by omega, h⟩
    · rintro ⟨i, hi, h⟩
      by_cases hik : i = k
      · subst hik; exact .inl h
      · exact .inr ⟨i, by omega, h⟩
theorem buildP_no (hs : ∀ i j, i < n → j < n → σ i = σ j → i = j) {k : Nat} (hk : k < n) : hasE ((σ k : Nat) : Int) (buildP K σ k) = false := by
  rw [hasE_no]
  intro e he hm
  obtain ⟨i, hi, rfl⟩ := (buildP_mem k).1 he
  have hm : ((σ i : Nat) : Int) = ((σ k : Nat) : Int) := hm
  have := hs i k (by omega) hk (by omega)
  omega
theorem onto (hs : ∀ i j, i < n → j < n → σ i = σ j → i = j) (hr : ∀ i, i < n → σ i < n) {j : Nat} (hj : j < n) : ∃ i, i < n ∧ σ i = j := by
  by_cases h : ∃ i, i < n ∧ σ i = j
  · exact h
  · have := pigeon n (n + 1) (fun k => if k = n then j else σ k) (fun k hk => by
      show (if k = n then j else σ k) < n
      split
      · exact hj
      · exact hr k (by omega)) (fun a b ha hb e => by
      have e : (if a = n then j else σ a) = (if b = n then j else σ b) := e
      by_cases h1 : a = n
      · by_cases h2 : b = n
        · omega
        · rw [if_pos h1, if_neg h2] at e
          exact absurd ⟨b, by omega, e.symm⟩ h
      · by_cases h2 : b = n
        · rw [if_neg h1, if_pos h2] at e
          exact absurd ⟨a, by omega, e⟩ h
        · rw [if_neg h1, if_neg h2] at e
          exact hs a b (by omega) (by omega) e)
    omega
theorem build_same (hs : ∀ i j, i < n → j < n → σ i = σ j → i = j) (hr : ∀ i, i < n → σ i < n) (h1 : (buildE K (fun _ => 7) n).Pairwise ltE) (h2 : (buildP K σ n).Pairwise ltE) : buildE K (fun _ => 7) n = buildP K σ n := by
  refine sorted_one h1 h2 fun e => ?_
  rw [build_mem, buildP_mem]
  constructor
  · rintro ⟨j, hj, rfl⟩
    obtain ⟨i, hi, hij⟩ := onto hs hr hj
    exact ⟨i, hi, by rw [hij]⟩
  · rintro ⟨i, hi, rfl⟩
    exact ⟨σ i, hr i hi, rfl⟩
/-- Who goes and comes again is where he was. -/
theorem ins_rem {e : En} {L : List En} (hu : L.Pairwise ltE) (hd : L.Pairwise fun a b => a.m ≠ b.m) (he : e ∈ L) : insE e (remE e.m L) = L := by
  have hno : ∀ a ∈ remE e.m L, a.m ≠ e.m := fun a ha => by
    unfold remE at ha
    have := (List.mem_filter.1 ha).2
    simpa using this
  refine sorted_one (sorted_ins (hu.filter _) hno) hu fun x => ?_
  rw [mem_ins]
  unfold remE
  rw [List.mem_filter]
  constructor
  · rintro (rfl | ⟨h, _⟩)
    · exact he
    · exact h
  · intro hx
    by_cases hxm : x.m = e.m
    · left
      have key : ∀ l : List En, l.Pairwise (fun a b => a.m ≠ b.m) → x ∈ l → e ∈ l → x = e := by
        intro l
        induction l with
        | nil => intro _ h; simp at h
        | cons c l ih =>
          intro h h1 h2
          rw [List.pairwise_cons] at h
          rcases List.mem_cons.1 h1 with e1 | e1
          · rcases List.mem_cons.1 h2 with e2 | e2
            · rw [e1, e2]
            · exact absurd (by rw [← e1]; exact hxm) (h.1 e e2)
          · rcases List.mem_cons.1 h2 with e2 | e2
            · exact absurd (by rw [← e2]; exact hxm.symm) (h.1 x e1)
            · exact ih h.2 e1 e2
      exact key L hd hx he
    · exact .inr ⟨hx, by simpa using hxm⟩
end
end Go.Proofs.Ytkcfmicpljlffaa
