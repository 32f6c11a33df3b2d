/- A heap's calls, over the list of its entries in their order. -/
import Derived.Test.YtjkklcigmikleaaHpt
namespace Go.Proofs.Ytjkklcigmikleaa
open Go.ChangeShapes Go.WideShapes Go.RowKit
set_option linter.unusedVariables false
set_option linter.unusedSimpArgs false
/-- Behind p lies a heap of room n that holds L, in blocks of its own from base on. -/
structure HeapL (base : Nat) (w : World) (p n : Nat) (L : List En) : Prop where
  ex : ∃ b A m c E F, HeapIn w p b n A m c E F ∧ Ord m E ∧ AllL n F L ∧ base ≤ p ∧ base ≤ b ∧ ∀ x, A = some x → base ≤ x.block
section
variable {w w' : World} {base p n : Nat} {L : List En}
theorem HeapL.below (h : HeapL base w p n L) (hb : Below w.heap.size w w') : HeapL base w' p n L := by
  obtain ⟨b, A, m, c, E, F, h1, h2⟩ := h.ex
  exact ⟨b, A, m, c, E, F, h1.below hb, h2⟩
theorem HeapL.size (h : HeapL base w p n L) : base ≤ w.heap.size := by
  obtain ⟨b, A, m, c, E, F, h1, _, _, hp, _⟩ := h.ex
  obtain ⟨P, h3, _⟩ := h1.at_
  have := h3.head.size
  omega
theorem HeapL.len (h : HeapL base w p n L) : L.length ≤ n ∧ n ≤ 1024 := by
  obtain ⟨b, A, m, c, E, F, h1, _, h3, _⟩ := h.ex
  obtain ⟨P, h4, h5⟩ := h1.at_
  rw [h3.len h5]
  exact ⟨h4.mn, h4.n0⟩
theorem HeapL.range (h : HeapL base w p n L) : ∀ e ∈ L, 0 ≤ e.m ∧ e.m < (n : Int) := by
  obtain ⟨b, A, m, c, E, F, h1, _, h3, _⟩ := h.ex
  exact h3.range
theorem HeapL.up (h : HeapL base w p n L) : L.Pairwise ltE := by
  obtain ⟨b, A, m, c, E, F, h1, _, h3, _⟩ := h.ex
  exact h3.up
theorem lnew_yes (n : Nat) (h1 : 1 ≤ n) (h2 : n ≤ 1024) (w : World) (hb : base ≤ w.heap.size) : Calls Try.prog 27 #[.int .i64 (n : Int)] w fun e w' => ∃ p, e = .returned (.tuple #[.pointer (some ⟨p, 0, none⟩), .int .i64 0]) ∧ w.heap.size ≤ p ∧ HeapL base w' p n [] ∧ Below w.heap.size w w' := by
  refine (hnew_yes n h1 h2 w).mono ?_
  rintro e w' ⟨p, b, rfl, hp, hbb, h, hbe⟩
  exact ⟨p, rfl, hp, ⟨b, none, 0, 0, _, _, h, fun k _ hk => absurd hk (by omega), AllL.empty n, by omega, by omega, fun x hx => by cases hx⟩, hbe⟩
theorem lput_out (i k t : Int) (hi : i < 0 ∨ (n : Int) ≤ i) (w : World) (h : HeapL base w p n L) : Calls Try.prog 32 #[.pointer (some ⟨p, 0, none⟩), .int .i64 i, .int .i64 k, .int .u64 t] w fun e w' => e = .returned (.int .i64 1) ∧ w = w' := by
  obtain ⟨b, A, m, c, E, F, h1, _⟩ := h.ex
  exact hput_out i k t hi w h1
theorem lput_busy {i : Nat} (k t : Int) (hi : i < n) (hh : hasE (i : Int) L = true) (w : World) (h : HeapL base w p n L) : Calls Try.prog 32 #[.pointer (some ⟨p, 0, none⟩), .int .i64 (i : Int), .int .i64 k, .int .u64 t] w fun e w' => e = .returned (.int .i64 10) ∧ w = w' := by
  obtain ⟨b, A, m, c, E, F, h1, _, h3, _⟩ := h.ex
  obtain ⟨kt, hF⟩ := h3.some_ hi hh
  exact hput_busy k t hi hF w h1
theorem own_base_ {A : Option Addr} {b : Nat} (hp : base ≤ p) (hb : base ≤ b) (ha : ∀ x, A = some x → base ≤ x.block) : ∀ k, hOwnP p b A k → base ≤ k := by
  rintro k (rfl | rfl | ⟨x, hx, rfl⟩)
  · exact hp
  · exact hb
  · exact ha x hx
theorem lput_new {i : Nat} (k t : Int) (hi : i < n) (hh : hasE (i : Int) L = false) (w : World) (h : HeapL base w p n L) : Calls Try.prog 32 #[.pointer (some ⟨p, 0, none⟩), .int .i64 (i : Int), .int .i64 k, .int .u64 t] w fun e w' => e = .returned (.int .i64 0) ∧ HeapL base w' p n (insE ⟨k, t, i⟩ L) ∧ Below base w w' := by
  have hs := h.size
  obtain ⟨b, A, m, c, E, F, h1, h2, h3, hp, hb, ha⟩ := h.ex
  have hF := h3.none_ hi hh
  refine (hput_new k t hi hF w h1 h2).mono ?_
  rintro e w' ⟨rfl, A', c', E', w2, h4, h5, k1, k2, h6⟩
  have ha' : ∀ x, A' = some x → base ≤ x.block := fun x hx => by
    rcases h6 x hx with ⟨y, hy, e⟩ | h7
    · rw [← e]; exact ha y hy
    · omega
  have b1 := k1.below (own_base_ hp hb ha) hs
  have b2 := k2.below (fun g hg => own_base_ hp hb ha' g (.inr hg)) (Nat.le_trans hs k1.size)
  exact ⟨rfl, ⟨b, A', m + 1, c', E', _, h4, h5, h3.ins hi hF k t, hp, hb, ha'⟩, b1.trans b2⟩
theorem lrem_out (i : Int) (hi : i < 0 ∨ (n : Int) ≤ i) (w : World) (h : HeapL base w p n L) : Calls Try.prog 41 #[.pointer (some ⟨p, 0, none⟩), .int .i64 i] w fun e w' => e = .returned (.int .i64 1) ∧ w = w' := by
  obtain ⟨b, A, m, c, E, F, h1, _⟩ := h.ex
  exact hrem_out i hi w h1
theorem lrem_none {i : Nat} (hi : i < n) (hh : hasE (i : Int) L = false) (w : World) (h : HeapL base w p n L) : Calls Try.prog 41 #[.pointer (some ⟨p, 0, none⟩), .int .i64 (i : Int)] w fun e w' => e = .returned (.int .i64 3) ∧ Below w.heap.size w w' := by
  obtain ⟨b, A, m, c, E, F, h1, _, h3, _⟩ := h.ex
  exact hrem_none hi (h3.none_ hi hh) w h1
theorem lrem_yes {i : Nat} (hi : i < n) (hh : hasE (i : Int) L = true) (w : World) (h : HeapL base w p n L) : Calls Try.prog 41 #[.pointer (some ⟨p, 0, none⟩), .int .i64 (i : Int)] w fun e w' => e = .returned (.int .i64 0) ∧ HeapL base w' p n (remK (i : Int) L) ∧ Below base w w' := by
  have hs := h.size
  obtain ⟨b, A, m, c, E, F, h1, h2, h3, hp, hb, ha⟩ := h.ex
  obtain ⟨kt, hF⟩ := h3.some_ hi hh
  obtain ⟨P, h4, h5⟩ := h1.at_
  obtain ⟨q, hq, _⟩ := h5.get hi hF
  obtain ⟨m', rfl⟩ : ∃ m', m = m' + 1 := ⟨m - 1, by omega⟩
  refine (hrem_yes hi hF rfl w h1 h2).mono ?_
  rintro e w' ⟨rfl, E', h6, h7, k1⟩
  exact ⟨rfl, ⟨b, A, m', c, E', _, h6, h7, h3.rem hi, hp, hb, ha⟩, k1.below (own_base_ hp hb ha) hs⟩
theorem llen (w : World) (h : HeapL base w p n L) : Calls Try.prog 71 #[.pointer (some ⟨p, 0, none⟩)] w fun e w' => e = .returned (.int .i64 (L.length : Int)) ∧ w = w' := by
  obtain ⟨b, A, m, c, E, F, h1, h2, h3, _⟩ := h.ex
  obtain ⟨P, h4, h5⟩ := h1.at_
  rw [h3.len h5]
  exact hlen_any w h4
theorem ldue (key : Int) (w : World) (h : HeapL base w p n L) : Calls Try.prog 36 #[.pointer (some ⟨p, 0, none⟩), .int .i64 key] w fun e w' => ∃ g, e = .returned (.slice (some ⟨g, 0, none⟩) (dueE key L).length (dueE key L).length) ∧ w'.ownsRow w.heap.size 3 1 (.slice (some ⟨g, 0, none⟩) (dueE key L).length (dueE key L).length) (dueE key L).length ((dueE key L).map fun e => .int .i64 e.m) ∧ Below w.heap.size w w' := by
  obtain ⟨b, A, m, c, E, F, h1, h2, h3, _⟩ := h.ex
  refine (hdues w h1 h2).mono ?_
  rintro e w' ⟨g, L', hL, hlen, rfl, ho, hb⟩
  obtain rfl := hL.one (h3.due key)
  exact ⟨g, rfl, ho, hb⟩
end
end Go.Proofs.Ytjkklcigmikleaa
