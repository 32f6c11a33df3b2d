/- A heap in memory: its tree, its members' places; what is read of it. -/
import Derived.Test.YtjkklcigmikleaaHpb
import Derived.Deep.QuietTactic
import Derived.BigQuiet
namespace Go.Proofs.Ytjkklcigmikleaa
open Go.ChangeShapes Go.WideShapes Go.RowKit
set_option linter.unusedVariables false
def entRow (e : En) : List Value := [.int .i64 e.k, .int .u64 e.t, .int .i64 e.m]
/-- In w the heap behind p has room n, m entries E in its tree (a slice at A, of c), and its members' places P in block b. -/
structure HeapAt (w : World) (p b n : Nat) (A : Option Addr) (m c : Nat) (E : Nat → En) (P : Nat → Int) : Prop where
  head : Blk w p 117 #[.slice A m c, .slice (some ⟨b, 0, none⟩) n n]
  n0 : n ≤ 1024
  mn : m ≤ n
  mc : m ≤ c
  tree : 0 < c → ∃ a cs, A = some ⟨a, 0, none⟩ ∧ Blk w a 123 cs ∧ cs.size = c * 3 ∧ ∀ k, k < m → ∀ j, j < 3 → cs[k * 3 + j]? = (entRow (E k))[j]?
  place : ∃ cs, Blk w b 3 cs ∧ cs.size = n ∧ ∀ i, i < n → cs[i]? = some (.int .i64 (P i))
section
variable {w w' : World} {p b n m c : Nat} {A : Option Addr} {E : Nat → En} {P : Nat → Int}
theorem HeapAt.kept {own : Nat → Prop} (h : HeapAt w p b n A m c E P) (hk : Kept own w w') (ho : ∀ g t cs, Blk w g t cs → (t = 117 ∨ t = 123 ∨ t = 3) → (g = p ∨ g = b ∨ ∀ x, A = some x → x.block = g) → ¬ own g) : HeapAt w' p b n A m c E P := by
  obtain ⟨hd, h1, h2, h3, ht, ⟨ps, bp, pz, pc⟩⟩ := h
  refine ⟨hd.kept hk (ho _ _ _ hd (.inl rfl) (.inl rfl)), h1, h2, h3, fun h0 => ?_, ⟨ps, bp.kept hk (ho _ _ _ bp (.inr (.inr rfl)) (.inr (.inl rfl))), pz, pc⟩⟩
  obtain ⟨a, cs, e, ba, az, ac⟩ := ht h0
  exact ⟨a, cs, e, ba.kept hk (ho _ _ _ ba (.inr (.inl rfl)) (.inr (.inr fun x hx => by rw [e] at hx; injection hx with hx; rw [← hx]))), az, ac⟩
theorem HeapAt.below (h : HeapAt w p b n A m c E P) (hb : Below w.heap.size w w') : HeapAt w' p b n A m c E P := h.kept (own := fun _ => False) (Kept.of_below hb) fun _ _ _ _ _ _ => id
theorem HeapAt.p0 (h : HeapAt w p b n A m c E P) : w.cell? ⟨p, 0, none⟩ = some (.slice A m c) := h.head.val (i := 0) rfl
theorem HeapAt.p1 (h : HeapAt w p b n A m c E P) : w.cell? ⟨p, 1, none⟩ = some (.slice (some ⟨b, 0, none⟩) n n) := h.head.val (i := 1) rfl
theorem HeapAt.b0 (h : HeapAt w p b n A m c E P) {i : Nat} (hi : i < n) : w.cell? ⟨b, i, none⟩ = some (.int .i64 (P i)) := by obtain ⟨ps, bp, _, pc⟩ := h.place; exact bp.val (pc i hi)
theorem HeapAt.zb (h : HeapAt w p b n A m c E P) (i : Nat) : w.frozen? ⟨b, i, none⟩ = false := by obtain ⟨ps, bp, _, pc⟩ := h.place; exact bp.free i
theorem HeapAt.at_ (h : HeapAt w p b n A m c E P) (h0 : 0 < m) : ∃ a, A = some ⟨a, 0, none⟩ ∧ (∀ k, k < m → w.cell? ⟨a, k * 3, none⟩ = some (.int .i64 (E k).k) ∧ w.cell? ⟨a, k * 3 + 1, none⟩ = some (.int .u64 (E k).t) ∧ w.cell? ⟨a, k * 3 + 2, none⟩ = some (.int .i64 (E k).m)) ∧ (∀ k, w.frozen? ⟨a, k, none⟩ = false) := by
  obtain ⟨a, cs, e, ba, az, ac⟩ := h.tree (by have := h.mc; omega)
  exact ⟨a, e, fun k hk => ⟨ba.val (ac k hk 0 (by omega)), ba.val (ac k hk 1 (by omega)), ba.val (ac k hk 2 (by omega))⟩, ba.free⟩
theorem hlen_any (w : World) (h : HeapAt w p b n A m c E P) : Calls Try.prog 71 #[.pointer (some ⟨p, 0, none⟩)] w fun e w' => e = .returned (.int .i64 (m : Int)) ∧ w = w' := by
  have q0 := h.p0
  clear h
  go_enter Try.func71, Try.ntmps71
  go_wp2
  go_ret
  exact ⟨rfl, rfl⟩
theorem hmem_yes {i : Nat} (hi : i < n) (w : World) (h : HeapAt w p b n A m c E P) : Calls Try.prog 57 #[.pointer (some ⟨p, 0, none⟩), .int .i64 (i : Int)] w fun e w' => e = .returned (.bool true) ∧ w = w' := by
  have q1 := h.p1
  have i0 : (0 : Int) ≤ (i : Int) := by omega
  have i1 : (i : Int) < (n : Int) := by omega
  clear h
  go_enter Try.func57, Try.ntmps57
  go_wp2
  go_ret
  exact ⟨rfl, rfl⟩
theorem hmem_no (i : Int) (hi : i < 0 ∨ (n : Int) ≤ i) (w : World) (h : HeapAt w p b n A m c E P) : Calls Try.prog 57 #[.pointer (some ⟨p, 0, none⟩), .int .i64 i] w fun e w' => e = .returned (.bool false) ∧ w = w' := by
  have q1 := h.p1
  clear h
  by_cases h0 : i < 0
  · have e0 : decide (0 ≤ i) = false := by simp; omega
    have e1 : ¬ (0 ≤ i) := by omega
    go_enter Try.func57, Try.ntmps57
    go_wp2
    go_ret
    exact ⟨rfl, rfl⟩
  · have e1 : 0 ≤ i := by omega
    have e2 : decide (i < (n : Int)) = false := by simp; omega
    have e3 : ¬ i < (n : Int) := by omega
    go_enter Try.func57, Try.ntmps57
    go_wp2
    go_ret
    exact ⟨rfl, rfl⟩
end
end Go.Proofs.Ytjkklcigmikleaa
