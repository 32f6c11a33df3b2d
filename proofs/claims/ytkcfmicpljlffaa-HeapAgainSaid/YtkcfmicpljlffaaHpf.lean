/- A heap in memory: the key of one who is there. -/
import Derived.Test.YtkcfmicpljlffaaHpe
namespace Go.Proofs.Ytkcfmicpljlffaa
open Go.ChangeShapes Go.WideShapes Go.RowKit
set_option linter.unusedVariables false
section
variable {w w' : World} {p b n m c : Nat} {A : Option Addr} {E : Nat → En} {P : Nat → Int}
theorem hkey_some {i k : Nat} (hi : i < n) (hk : k < m) (hP : P i = (k : Int)) (w : World) (h : HeapAt w p b n A m c E P) : Calls Try.prog 19 #[.pointer (some ⟨p, 0, none⟩), .int .i64 (i : Int)] w fun e w' => e = .returned (.tuple #[.int .i64 (E k).k, .bool true]) ∧ Below w.heap.size w w' := by
  have H := Lib.hid h
  have q0 := h.p0
  have q1 := h.p1
  have g0 := h.b0 hi
  rw [hP] at g0
  have hm := h.mn
  have hn := h.n0
  obtain ⟨a, rfl, hc, hf⟩ := h.at_ (by omega)
  obtain ⟨c0, c1, c2⟩ := hc k hk
  obtain ⟨⟨ek, et, em⟩, he⟩ : ∃ e, E k = e := ⟨_, rfl⟩
  rw [he] at c0 c1 c2 ⊢
  have i0 : (0 : Int) ≤ (i : Int) := by omega
  have i1 : (i : Int) < (n : Int) := by omega
  have k0 : (0 : Int) ≤ (k : Int) := by omega
  have k1 : (k : Int) < (m : Int) := by omega
  have k2 : ¬ (k : Int) = -1 := by omega
  clear h hc he
  go_enter Try.func19, Try.ntmps19
  go_wp2_with (go_at_call 21; refine (hmem_yes hi _ H.out).mono ?_; rintro e w1 ⟨rfl, rfl⟩)
  go_quiet (fail)
  go_wp2
  go_ret2
  exact ⟨rfl, ⟨rfl, rfl, rfl, Nat.le_refl _, fun _ _ => rfl⟩⟩
end
end Go.Proofs.Ytkcfmicpljlffaa
