/- A heap in memory: keys, who comes before whom. -/
import Derived.Test.YtjkklcigmikleaaHpc
namespace Go.Proofs.Ytjkklcigmikleaa
open Go.ChangeShapes Go.WideShapes Go.RowKit
set_option linter.unusedVariables false
theorem later_ {w w' : World} {a : Addr} {v : Value} (hb : Below w.heap.size w w') (h : w.cell? a = some v) : w'.cell? a = some v := (hb.cell (klt h)).trans h
section
variable {w w' : World} {p b n m c : Nat} {A : Option Addr} {E : Nat → En} {P : Nat → Int}
theorem before_any {i j : Nat} (hi : i < m) (hj : j < m) (w : World) (h : HeapAt w p b n A m c E P) : Calls Try.prog 69 #[.pointer (some ⟨p, 0, none⟩), .int .i64 (i : Int), .int .i64 (j : Int)] w fun e w' => e = .returned (.bool (decide (cmpE (E i) (E j) < 0))) ∧ Below w.heap.size w w' := by
  have q0 := h.p0
  have hm := h.mn
  have hn := h.n0
  have hz := h.head.size
  obtain ⟨a, rfl, hc, hf⟩ := h.at_ (by omega)
  obtain ⟨c0, c1, c2⟩ := hc i hi
  obtain ⟨d0, d1, d2⟩ := hc j hj
  obtain ⟨⟨ik, it, im⟩, hei⟩ : ∃ e, E i = e := ⟨_, rfl⟩
  obtain ⟨⟨jk, jt, jm⟩, hej⟩ : ∃ e, E j = e := ⟨_, rfl⟩
  rw [hei] at c0 c1 c2 ⊢
  rw [hej] at d0 d1 d2 ⊢
  have i0 : (0 : Int) ≤ (i : Int) := by omega
  have i1 : (i : Int) < (m : Int) := by omega
  have j0 : (0 : Int) ≤ (j : Int) := by omega
  have j1 : (j : Int) < (m : Int) := by omega
  obtain ⟨r, hr⟩ : ∃ r, cmpE ⟨ik, it, im⟩ ⟨jk, jt, jm⟩ = r := ⟨_, rfl⟩
  rw [hr]
  have HR := Lib.hid hr
  have hb := Below.refl w.heap.size w
  clear h hc hei hej hr
  go_enter Try.func69, Try.ntmps69
  go_upto_region 1 with fail
  first | (go_region_held3 (fun w' => w'.cell? ⟨p, 0, none⟩ = some (.slice (some ⟨a, 0, none⟩) m c) ∧ w'.cell? ⟨a, i * 3, none⟩ = some (.int .i64 ik) ∧ w'.cell? ⟨a, i * 3 + 1, none⟩ = some (.int .u64 it) ∧ w'.cell? ⟨a, i * 3 + 2, none⟩ = some (.int .i64 im) ∧ w'.cell? ⟨a, j * 3, none⟩ = some (.int .i64 jk) ∧ w'.cell? ⟨a, j * 3 + 1, none⟩ = some (.int .u64 jt) ∧ w'.cell? ⟨a, j * 3 + 2, none⟩ = some (.int .i64 jm)) ((repeat (first | with_reducible assumption | refine ⟨?_, ?_⟩ | with_reducible refine kdrew ?_ | with_reducible refine later_ hbn ?_)))
    ((go_at_call 62; refine (compare_any ⟨ik, it, im⟩ ⟨jk, jt, jm⟩ _).mono ?_; rw [HR.out]; rintro e w1 ⟨rfl, hbn⟩))) | fail
  all_goals
    go_wp2_with fail
    go_ret
    exact ⟨rfl, by first | exact hbn | exact (Below.refl _ _).drew.trans hbn⟩
end
end Go.Proofs.Ytjkklcigmikleaa
