/- slices.Index, Contains, Reverse of a list of numbers of the call's own. -/
import Derived.Test.YtjkklcigmikleaaProg
import Derived.Test.YtjkklcigmikleaaBlk
import Derived.Test.YtjkklcigmikleaaBlkb
import Derived.WalkKit
import Derived.IntWalk
import Derived.Lib.Hide
import Derived.BigRegion
namespace Go.Proofs.Ytjkklcigmikleaa
open Go.RowKit
set_option linter.unusedVariables false
def ints (l : List Nat) : List Value := l.map fun x : Nat => Value.int .i64 (x : Int)
/-- What Index tells: a place just if i is there. -/
def Found (l : List Nat) (i : Nat) (w : World) (e : Ending) (w' : World) : Prop := ∃ z : Int, (0 ≤ z ↔ i ∈ l) ∧ -1 ≤ z ∧ z ≤ 1000000 ∧ e = .returned (.int .i64 z) ∧ w = w'
theorem ints_at {base : Nat} {Al : Option Addr} {k cl : Nat} {l : List Nat} {w : World} (ho : w.ownsRow base 3 1 (.slice Al k cl) k (ints l)) {j : Nat} (hj : j < k) :
    ∃ g, Al = some ⟨g, 0, none⟩ ∧ base ≤ g ∧ g < w.heap.size ∧ ∃ x, l[j]? = some x ∧ w.cell? ⟨g, j, none⟩ = some (.int .i64 (x : Int)) := by
  obtain ⟨g, c, e, hb, hg⟩ := own_at ho (by omega)
  simp only [Value.slice.injEq] at e
  obtain ⟨rfl, -, rfl⟩ := e
  have hl : l.length = k := by have := ho.1; simpa [ints] using this
  have hx : l[j]? = some (l[j]'(by omega)) := List.getElem?_eq_getElem (by omega)
  exact ⟨g, rfl, hb, hg, _, hx, (ho.cellAt j (by omega)).trans (by unfold ints; rw [List.getElem?_map, hx]; rfl)⟩
theorem int_eq {x y : Int} (h : x = y) : Value.int .i64 x = Value.int .i64 y := by rw [h]
/-- So far turned: i places from either end. -/
def turned (l : List Nat) (k i x : Nat) : Nat := if x < i ∨ k ≤ x + i then l.getD (k - 1 - x) 0 else l.getD x 0
end Go.Proofs.Ytjkklcigmikleaa
