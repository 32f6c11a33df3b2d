/- A slice of structs that came in: its cells, row by row. No program. -/
import Derived.Test.YtbenpnecjmpcbaaHelpb
import Derived.Deep.Slices
import Derived.Deep.Fields
import Derived.ChangeSame
import Derived.ChangeArms
import Derived.Below
namespace Go.Proofs.Ytbenpnecjmpcbaa
open Go.RowKit Go.ChangeShapes Go.WideShapes Go.Deep
/-- The slice at A has len rows of sz cells, all in blocks below B. -/
def SeqAt (w : World) (B : Nat) (A : Option Addr) (len sz : Nat) (row : Nat → List Value) : Prop :=
  0 < len → ∃ b off, A = some ⟨b, off, none⟩ ∧ b < B ∧ ∀ i, i < len → ∀ k, k < sz → w.cell? ⟨b, off + i * sz + k, none⟩ = (row i)[k]?
theorem SeqAt.below {w w' : World} {B : Nat} {A : Option Addr} {len sz : Nat} {row : Nat → List Value} (h : SeqAt w B A len sz row) (hb : Below B w w') : SeqAt w' B A len sz row := by
  intro hl
  obtain ⟨b, off, e, hB, hc⟩ := h hl
  exact ⟨b, off, e, hB, fun i hi k hk => (hb.cell hB).trans (hc i hi k hk)⟩
theorem SeqAt.less {w : World} {B : Nat} {A : Option Addr} {len len' sz : Nat} {row : Nat → List Value} (h : SeqAt w B A len sz row) (hl : len' ≤ len) : SeqAt w B A len' sz row := by
  intro h0
  obtain ⟨b, off, e, hB, hc⟩ := h (by omega)
  exact ⟨b, off, e, hB, fun i hi k hk => hc i (by omega) k hk⟩
theorem addr_of {a : Addr} (h : a.spot = none) : a = ⟨a.block, a.off, none⟩ := by cases a; simp_all
section
variable {H : Type} {enc : TypeId × Value → H} {P : Program} {w : World}
theorem open_seq {t e : TypeId} {sz fuel : Nat} {A : Option Addr} {len cap : Nat} {x : DataW H × List MemPlace} (ht : P.underlying t = some (.slice e)) (hC : P.cellsOf e = sz) (h0 : 0 < sz) (h : DataW.trod enc P w 0 (fun _ => true) true fuel t [.slice A len cap] = some x) :
    len ≤ cap ∧ cap ≤ maxLen ∧ ∃ row : Nat → List Value, SeqAt w w.heap.size A len sz row ∧ ∀ i, i < len → (row i).length = sz ∧ ∃ n y, DataW.trod enc P w 0 (fun _ => true) true n e (row i) = some y := by
  subst hC
  rcases open_slice ht h with ⟨hs, _⟩ | ⟨a, len', cap', m, n, D, Pl, hcs, hb, hl, hm, hmm, hx, hi⟩
  · simp only [List.cons.injEq, Value.slice.injEq, and_true] at hs
    obtain ⟨rfl, rfl, rfl⟩ := hs
    exact ⟨Nat.le_refl _, by decide, fun _ => [], fun h => absurd h (by omega), fun i hi => absurd hi (by omega)⟩
  · simp only [List.cons.injEq, Value.slice.injEq, and_true] at hcs
    obtain ⟨rfl, rfl, rfl⟩ := hcs
    have hm' : m = cap := by rw [hmm]; rfl
    subst hm'
    refine ⟨hl, hm, fun i => if h : i < len then (hi i (by omega)).choose else [], fun h => ?_, fun i hlt => ?_⟩
    · have hc0 := (hi 0 (by omega)).choose_spec
      obtain ⟨_, l0, g0⟩ := World.cells?_some hc0.1
      have hv := g0 0 h0
      rw [List.getElem?_eq_getElem (by omega)] at hv
      have hsp : a.spot = none := by
        have := World.cell?_spot hv
        simpa [Addr.add] using this
      have hlt : a.block < w.heap.size := by
        have := klt hv
        simpa [Addr.add] using this
      refine ⟨a.block, a.off, by rw [← addr_of hsp], hlt, fun i hil k hk => ?_⟩
      have hci := (hi i (by omega)).choose_spec
      simp only [dif_pos hil]
      obtain ⟨_, li, gi⟩ := World.cells?_some hci.1
      have := gi k hk
      rw [Go.Deep.add_add] at this
      have e : a.add (i * P.cellsOf e + k) = ⟨a.block, a.off + i * P.cellsOf e + k, none⟩ := by
        unfold Addr.add
        split
        · rw [addr_of hsp]; (try simp); (try omega)
        · (try simp); (try omega)
      rw [e] at this
      exact this
    · have hci := (hi i (by omega)).choose_spec
      simp only [dif_pos hlt]
      obtain ⟨_, li, gi⟩ := World.cells?_some hci.1
      exact ⟨li, n, _, hci.2⟩
theorem open_bools_ {t e : TypeId} {fuel : Nat} {A : Option Addr} {len cap : Nat} {x : DataW H × List MemPlace} (ht : P.underlying t = some (.slice e)) (he : P.underlying e = some .bool) (hC : P.cellsOf e = 1) (h : DataW.trod enc P w 0 (fun _ => true) true fuel t [.slice A len cap] = some x) :
    len ≤ cap ∧ cap ≤ maxLen ∧ ∃ K : Nat → Bool, SeqAt w w.heap.size A len 1 (fun i => [.bool (K i)]) ∧ True := by
  obtain ⟨h1, h2, row, hs, hr⟩ := open_seq ht hC (by omega) h
  have hq : ∀ i, ∃ b : Bool, i < len → row i = [.bool b] := by
    intro i
    by_cases hi : i < len
    · obtain ⟨_, n, y, hy⟩ := hr i hi
      obtain ⟨b, hb, _⟩ := DataW.trod_bool he hy
      exact ⟨b, fun _ => hb⟩
    · exact ⟨false, fun h => absurd h hi⟩
  refine ⟨h1, h2, fun i => (hq i).choose, fun h0 => ?_, trivial⟩
  obtain ⟨b, off, e, hb, hc⟩ := hs h0
  exact ⟨b, off, e, hb, fun i hi k hk => by rw [hc i hi k hk, (hq i).choose_spec hi]⟩
end
end Go.Proofs.Ytbenpnecjmpcbaa
