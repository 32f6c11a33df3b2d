/- A struct of three fields that comes in by value; rows of those who are looked at. -/
import Derived.Test.YtmkdmjcmgbpomaaSeq
import Derived.Test.YtmkdmjcmgbpomaaRow
import Derived.Test.YtmkdmjcmgbpomaaProg
import Derived.ChangeArms
namespace Go.Proofs.Ytmkdmjcmgbpomaa
open Go.RowKit Go.ChangeShapes Go.WideShapes Go.Deep
set_option linter.unusedVariables false
section
variable {H : Type} {enc : TypeId × Value → H} {P : Program} {w : World} {base : Nat} {spare : Nat → Bool} {held : Bool}
/-- A struct of three fields of one cell each, by value. -/
theorem open_three {r : Reach} {b0 : Nat} {t : TypeId} {f0 f1 f2 : Field} {v : Value} {d : DataW H} {p : List MemPlace} (hs : P.underlying t = some (.struct #[f0, f1, f2])) (hone : oneCellFields P #[f0, f1, f2] = true) (hC : P.cellsOf t = 3)
    (hv : Value.okWide P w r b0 t v) (h : DataW.Trod enc P w base spare held t v d p) :
    ∃ (v0 v1 v2 : Value) (y0 y1 y2 : DataW H × List MemPlace) (n : Nat), v = .agg #[v0, v1, v2] ∧
      DataW.trod enc P w base spare held n f0.type [v0] = some y0 ∧ DataW.trod enc P w base spare held n f1.type [v1] = some y1 ∧ DataW.trod enc P w base spare held n f2.type [v2] = some y2 := by
  obtain ⟨cs, rfl, hsz⟩ := okWide_struct hs hv
  obtain ⟨l⟩ := cs
  match l, hsz.trans hC with
  | [c0, c1, c2], _ =>
    obtain ⟨fuel, hf⟩ := h
    obtain ⟨xs, n, _, hx, _, hlen, hg⟩ := DataW.trod_struct hs hf
    obtain ⟨o0, k0⟩ := Go.Deep.hone_of hone 0 f0 rfl
    obtain ⟨o1, k1⟩ := Go.Deep.hone_of hone 1 f1 rfl
    obtain ⟨o2, k2⟩ := Go.Deep.hone_of hone 2 f2 rfl
    match xs, hlen with
    | [y0, y1, y2], _ =>
      exact ⟨c0, c1, c2, y0, y1, y2, n, rfl, by simpa [Value.cells, o0, k0] using hg 0 f0 rfl, by simpa [Value.cells, o1, k1] using hg 1 f1 rfl, by simpa [Value.cells, o2, k2] using hg 2 f2 rfl⟩
end
/-- One that is looked at: how much later, how long it has stayed, how many there are. -/
structure Sn where
  l : Int
  j : Int
  b : Int
def snRow (q : Sn) : List Value := [.int .i64 q.l, .int .i64 q.j, .int .i64 q.b]
def Sn.ok (q : Sn) : Prop := (-9223372036854775808 ≤ q.l ∧ q.l ≤ 9223372036854775807) ∧ (-9223372036854775808 ≤ q.j ∧ q.j ≤ 9223372036854775807) ∧ (-9223372036854775808 ≤ q.b ∧ q.b ≤ 9223372036854775807)
section
variable {H : Type} {enc : TypeId × Value → H} {w : World}
theorem cut1_ {cs : List Value} {o : Nat} {v : Value} (h : (cs.drop o).take 1 = [v]) : cs[o]? = some v := by
  have := congrArg (·[0]?) h
  simpa using this
theorem sn_row_ {P : Program} {t : TypeId} {f0 f1 f2 : Field} {spare : Nat → Bool} {held : Bool} {fuel : Nat} {cs : List Value} {x : DataW H × List MemPlace} (hs : P.underlying t = some (.struct #[f0, f1, f2])) (hone : oneCellFields P #[f0, f1, f2] = true)
    (hu : P.underlying f0.type = some (.int .i64)) (hi : P.underlying f1.type = some (.int .i64)) (hi' : P.underlying f2.type = some (.int .i64)) (h : DataW.trod enc P w 0 spare held fuel t cs = some x) :
    ∃ q : Sn, q.ok ∧ ∀ k, k < 3 → cs[k]? = (snRow q)[k]? := by
  obtain ⟨xs, n, _, rfl, hl, hlen, hf⟩ := DataW.trod_struct hs h
  match xs, hlen with
  | [y0, y1, y2], _ =>
    obtain ⟨o0, k0⟩ := hone_of hone 0 f0 rfl
    obtain ⟨a, ea, -, wa⟩ := DataW.trod_int hu (hf 0 _ rfl)
    rw [o0, k0] at ea
    obtain ⟨o1, k1⟩ := hone_of hone 1 f1 rfl
    obtain ⟨b, eb, -, wb⟩ := DataW.trod_int hi (hf 1 _ rfl)
    rw [o1, k1] at eb
    obtain ⟨o2, k2⟩ := hone_of hone 2 f2 rfl
    obtain ⟨c, ec, -, wc⟩ := DataW.trod_int hi' (hf 2 _ rfl)
    rw [o2, k2] at ec
    refine ⟨⟨a, b, c⟩, ⟨wf_i64 wa, wf_i64 wb, wf_i64 wc⟩, fun k hk => ?_⟩
    match k, hk with
    | 0, _ => exact cut1_ ea
    | 1, _ => exact cut1_ eb
    | 2, _ => exact cut1_ ec
theorem sn_row {spare : Nat → Bool} {held : Bool} {fuel : Nat} {cs : List Value} {x : DataW H × List MemPlace} (h : DataW.trod enc Try.prog w 0 spare held fuel 34 cs = some x) :
    ∃ q : Sn, q.ok ∧ ∀ k, k < 3 → cs[k]? = (snRow q)[k]? := by
  exact sn_row_ Try.underlying34 (by kernel_rfl) Try.underlying2 Try.underlying2 Try.underlying3 h
theorem sn_cells : Try.prog.cellsOf 34 = 3 := by kernel_rfl
theorem open_sns {fuel : Nat} {A : Option Addr} {len cap : Nat} {x : DataW H × List MemPlace} (h : DataW.trod enc Try.prog w 0 (fun _ => true) true fuel 32 [.slice A len cap] = some x) :
    len ≤ cap ∧ cap ≤ maxLen ∧ ∃ Q : Nat → Sn, SeqAt w w.heap.size A len 3 (fun i => snRow (Q i)) ∧ ∀ i, i < len → (Q i).ok := by
  obtain ⟨h1, h2, row, hs, hr⟩ := open_seq Try.underlying32 sn_cells (by omega) h
  have hq : ∀ i, ∃ q : Sn, i < len → q.ok ∧ ∀ k, k < 3 → (row i)[k]? = (snRow q)[k]? := by
    intro i
    by_cases hi : i < len
    · obtain ⟨_, n, y, hy⟩ := hr i hi
      obtain ⟨q, hq⟩ := sn_row hy
      exact ⟨q, fun _ => hq⟩
    · exact ⟨⟨0, 0, 0⟩, fun h => absurd h hi⟩
  refine ⟨h1, h2, fun i => (hq i).choose, fun h0 => ?_, fun i hi => ((hq i).choose_spec hi).1⟩
  obtain ⟨b, off, e, hb, hc⟩ := hs h0
  exact ⟨b, off, e, hb, fun i hi k hk => (hc i hi k hk).trans (((hq i).choose_spec hi).2 k hk)⟩
end
end Go.Proofs.Ytmkdmjcmgbpomaa
