/- A struct of four fields that comes in by value; rows of calls. -/
import Derived.Test.YtmnkmnnngfgbgaaSeq
import Derived.Test.YtmnkmnnngfgbgaaRow
import Derived.Test.YtmnkmnnngfgbgaaCld
import Derived.ChangeArms
namespace Go.Proofs.Ytmnkmnnngfgbgaa
open Go.RowKit Go.ChangeShapes Go.WideShapes Go.Deep
set_option linter.unusedVariables false
section
variable {H : Type} {enc : TypeId × Value → H} {P : Program} {w : World} {base : Nat} {spare : Nat → Bool} {held : Bool}
/-- A struct of four fields of one cell each, by value. -/
theorem open_four {r : Reach} {b0 : Nat} {t : TypeId} {f0 f1 f2 f3 : Field} {v : Value} {d : DataW H} {p : List MemPlace} (hs : P.underlying t = some (.struct #[f0, f1, f2, f3])) (hone : oneCellFields P #[f0, f1, f2, f3] = true) (hC : P.cellsOf t = 4)
    (hv : Value.okWide P w r b0 t v) (h : DataW.Trod enc P w base spare held t v d p) :
    ∃ (v0 v1 v2 v3 : Value) (y0 y1 y2 y3 : DataW H × List MemPlace) (n : Nat), v = .agg #[v0, v1, v2, v3] ∧
      DataW.trod enc P w base spare held n f0.type [v0] = some y0 ∧ DataW.trod enc P w base spare held n f1.type [v1] = some y1 ∧ DataW.trod enc P w base spare held n f2.type [v2] = some y2 ∧ DataW.trod enc P w base spare held n f3.type [v3] = some y3 := by
  obtain ⟨cs, rfl, hsz⟩ := okWide_struct hs hv
  obtain ⟨l⟩ := cs
  match l, hsz.trans hC with
  | [c0, c1, c2, c3], _ =>
    obtain ⟨fuel, hf⟩ := h
    obtain ⟨xs, n, _, hx, _, hlen, hg⟩ := DataW.trod_struct hs hf
    obtain ⟨o0, k0⟩ := Go.Deep.hone_of hone 0 f0 rfl
    obtain ⟨o1, k1⟩ := Go.Deep.hone_of hone 1 f1 rfl
    obtain ⟨o2, k2⟩ := Go.Deep.hone_of hone 2 f2 rfl
    obtain ⟨o3, k3⟩ := Go.Deep.hone_of hone 3 f3 rfl
    match xs, hlen with
    | [y0, y1, y2, y3], _ =>
      exact ⟨c0, c1, c2, c3, y0, y1, y2, y3, n, rfl, by simpa [Value.cells, o0, k0] using hg 0 f0 rfl, by simpa [Value.cells, o1, k1] using hg 1 f1 rfl, by simpa [Value.cells, o2, k2] using hg 2 f2 rfl, by simpa [Value.cells, o3, k3] using hg 3 f3 rfl⟩
end
def opRow (o : OpV) : List Value := [.int .u8 o.k, .int .i64 o.t, .int .i64 o.c, .int .i64 o.n]
section
variable {H : Type} {enc : TypeId × Value → H} {w : World}
theorem op_row {spare : Nat → Bool} {held : Bool} {fuel : Nat} {cs : List Value} {x : DataW H × List MemPlace} (h : DataW.trod enc Try.prog w 0 spare held fuel 33 cs = some x) :
    ∃ q : OpV, q.ok ∧ ∀ k, k < 4 → cs[k]? = (opRow q)[k]? := by
  have hs := Try.underlying33
  obtain ⟨xs, n, _, rfl, hl, hlen, hf⟩ := DataW.trod_struct hs h
  have cut1 : ∀ {cs : List Value} {o : Nat} {v : Value}, (cs.drop o).take 1 = [v] → cs[o]? = some v := by
    intro cs o v h
    have := congrArg (·[0]?) h
    simpa using this
  have hone := (show oneCellFields Try.prog _ = true from by kernel_rfl : oneCellFields Try.prog (match Try.prog.underlying 33 with | some (.struct fs) => fs | _ => #[]) = true)
  rw [hs] at hone
  match xs, hlen with
  | [y0, y1, y2, y3], _ =>
    obtain ⟨o0, k0⟩ := hone_of hone 0 _ rfl
    obtain ⟨a, ea, -, wa⟩ := DataW.trod_int Try.underlying5 (hf 0 _ rfl)
    rw [o0, k0] at ea
    obtain ⟨o1, k1⟩ := hone_of hone 1 _ rfl
    obtain ⟨b, eb, -, wb⟩ := DataW.trod_int Try.underlying3 (hf 1 _ rfl)
    rw [o1, k1] at eb
    obtain ⟨o2, k2⟩ := hone_of hone 2 _ rfl
    obtain ⟨c, ec, -, wc⟩ := DataW.trod_int Try.underlying3 (hf 2 _ rfl)
    rw [o2, k2] at ec
    obtain ⟨o3, k3⟩ := hone_of hone 3 _ rfl
    obtain ⟨d, ed, -, wd⟩ := DataW.trod_int Try.underlying2 (hf 3 _ rfl)
    rw [o3, k3] at ed
    refine ⟨⟨a, b, c, d⟩, ⟨wf_u8 wa, wf_i64 wb, wf_i64 wc, wf_i64 wd⟩, fun k hk => ?_⟩
    match k, hk with
    | 0, _ => exact cut1 ea
    | 1, _ => exact cut1 eb
    | 2, _ => exact cut1 ec
    | 3, _ => exact cut1 ed
theorem op_cells : Try.prog.cellsOf 33 = 4 := by kernel_rfl
theorem op0_ok : OpV.ok ⟨0, 0, 0, 0⟩ := by unfold OpV.ok I64; simp
theorem open_ops {fuel : Nat} {A : Option Addr} {len cap : Nat} {x : DataW H × List MemPlace} (h : DataW.trod enc Try.prog w 0 (fun _ => true) true fuel 48 [.slice A len cap] = some x) :
    len ≤ cap ∧ cap ≤ maxLen ∧ ∃ Q : Nat → OpV, SeqAt w w.heap.size A len 4 (fun i => opRow (Q i)) ∧ ∀ i, (Q i).ok := by
  obtain ⟨h1, h2, row, hs, hr⟩ := open_seq Try.underlying48 op_cells (by omega) h
  have hq : ∀ i, ∃ q : OpV, q.ok ∧ (i < len → ∀ k, k < 4 → (row i)[k]? = (opRow q)[k]?) := by
    intro i
    by_cases hi : i < len
    · obtain ⟨_, n, y, hy⟩ := hr i hi
      obtain ⟨q, hq⟩ := op_row hy
      exact ⟨q, hq.1, fun _ => hq.2⟩
    · exact ⟨⟨0, 0, 0, 0⟩, op0_ok, fun h => absurd h hi⟩
  refine ⟨h1, h2, fun i => (hq i).choose, fun h0 => ?_, fun i => (hq i).choose_spec.1⟩
  obtain ⟨b, off, e, hb, hc⟩ := hs h0
  exact ⟨b, off, e, hb, fun i hi k hk => (hc i hi k hk).trans ((hq i).choose_spec.2 hi k hk)⟩
end
end Go.Proofs.Ytmnkmnnngfgbgaa
