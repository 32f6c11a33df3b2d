/- Picks that come in, as rows of numbers. -/
import Derived.Test.YtbenpnecjmpcbaaSeq
import Derived.Test.YtbenpnecjmpcbaaRow
import Derived.Test.YtbenpnecjmpcbaaProg
import Derived.ChangeArms
namespace Go.Proofs.Ytbenpnecjmpcbaa
open Go.RowKit Go.ChangeShapes Go.WideShapes Go.Deep
set_option linter.unusedVariables false
/-- A pick: the thread, what is done, the value. -/
structure Pk where
  t : Int
  d : Int
  v : Int
def pkRow (q : Pk) : List Value := [.int .u8 q.t, .int .u8 q.d, .int .u64 q.v]
def Pk.ok (q : Pk) : Prop := (0 ≤ q.t ∧ q.t ≤ 255) ∧ (0 ≤ q.d ∧ q.d ≤ 255) ∧ (0 ≤ q.v ∧ q.v ≤ 18446744073709551615)
section
variable {H : Type} {enc : TypeId × Value → H} {w : World}
theorem cut1_ {cs : List Value} {o : Nat} {v : Value} (h : (cs.drop o).take 1 = [v]) : cs[o]? = some v := by
  have := congrArg (·[0]?) h
  simpa using this
theorem pk_row_ {P : Program} {t : TypeId} {f0 f1 f2 : Field} {spare : Nat → Bool} {held : Bool} {fuel : Nat} {cs : List Value} {x : DataW H × List MemPlace} (hs : P.underlying t = some (.struct #[f0, f1, f2])) (hone : oneCellFields P #[f0, f1, f2] = true)
    (hu : P.underlying f0.type = some (.int .u8)) (hi : P.underlying f1.type = some (.int .u8)) (hi' : P.underlying f2.type = some (.int .u64)) (h : DataW.trod enc P w 0 spare held fuel t cs = some x) :
    ∃ q : Pk, q.ok ∧ ∀ k, k < 3 → cs[k]? = (pkRow q)[k]? := by
  obtain ⟨xs, n, _, rfl, hl, hlen, hf⟩ := DataW.trod_struct hs h
  match xs, hlen with
  | [y0, y1, y2], _ =>
    obtain ⟨o0, k0⟩ := hone_of hone 0 f0 rfl
    obtain ⟨a, ea, -, wa⟩ := DataW.trod_int hu (hf 0 _ rfl)
    rw [o0, k0] at ea
    obtain ⟨o1, k1⟩ := hone_of hone 1 f1 rfl
    obtain ⟨b, eb, -, wb⟩ := DataW.trod_int hi (hf 1 _ rfl)
    rw [o1, k1] at eb
    obtain ⟨o2, k2⟩ := hone_of hone 2 f2 rfl
    obtain ⟨c, ec, -, wc⟩ := DataW.trod_int hi' (hf 2 _ rfl)
    rw [o2, k2] at ec
    refine ⟨⟨a, b, c⟩, ⟨wf_u8 wa, wf_u8 wb, wf_u64 wc⟩, fun k hk => ?_⟩
    match k, hk with
    | 0, _ => exact cut1_ ea
    | 1, _ => exact cut1_ eb
    | 2, _ => exact cut1_ ec
theorem pk_row {spare : Nat → Bool} {held : Bool} {fuel : Nat} {cs : List Value} {x : DataW H × List MemPlace} (h : DataW.trod enc Try.prog w 0 spare held fuel 35 cs = some x) :
    ∃ q : Pk, q.ok ∧ ∀ k, k < 3 → cs[k]? = (pkRow q)[k]? := by
  exact pk_row_ Try.underlying35 (by kernel_rfl) Try.underlying5 Try.underlying5 Try.underlying33 h
theorem pk_cells : Try.prog.cellsOf 35 = 3 := by kernel_rfl
theorem open_pks {fuel : Nat} {A : Option Addr} {len cap : Nat} {x : DataW H × List MemPlace} (h : DataW.trod enc Try.prog w 0 (fun _ => true) true fuel 22 [.slice A len cap] = some x) :
    len ≤ cap ∧ cap ≤ maxLen ∧ ∃ Q : Nat → Pk, SeqAt w w.heap.size A len 3 (fun i => pkRow (Q i)) ∧ ∀ i, i < len → (Q i).ok := by
  obtain ⟨h1, h2, row, hs, hr⟩ := open_seq Try.underlying22 pk_cells (by omega) h
  have hq : ∀ i, ∃ q : Pk, i < len → q.ok ∧ ∀ k, k < 3 → (row i)[k]? = (pkRow q)[k]? := by
    intro i
    by_cases hi : i < len
    · obtain ⟨_, n, y, hy⟩ := hr i hi
      obtain ⟨q, hq⟩ := pk_row hy
      exact ⟨q, fun _ => hq⟩
    · exact ⟨⟨0, 0, 0⟩, fun h => absurd h hi⟩
  refine ⟨h1, h2, fun i => (hq i).choose, fun h0 => ?_, fun i hi => ((hq i).choose_spec hi).1⟩
  obtain ⟨b, off, e, hb, hc⟩ := hs h0
  exact ⟨b, off, e, hb, fun i hi k hk => (hc i hi k hk).trans (((hq i).choose_spec hi).2 k hk)⟩
end
end Go.Proofs.Ytbenpnecjmpcbaa
