/- A row of bytes that comes in. -/
import Derived.Test.YtocgflhecnkcfaaSeq
import Derived.Test.YtocgflhecnkcfaaRow
import Derived.Test.YtocgflhecnkcfaaChecked
import Derived.ChangeArms
namespace Go.Proofs.Ytocgflhecnkcfaa
open Go.RowKit Go.ChangeShapes Go.WideShapes Go.Deep
set_option linter.unusedVariables false
set_option linter.unusedSimpArgs false
section
variable {H : Type} {enc : TypeId × Value → H} {w : World}
theorem open_ints_ {P : Program} {k : IntKind} {lo hi : Int} (hlh : lo ≤ 0 ∧ 0 ≤ hi) {t e : TypeId} {fuel : Nat} {A : Option Addr} {len cap : Nat} {x : DataW H × List MemPlace} (ht : P.underlying t = some (.slice e)) (he : P.underlying e = some (.int k)) (hC : P.cellsOf e = 1) (hw : ∀ a : Int, (Lit.int k a).wf = true → lo ≤ a ∧ a ≤ hi) (h : DataW.trod enc P w 0 (fun _ => true) true fuel t [.slice A len cap] = some x) :
    len ≤ cap ∧ cap ≤ maxLen ∧ ∃ K : Nat → Int, SeqAt w w.heap.size A len 1 (fun i => [.int k (K i)]) ∧ ∀ i, lo ≤ K i ∧ K i ≤ hi := by
  obtain ⟨h1, h2, row, hs, hr⟩ := open_seq ht hC (by omega) h
  have hq : ∀ i, ∃ b : Int, (lo ≤ b ∧ b ≤ hi) ∧ (i < len → row i = [.int k b]) := by
    intro i
    by_cases hi : i < len
    · obtain ⟨_, n, y, hy⟩ := hr i hi
      obtain ⟨c, hc, _, wc⟩ := DataW.trod_int he hy
      exact ⟨c, hw c wc, fun _ => hc⟩
    · exact ⟨0, hlh, fun h => absurd h hi⟩
  refine ⟨h1, h2, fun i => (hq i).choose, fun h0 => ?_, fun i => (hq i).choose_spec.1⟩
  obtain ⟨b, off, e, hb, hc⟩ := hs h0
  exact ⟨b, off, e, hb, fun i hi k hk => (hc i hi k hk).trans (by rw [(hq i).choose_spec.2 hi])⟩
end
end Go.Proofs.Ytocgflhecnkcfaa
