/- The table of names, as it is laid. -/
import Derived.Test.YtgocnliapkokbaaDoorGau
import Derived.Test.YtgocnliapkokbaaDoorRows
import Derived.ProofKit
import Derived.OpenShut
import Derived.LaidMore
import Derived.Lay
import Derived.Stop.Joined
namespace Go.Proofs.YtgocnliapkokbaaDoor
open Go.ChangeShapes Go.WideShapes Go.ChangeAt Go.RowKit
set_option linter.unusedVariables false
theorem nmB_is (s : ByteArray) (r : Nat) (h : s.data.toList = nmL.getD r []) : s = nmB r := by
  cases s with
  | mk d => unfold nmB; rw [← h]
theorem names_of_laid {W : World} (h : laidMetH Tryd.prog [("overfall/gate.names", Rows.laid_overfall_gate_names)] W) : NamesAt W := by
  intro r hr
  rw [MakeChecks.laidMetH_plain _ _ _ (by kernel_rfl)] at h
  obtain ⟨ps, ⟨g, t, cs, fuel, p, q, hg, ht, hv, hd, _, _⟩, _, _⟩ := h
  obtain rfl := Option.some.inj ((show Tryd.prog.globalNamed "overfall/gate.names" = some 0 by kernel_rfl).symm.trans hg)
  obtain rfl := Option.some.inj ((show (Tryd.prog.globals[0]?).map (·.type) = some 50 by kernel_rfl).symm.trans ht)
  obtain ⟨xs, m, _, ex, _, hl, hel⟩ := DataW.trod_array Tryd.underlying50 hd
  have c5 : Tryd.prog.cellsOf 9 = 1 := by kernel_rfl
  have hE := hel r hr
  rw [c5, Nat.mul_one, List.getElem?_eq_getElem (by omega)] at hE
  obtain ⟨z, e1, e2, _⟩ := DataW.trod_string Tryd.underlying9 hE
  have hlen : nmL.length = 11 := by kernel_rfl
  have e3 : (xs.map (·.1)) = nmL.map fun n => .lit (.string n) := (DataW.agg.inj (Prod.mk.inj ex).1).symm
  have e4 : (xs.map (·.1))[r]? = (nmL.map fun n => (DataW.lit (.string n) : DataW Unit))[r]? := by rw [e3]
  rw [List.getElem?_map, List.getElem?_map, List.getElem?_eq_getElem (by omega : r < xs.length), List.getElem?_eq_getElem (by omega : r < nmL.length), e2] at e4
  have hz : z = nmB r := by
    refine nmB_is z r ?_
    simp only [Option.map_some, Option.some.injEq, DataW.lit.injEq, Lit.string.injEq] at e4
    rw [e4, List.getD, List.getElem?_eq_getElem (by omega : r < nmL.length)]; rfl
  rw [World.var?_cell hg hv r, ← hz]
  have : cs.toList[r]? = some (.string z) := by
    have h0 : ((cs.toList.drop r).take 1)[0]? = some (.string z) := by rw [e1]; rfl
    simpa using h0
  simpa using this
theorem few_n (t n h : Int) (t0 : 0 ≤ t) (hn : 1 + t % 8 = n) (w : World) :
    Calls Tryd.prog 9 #[.int .u8 t, .int .i64 h] w fun e w' => e = .returned (.agg #[.int .i64 n, .int .i64 64, .int .i64 5, .int .i64 100, .int .i64 50, .int .i64 10, .int .i64 20, .int .i64 h, .int .i64 2147483648, .int .i64 4294967296, .int .i64 1073741824, .int .i64 0, .int .i64 1099511627776, .int .i64 64, .int .i64 4, .int .i64 4]) ∧ Below w.heap.size w w' := by
  subst hn
  exact few_any t _ h t0 rfl w
end Go.Proofs.YtgocnliapkokbaaDoor
