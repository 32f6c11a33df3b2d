/-
  No cell of these rows narrows 'for every input' (looked for: loops, veiled, ifaces, maps, wideKeys, modest, calm, conditions, laid).
  DERIVED. THE GIVEN ROWS OF THIS SEAT. 13 by the template 'for every input the law returns true; each argument reads behind the call as it read before'; 0 by the template 'total and deterministic' (their statements: YtapmnlalnmlcoaaTotals.lean).
  GIVEN WITH THE SEED: the statements are not yours to turn. If you find one false, say at which input.
  Laid BY PROGRAM, IN A SANDBOX (cutbox-rows.mjs): the forced cells as the released guide's own fill.sh prints them over the translation 8e7945fe157e9e8e… (all of the seat's roots in one cut). By AI agents, Wed Nov 11 2026. No macro, syntax, notation, axiom, sorry.
-/
import Derived.Test.YtapmnlalnmlcoaaChecked
import GoSem.Claim
import GoSem.ClaimJoined
import GoSem.ClaimMapViews
import Derived.JoinedTies
import Derived.KernelRfl
namespace Go.Proofs.Ytapmnlalnmlcoaa
/- THE CELL 'sum', in the pinned program and in every row, IS THE sha256 OF THE DUMP (.gsa) THAT YtapmnlalnmlcoaaProg.lean LOADS. Nothing in Lean hashes anything: it is a label: what it is worth is what the hold of that sum in a sandbox is worth. -/
noncomputable def Try.pinned : Pinned := { name := "ytapmnlalnmlcoaa", sum := "8e7945fe157e9e8e7eccc570e7c4b01a34a02b5ea47937515b4cb454290c0006", checked := Try.checked }
namespace Rows
def none {H : Type} : Left H := { results := [], args := [] }

/-- 'overfalllaw01.WideAdds': WHATEVER THE INPUT: true; the input reads as it did. -/
def wideAddsSpec : ChangeSpec := { name := "wideAdds", fn := fun _ => fun
  | [d1, d2] => { results := [.lit (.bool true)], args := [d1, d2] }
  | _ => none }
def wideAddsRow : OpenClaim := { program := "ytapmnlalnmlcoaa", sum := "8e7945fe157e9e8e7eccc570e7c4b01a34a02b5ea47937515b4cb454290c0006", func := "overfall/overfalllaw01.WideAdds", spec := "wideAdds", inPlace := ["math/bits.Add64", "math/bits.Sub64"], named := ["math/bits.divideError", "math/bits.overflowError"], apart := false }
def WideAddsSaid : Prop := wideAddsRow.holds Try.pinned (OpenSpec.ofChange wideAddsSpec)

/-- ITS FALSE NEIGHBOUR: 'it returns false'. Refute it at one input. -/
def wideAddsWrong : ChangeSpec := { name := "wideAdds", fn := fun _ => fun
  | [d1, d2] => { results := [.lit (.bool false)], args := [d1, d2] }
  | _ => none }
def WideAddsWrongFalsely : Prop := wideAddsRow.holds Try.pinned (OpenSpec.ofChange wideAddsWrong)

/-- 'overfalllaw01.WideMuls': WHATEVER THE INPUT: true; the input reads as it did. -/
def wideMulsSpec : ChangeSpec := { name := "wideMuls", fn := fun _ => fun
  | [d1, d2] => { results := [.lit (.bool true)], args := [d1, d2] }
  | _ => none }
def wideMulsRow : OpenClaim := { program := "ytapmnlalnmlcoaa", sum := "8e7945fe157e9e8e7eccc570e7c4b01a34a02b5ea47937515b4cb454290c0006", func := "overfall/overfalllaw01.WideMuls", spec := "wideMuls", named := ["math/bits.divideError", "math/bits.overflowError"], apart := false }
def WideMulsSaid : Prop := wideMulsRow.holds Try.pinned (OpenSpec.ofChange wideMulsSpec)

/-- ITS FALSE NEIGHBOUR: 'it returns false'. Refute it at one input. -/
def wideMulsWrong : ChangeSpec := { name := "wideMuls", fn := fun _ => fun
  | [d1, d2] => { results := [.lit (.bool false)], args := [d1, d2] }
  | _ => none }
def WideMulsWrongFalsely : Prop := wideMulsRow.holds Try.pinned (OpenSpec.ofChange wideMulsWrong)

/-- 'overfalllaw01.WideDivs': WHATEVER THE INPUT: true; the input reads as it did. -/
def wideDivsSpec : ChangeSpec := { name := "wideDivs", fn := fun _ => fun
  | [d1, d2] => { results := [.lit (.bool true)], args := [d1, d2] }
  | _ => none }
def wideDivsRow : OpenClaim := { program := "ytapmnlalnmlcoaa", sum := "8e7945fe157e9e8e7eccc570e7c4b01a34a02b5ea47937515b4cb454290c0006", func := "overfall/overfalllaw01.WideDivs", spec := "wideDivs", inPlace := ["math/bits.Add64"], named := ["math/bits.divideError", "math/bits.overflowError"], apart := false }
def WideDivsSaid : Prop := wideDivsRow.holds Try.pinned (OpenSpec.ofChange wideDivsSpec)

/-- ITS FALSE NEIGHBOUR: 'it returns false'. Refute it at one input. -/
def wideDivsWrong : ChangeSpec := { name := "wideDivs", fn := fun _ => fun
  | [d1, d2] => { results := [.lit (.bool false)], args := [d1, d2] }
  | _ => none }
def WideDivsWrongFalsely : Prop := wideDivsRow.holds Try.pinned (OpenSpec.ofChange wideDivsWrong)

/-- 'overfalllaw01.WideShifts': WHATEVER THE INPUT: true; the input reads as it did. -/
def wideShiftsSpec : ChangeSpec := { name := "wideShifts", fn := fun _ => fun
  | [d1, d2] => { results := [.lit (.bool true)], args := [d1, d2] }
  | _ => none }
def wideShiftsRow : OpenClaim := { program := "ytapmnlalnmlcoaa", sum := "8e7945fe157e9e8e7eccc570e7c4b01a34a02b5ea47937515b4cb454290c0006", func := "overfall/overfalllaw01.WideShifts", spec := "wideShifts", named := ["math/bits.divideError", "math/bits.overflowError"], apart := false }
def WideShiftsSaid : Prop := wideShiftsRow.holds Try.pinned (OpenSpec.ofChange wideShiftsSpec)

/-- ITS FALSE NEIGHBOUR: 'it returns false'. Refute it at one input. -/
def wideShiftsWrong : ChangeSpec := { name := "wideShifts", fn := fun _ => fun
  | [d1, d2] => { results := [.lit (.bool false)], args := [d1, d2] }
  | _ => none }
def WideShiftsWrongFalsely : Prop := wideShiftsRow.holds Try.pinned (OpenSpec.ofChange wideShiftsWrong)

/-- 'overfalllaw01.WideOrders': WHATEVER THE INPUT: true; the input reads as it did. -/
def wideOrdersSpec : ChangeSpec := { name := "wideOrders", fn := fun _ => fun
  | [d1, d2] => { results := [.lit (.bool true)], args := [d1, d2] }
  | _ => none }
def wideOrdersRow : OpenClaim := { program := "ytapmnlalnmlcoaa", sum := "8e7945fe157e9e8e7eccc570e7c4b01a34a02b5ea47937515b4cb454290c0006", func := "overfall/overfalllaw01.WideOrders", spec := "wideOrders", named := ["math/bits.divideError", "math/bits.overflowError"], apart := false }
def WideOrdersSaid : Prop := wideOrdersRow.holds Try.pinned (OpenSpec.ofChange wideOrdersSpec)

/-- ITS FALSE NEIGHBOUR: 'it returns false'. Refute it at one input. -/
def wideOrdersWrong : ChangeSpec := { name := "wideOrders", fn := fun _ => fun
  | [d1, d2] => { results := [.lit (.bool false)], args := [d1, d2] }
  | _ => none }
def WideOrdersWrongFalsely : Prop := wideOrdersRow.holds Try.pinned (OpenSpec.ofChange wideOrdersWrong)

/-- 'overfalllaw01.WideTexts': WHATEVER THE INPUT: true; the input reads as it did. -/
def wideTextsSpec : ChangeSpec := { name := "wideTexts", fn := fun _ => fun
  | [d] => { results := [.lit (.bool true)], args := [d] }
  | _ => none }
def wideTextsRow : OpenClaim := { program := "ytapmnlalnmlcoaa", sum := "8e7945fe157e9e8e7eccc570e7c4b01a34a02b5ea47937515b4cb454290c0006", func := "overfall/overfalllaw01.WideTexts", spec := "wideTexts", inPlace := ["math/bits.Add64"], recurses := true, named := ["math/bits.divideError", "math/bits.overflowError"], apart := false }
def WideTextsSaid : Prop := wideTextsRow.holds Try.pinned (OpenSpec.ofChange wideTextsSpec)

/-- ITS FALSE NEIGHBOUR: 'it returns false'. Refute it at one input. -/
def wideTextsWrong : ChangeSpec := { name := "wideTexts", fn := fun _ => fun
  | [d] => { results := [.lit (.bool false)], args := [d] }
  | _ => none }
def WideTextsWrongFalsely : Prop := wideTextsRow.holds Try.pinned (OpenSpec.ofChange wideTextsWrong)

/-- 'overfalllaw01.WideParses': WHATEVER THE INPUT: true; the input reads as it did. -/
def wideParsesSpec : ChangeSpec := { name := "wideParses", fn := fun _ => fun
  | [d] => { results := [.lit (.bool true)], args := [d] }
  | _ => none }
def wideParsesRow : OpenClaim := { program := "ytapmnlalnmlcoaa", sum := "8e7945fe157e9e8e7eccc570e7c4b01a34a02b5ea47937515b4cb454290c0006", func := "overfall/overfalllaw01.WideParses", spec := "wideParses", inPlace := ["math/bits.Add64"], named := ["math/bits.divideError", "math/bits.overflowError"], apart := false }
def WideParsesSaid : Prop := wideParsesRow.holds Try.pinned (OpenSpec.ofChange wideParsesSpec)

/-- ITS FALSE NEIGHBOUR: 'it returns false'. Refute it at one input. -/
def wideParsesWrong : ChangeSpec := { name := "wideParses", fn := fun _ => fun
  | [d] => { results := [.lit (.bool false)], args := [d] }
  | _ => none }
def WideParsesWrongFalsely : Prop := wideParsesRow.holds Try.pinned (OpenSpec.ofChange wideParsesWrong)

/-- 'overfalllaw01.WidePowers': WHATEVER THE INPUT: true; the input reads as it did. -/
def widePowersSpec : ChangeSpec := { name := "widePowers", fn := fun _ => fun
  | [d1, d2] => { results := [.lit (.bool true)], args := [d1, d2] }
  | _ => none }
def widePowersRow : OpenClaim := { program := "ytapmnlalnmlcoaa", sum := "8e7945fe157e9e8e7eccc570e7c4b01a34a02b5ea47937515b4cb454290c0006", func := "overfall/overfalllaw01.WidePowers", spec := "widePowers", inPlace := ["math/bits.Add64"], named := ["math/bits.divideError", "math/bits.overflowError"], apart := false }
def WidePowersSaid : Prop := widePowersRow.holds Try.pinned (OpenSpec.ofChange widePowersSpec)

/-- ITS FALSE NEIGHBOUR: 'it returns false'. Refute it at one input. -/
def widePowersWrong : ChangeSpec := { name := "widePowers", fn := fun _ => fun
  | [d1, d2] => { results := [.lit (.bool false)], args := [d1, d2] }
  | _ => none }
def WidePowersWrongFalsely : Prop := widePowersRow.holds Try.pinned (OpenSpec.ofChange widePowersWrong)

/-- 'overfalllaw03.RootSquares': WHATEVER THE INPUT: true; the input reads as it did. -/
def rootSquaresSpec : ChangeSpec := { name := "rootSquares", fn := fun _ => fun
  | [d] => { results := [.lit (.bool true)], args := [d] }
  | _ => none }
def rootSquaresRow : OpenClaim := { program := "ytapmnlalnmlcoaa", sum := "8e7945fe157e9e8e7eccc570e7c4b01a34a02b5ea47937515b4cb454290c0006", func := "overfall/overfalllaw03.RootSquares", spec := "rootSquares", named := ["math/bits.divideError", "math/bits.overflowError"], apart := false }
def RootSquaresSaid : Prop := rootSquaresRow.holds Try.pinned (OpenSpec.ofChange rootSquaresSpec)

/-- ITS FALSE NEIGHBOUR: 'it returns false'. Refute it at one input. -/
def rootSquaresWrong : ChangeSpec := { name := "rootSquares", fn := fun _ => fun
  | [d] => { results := [.lit (.bool false)], args := [d] }
  | _ => none }
def RootSquaresWrongFalsely : Prop := rootSquaresRow.holds Try.pinned (OpenSpec.ofChange rootSquaresWrong)

/-- 'overfalllaw03.RootWides': WHATEVER THE INPUT: true; the input reads as it did. -/
def rootWidesSpec : ChangeSpec := { name := "rootWides", fn := fun _ => fun
  | [d] => { results := [.lit (.bool true)], args := [d] }
  | _ => none }
def rootWidesRow : OpenClaim := { program := "ytapmnlalnmlcoaa", sum := "8e7945fe157e9e8e7eccc570e7c4b01a34a02b5ea47937515b4cb454290c0006", func := "overfall/overfalllaw03.RootWides", spec := "rootWides", named := ["math/bits.divideError", "math/bits.overflowError"], apart := false }
def RootWidesSaid : Prop := rootWidesRow.holds Try.pinned (OpenSpec.ofChange rootWidesSpec)

/-- ITS FALSE NEIGHBOUR: 'it returns false'. Refute it at one input. -/
def rootWidesWrong : ChangeSpec := { name := "rootWides", fn := fun _ => fun
  | [d] => { results := [.lit (.bool false)], args := [d] }
  | _ => none }
def RootWidesWrongFalsely : Prop := rootWidesRow.holds Try.pinned (OpenSpec.ofChange rootWidesWrong)

/-- 'overfalllaw03.RootLaws': WHATEVER THE INPUT: true; the input reads as it did. -/
def rootLawsSpec : ChangeSpec := { name := "rootLaws", fn := fun _ => fun
  | [d1, d2] => { results := [.lit (.bool true)], args := [d1, d2] }
  | _ => none }
def rootLawsRow : OpenClaim := { program := "ytapmnlalnmlcoaa", sum := "8e7945fe157e9e8e7eccc570e7c4b01a34a02b5ea47937515b4cb454290c0006", func := "overfall/overfalllaw03.RootLaws", spec := "rootLaws", named := ["math/bits.divideError", "math/bits.overflowError"], apart := false }
def RootLawsSaid : Prop := rootLawsRow.holds Try.pinned (OpenSpec.ofChange rootLawsSpec)

/-- ITS FALSE NEIGHBOUR: 'it returns false'. Refute it at one input. -/
def rootLawsWrong : ChangeSpec := { name := "rootLaws", fn := fun _ => fun
  | [d1, d2] => { results := [.lit (.bool false)], args := [d1, d2] }
  | _ => none }
def RootLawsWrongFalsely : Prop := rootLawsRow.holds Try.pinned (OpenSpec.ofChange rootLawsWrong)

/-- 'overfalllaw03.RootFalls': WHATEVER THE INPUT: true; the input reads as it did. -/
def rootFallsSpec : ChangeSpec := { name := "rootFalls", fn := fun _ => fun
  | [d1, d2, d3, d4, d5] => { results := [.lit (.bool true)], args := [d1, d2, d3, d4, d5] }
  | _ => none }
def rootFallsRow : OpenClaim := { program := "ytapmnlalnmlcoaa", sum := "8e7945fe157e9e8e7eccc570e7c4b01a34a02b5ea47937515b4cb454290c0006", func := "overfall/overfalllaw03.RootFalls", spec := "rootFalls", named := ["math/bits.divideError", "math/bits.overflowError"], apart := false }
def RootFallsSaid : Prop := rootFallsRow.holds Try.pinned (OpenSpec.ofChange rootFallsSpec)

/-- ITS FALSE NEIGHBOUR: 'it returns false'. Refute it at one input. -/
def rootFallsWrong : ChangeSpec := { name := "rootFalls", fn := fun _ => fun
  | [d1, d2, d3, d4, d5] => { results := [.lit (.bool false)], args := [d1, d2, d3, d4, d5] }
  | _ => none }
def RootFallsWrongFalsely : Prop := rootFallsRow.holds Try.pinned (OpenSpec.ofChange rootFallsWrong)

/-- 'overfalllaw03.RootRises': WHATEVER THE INPUT: true; the input reads as it did. -/
def rootRisesSpec : ChangeSpec := { name := "rootRises", fn := fun _ => fun
  | [d1, d2, d3, d4] => { results := [.lit (.bool true)], args := [d1, d2, d3, d4] }
  | _ => none }
def rootRisesRow : OpenClaim := { program := "ytapmnlalnmlcoaa", sum := "8e7945fe157e9e8e7eccc570e7c4b01a34a02b5ea47937515b4cb454290c0006", func := "overfall/overfalllaw03.RootRises", spec := "rootRises", named := ["math/bits.divideError", "math/bits.overflowError"], apart := false }
def RootRisesSaid : Prop := rootRisesRow.holds Try.pinned (OpenSpec.ofChange rootRisesSpec)

/-- ITS FALSE NEIGHBOUR: 'it returns false'. Refute it at one input. -/
def rootRisesWrong : ChangeSpec := { name := "rootRises", fn := fun _ => fun
  | [d1, d2, d3, d4] => { results := [.lit (.bool false)], args := [d1, d2, d3, d4] }
  | _ => none }
def RootRisesWrongFalsely : Prop := rootRisesRow.holds Try.pinned (OpenSpec.ofChange rootRisesWrong)

/- THE SECOND FORM. 'bulk': how many values and letters a reading holds, each counted each time it is reached (what is shared counts as often as it is met; a slice's spare places count too). A statement '..UptoSaid' is the law's where the arguments, and the package variables that the reading takes, are together of bulk at most 1048576: NARROWER than '..Said'. Prove '..Said' where nothing that the law and all that it calls make is longer than what came in: it says more and counts as full. Else prove '..UptoSaid'. A law counts once. -/
mutual
def uptoBulk {H : Type} : DataW H → Nat
  | .lit (.string bytes) => bytes.length + 1
  | .lit _ => 1
  | .nil => 1
  | .ptr d => uptoBulk d + 1
  | .slice elems spare => uptoBulkAll elems + uptoBulkAll spare + 1
  | .agg parts => uptoBulkAll parts + 1
  | .iface _ d => uptoBulk d + 1
  | .map entries => uptoBulkEntries entries + 1
  | .held _ => 1
def uptoBulkAll {H : Type} : List (DataW H) → Nat
  | [] => 0
  | d :: r => uptoBulk d + uptoBulkAll r
def uptoBulkEntries {H : Type} : List (Lit × DataW H) → Nat
  | [] => 0
  | x :: r => uptoBulkEntry x + uptoBulkEntries r
def uptoBulkEntry {H : Type} : Lit × DataW H → Nat
  | (.string bytes, d) => bytes.length + uptoBulk d + 1
  | (_, d) => uptoBulk d + 1
 end
def uptoSmall : (H : Type) → List (DataW H) → Bool := fun _ ds => decide (uptoBulkAll ds ≤ 1048576)
def OpenSpec.upto (s : _root_.Go.ChangeSpec) : _root_.Go.OpenSpec := { _root_.Go.OpenSpec.ofChange s with cond := some uptoSmall }

/-- 'overfalllaw01.WideAdds', WHERE WHAT IT READS IS OF BULK AT MOST 1048576: true; the input reads as it did. -/
def wideAddsUptoRow : OpenClaim := { program := "ytapmnlalnmlcoaa", sum := "8e7945fe157e9e8e7eccc570e7c4b01a34a02b5ea47937515b4cb454290c0006", func := "overfall/overfalllaw01.WideAdds", spec := "wideAdds", inPlace := ["math/bits.Add64", "math/bits.Sub64"], named := ["math/bits.divideError", "math/bits.overflowError"], apart := false, narrowed := true }
def WideAddsUptoSaid : Prop := wideAddsUptoRow.holds Try.pinned (OpenSpec.upto wideAddsSpec)

/-- 'overfalllaw01.WideMuls', WHERE WHAT IT READS IS OF BULK AT MOST 1048576: true; the input reads as it did. -/
def wideMulsUptoRow : OpenClaim := { program := "ytapmnlalnmlcoaa", sum := "8e7945fe157e9e8e7eccc570e7c4b01a34a02b5ea47937515b4cb454290c0006", func := "overfall/overfalllaw01.WideMuls", spec := "wideMuls", named := ["math/bits.divideError", "math/bits.overflowError"], apart := false, narrowed := true }
def WideMulsUptoSaid : Prop := wideMulsUptoRow.holds Try.pinned (OpenSpec.upto wideMulsSpec)

/-- 'overfalllaw01.WideDivs', WHERE WHAT IT READS IS OF BULK AT MOST 1048576: true; the input reads as it did. -/
def wideDivsUptoRow : OpenClaim := { program := "ytapmnlalnmlcoaa", sum := "8e7945fe157e9e8e7eccc570e7c4b01a34a02b5ea47937515b4cb454290c0006", func := "overfall/overfalllaw01.WideDivs", spec := "wideDivs", inPlace := ["math/bits.Add64"], named := ["math/bits.divideError", "math/bits.overflowError"], apart := false, narrowed := true }
def WideDivsUptoSaid : Prop := wideDivsUptoRow.holds Try.pinned (OpenSpec.upto wideDivsSpec)

/-- 'overfalllaw01.WideShifts', WHERE WHAT IT READS IS OF BULK AT MOST 1048576: true; the input reads as it did. -/
def wideShiftsUptoRow : OpenClaim := { program := "ytapmnlalnmlcoaa", sum := "8e7945fe157e9e8e7eccc570e7c4b01a34a02b5ea47937515b4cb454290c0006", func := "overfall/overfalllaw01.WideShifts", spec := "wideShifts", named := ["math/bits.divideError", "math/bits.overflowError"], apart := false, narrowed := true }
def WideShiftsUptoSaid : Prop := wideShiftsUptoRow.holds Try.pinned (OpenSpec.upto wideShiftsSpec)

/-- 'overfalllaw01.WideOrders', WHERE WHAT IT READS IS OF BULK AT MOST 1048576: true; the input reads as it did. -/
def wideOrdersUptoRow : OpenClaim := { program := "ytapmnlalnmlcoaa", sum := "8e7945fe157e9e8e7eccc570e7c4b01a34a02b5ea47937515b4cb454290c0006", func := "overfall/overfalllaw01.WideOrders", spec := "wideOrders", named := ["math/bits.divideError", "math/bits.overflowError"], apart := false, narrowed := true }
def WideOrdersUptoSaid : Prop := wideOrdersUptoRow.holds Try.pinned (OpenSpec.upto wideOrdersSpec)

/-- 'overfalllaw01.WideTexts', WHERE WHAT IT READS IS OF BULK AT MOST 1048576: true; the input reads as it did. -/
def wideTextsUptoRow : OpenClaim := { program := "ytapmnlalnmlcoaa", sum := "8e7945fe157e9e8e7eccc570e7c4b01a34a02b5ea47937515b4cb454290c0006", func := "overfall/overfalllaw01.WideTexts", spec := "wideTexts", inPlace := ["math/bits.Add64"], recurses := true, named := ["math/bits.divideError", "math/bits.overflowError"], apart := false, narrowed := true }
def WideTextsUptoSaid : Prop := wideTextsUptoRow.holds Try.pinned (OpenSpec.upto wideTextsSpec)

/-- 'overfalllaw01.WideParses', WHERE WHAT IT READS IS OF BULK AT MOST 1048576: true; the input reads as it did. -/
def wideParsesUptoRow : OpenClaim := { program := "ytapmnlalnmlcoaa", sum := "8e7945fe157e9e8e7eccc570e7c4b01a34a02b5ea47937515b4cb454290c0006", func := "overfall/overfalllaw01.WideParses", spec := "wideParses", inPlace := ["math/bits.Add64"], named := ["math/bits.divideError", "math/bits.overflowError"], apart := false, narrowed := true }
def WideParsesUptoSaid : Prop := wideParsesUptoRow.holds Try.pinned (OpenSpec.upto wideParsesSpec)

/-- 'overfalllaw01.WidePowers', WHERE WHAT IT READS IS OF BULK AT MOST 1048576: true; the input reads as it did. -/
def widePowersUptoRow : OpenClaim := { program := "ytapmnlalnmlcoaa", sum := "8e7945fe157e9e8e7eccc570e7c4b01a34a02b5ea47937515b4cb454290c0006", func := "overfall/overfalllaw01.WidePowers", spec := "widePowers", inPlace := ["math/bits.Add64"], named := ["math/bits.divideError", "math/bits.overflowError"], apart := false, narrowed := true }
def WidePowersUptoSaid : Prop := widePowersUptoRow.holds Try.pinned (OpenSpec.upto widePowersSpec)

/-- 'overfalllaw03.RootSquares', WHERE WHAT IT READS IS OF BULK AT MOST 1048576: true; the input reads as it did. -/
def rootSquaresUptoRow : OpenClaim := { program := "ytapmnlalnmlcoaa", sum := "8e7945fe157e9e8e7eccc570e7c4b01a34a02b5ea47937515b4cb454290c0006", func := "overfall/overfalllaw03.RootSquares", spec := "rootSquares", named := ["math/bits.divideError", "math/bits.overflowError"], apart := false, narrowed := true }
def RootSquaresUptoSaid : Prop := rootSquaresUptoRow.holds Try.pinned (OpenSpec.upto rootSquaresSpec)

/-- 'overfalllaw03.RootWides', WHERE WHAT IT READS IS OF BULK AT MOST 1048576: true; the input reads as it did. -/
def rootWidesUptoRow : OpenClaim := { program := "ytapmnlalnmlcoaa", sum := "8e7945fe157e9e8e7eccc570e7c4b01a34a02b5ea47937515b4cb454290c0006", func := "overfall/overfalllaw03.RootWides", spec := "rootWides", named := ["math/bits.divideError", "math/bits.overflowError"], apart := false, narrowed := true }
def RootWidesUptoSaid : Prop := rootWidesUptoRow.holds Try.pinned (OpenSpec.upto rootWidesSpec)

/-- 'overfalllaw03.RootLaws', WHERE WHAT IT READS IS OF BULK AT MOST 1048576: true; the input reads as it did. -/
def rootLawsUptoRow : OpenClaim := { program := "ytapmnlalnmlcoaa", sum := "8e7945fe157e9e8e7eccc570e7c4b01a34a02b5ea47937515b4cb454290c0006", func := "overfall/overfalllaw03.RootLaws", spec := "rootLaws", named := ["math/bits.divideError", "math/bits.overflowError"], apart := false, narrowed := true }
def RootLawsUptoSaid : Prop := rootLawsUptoRow.holds Try.pinned (OpenSpec.upto rootLawsSpec)

/-- 'overfalllaw03.RootFalls', WHERE WHAT IT READS IS OF BULK AT MOST 1048576: true; the input reads as it did. -/
def rootFallsUptoRow : OpenClaim := { program := "ytapmnlalnmlcoaa", sum := "8e7945fe157e9e8e7eccc570e7c4b01a34a02b5ea47937515b4cb454290c0006", func := "overfall/overfalllaw03.RootFalls", spec := "rootFalls", named := ["math/bits.divideError", "math/bits.overflowError"], apart := false, narrowed := true }
def RootFallsUptoSaid : Prop := rootFallsUptoRow.holds Try.pinned (OpenSpec.upto rootFallsSpec)

/-- 'overfalllaw03.RootRises', WHERE WHAT IT READS IS OF BULK AT MOST 1048576: true; the input reads as it did. -/
def rootRisesUptoRow : OpenClaim := { program := "ytapmnlalnmlcoaa", sum := "8e7945fe157e9e8e7eccc570e7c4b01a34a02b5ea47937515b4cb454290c0006", func := "overfall/overfalllaw03.RootRises", spec := "rootRises", named := ["math/bits.divideError", "math/bits.overflowError"], apart := false, narrowed := true }
def RootRisesUptoSaid : Prop := rootRisesUptoRow.holds Try.pinned (OpenSpec.upto rootRisesSpec)

end Rows
end Go.Proofs.Ytapmnlalnmlcoaa
