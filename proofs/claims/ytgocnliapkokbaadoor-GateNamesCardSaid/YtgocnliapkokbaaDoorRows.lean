/-
  NARROWER THAN 'FOR EVERY INPUT', by the rows' own cells (each row's printed sentence says how): GateJudges: laid · GateFalls: laid · GateEnds: laid · GateNames: laid · GateHorizons: laid.
  DERIVED. THE GIVEN ROWS OF THIS SEAT. 5 by the template 'for every input the law returns true; each argument reads behind the call as it read before'; 0 by the template 'total and deterministic' (their statements: YtgocnliapkokbaaDoorTotals.lean).
  GIVEN WITH THE SEED: the statements are not yours to turn. If you find one false, say at which input.
  Laid BY PROGRAM, IN A SANDBOX (cutbox-rows.mjs): the forced cells as the released guide's own fill.sh prints them over the translation bd4f59c247580647… (all of the seat's roots in one cut). By AI agents, Wed Nov 11 2026. No macro, syntax, notation, axiom, sorry.
-/
import Derived.Test.YtgocnliapkokbaaDoorChecked
import GoSem.Claim
import GoSem.ClaimJoined
import GoSem.ClaimMapViews
import Derived.JoinedTies
import Derived.KernelRfl
namespace Go.Proofs.YtgocnliapkokbaaDoor
/- THE CELL 'sum', in the pinned program and in every row, IS THE sha256 OF THE DUMP (.gsa) THAT YtgocnliapkokbaaDoorProg.lean LOADS. Nothing in Lean hashes anything: it is a label: what it is worth is what the hold of that sum in a sandbox is worth. -/
noncomputable def Tryd.pinned : Pinned := { name := "ytgocnliapkokbaadoor", sum := "bd4f59c247580647714996069b300df8593664e0b65f3723886ef0122884d73d", checked := Tryd.checked }
namespace Rows
def none {H : Type} : Left H := { results := [], args := [] }

/- WHAT THE LISTED PACKAGE-LEVEL VARIABLES READ AS WHEN THE CALL BEGINS. Each datum BY PROGRAM (the guide's laid-datum.mjs) off the statement by which the dump's own 'gosem.cut.vars' lays the variable. In a bare row this is a premise. The card (YtgocnliapkokbaaDoorCards.lean) ties it to the program's text. -/
def laid_overfall_gate_names {H : Type} : DataW H := .agg [.lit (.string [97, 100, 109, 105, 116, 116, 101, 100]), .lit (.string [105, 110, 118, 97, 108, 105, 100]), .lit (.string [101, 120, 112, 105, 114, 101, 100]), .lit (.string [99, 117, 116, 111, 102, 102]), .lit (.string [102, 117, 108, 108]), .lit (.string [100, 114, 97, 105, 110, 105, 110, 103]), .lit (.string [100, 105, 115, 112, 97, 116, 99, 104, 101, 100]), .lit (.string [101, 109, 112, 116, 121]), .lit (.string [99, 108, 111, 115, 101, 100]), .lit (.string [100, 111, 110, 101]), .lit (.string [98, 117, 115, 121])]

/-- 'overfalllaw14.GateJudges': WHATEVER THE INPUT: true; the input reads as it did. -/
def gateJudgesSpec : ChangeSpec := { name := "gateJudges", fn := fun _ => fun
  | [d1, d2, d3, d4, d5, d6, d7] => { results := [.lit (.bool true)], args := [d1, d2, d3, d4, d5, d6, d7] }
  | _ => none }
def gateJudgesRow : OpenClaim := { program := "ytgocnliapkokbaadoor", sum := "bd4f59c247580647714996069b300df8593664e0b65f3723886ef0122884d73d", func := "overfall/overfalllaw14.GateJudges", spec := "gateJudges", named := ["overfall/gate.names"], apart := false, laid := [("overfall/gate.names", laid_overfall_gate_names)] }
def GateJudgesSaid : Prop := gateJudgesRow.holds Tryd.pinned (OpenSpec.ofChange gateJudgesSpec)

/-- ITS FALSE NEIGHBOUR: 'it returns false'. Refute it at one input. -/
def gateJudgesWrong : ChangeSpec := { name := "gateJudges", fn := fun _ => fun
  | [d1, d2, d3, d4, d5, d6, d7] => { results := [.lit (.bool false)], args := [d1, d2, d3, d4, d5, d6, d7] }
  | _ => none }
def GateJudgesWrongFalsely : Prop := gateJudgesRow.holds Tryd.pinned (OpenSpec.ofChange gateJudgesWrong)

/-- 'overfalllaw14.GateFalls': WHATEVER THE INPUT: true; the input reads as it did. -/
def gateFallsSpec : ChangeSpec := { name := "gateFalls", fn := fun _ => fun
  | [d1, d2, d3, d4, d5, d6, d7, d8, d9] => { results := [.lit (.bool true)], args := [d1, d2, d3, d4, d5, d6, d7, d8, d9] }
  | _ => none }
def gateFallsRow : OpenClaim := { program := "ytgocnliapkokbaadoor", sum := "bd4f59c247580647714996069b300df8593664e0b65f3723886ef0122884d73d", func := "overfall/overfalllaw14.GateFalls", spec := "gateFalls", named := ["overfall/gate.names"], apart := false, laid := [("overfall/gate.names", laid_overfall_gate_names)] }
def GateFallsSaid : Prop := gateFallsRow.holds Tryd.pinned (OpenSpec.ofChange gateFallsSpec)

/-- ITS FALSE NEIGHBOUR: 'it returns false'. Refute it at one input. -/
def gateFallsWrong : ChangeSpec := { name := "gateFalls", fn := fun _ => fun
  | [d1, d2, d3, d4, d5, d6, d7, d8, d9] => { results := [.lit (.bool false)], args := [d1, d2, d3, d4, d5, d6, d7, d8, d9] }
  | _ => none }
def GateFallsWrongFalsely : Prop := gateFallsRow.holds Tryd.pinned (OpenSpec.ofChange gateFallsWrong)

/-- 'overfalllaw14.GateEnds': WHATEVER THE INPUT: true; the input reads as it did. -/
def gateEndsSpec : ChangeSpec := { name := "gateEnds", fn := fun _ => fun
  | [d1, d2, d3, d4, d5, d6] => { results := [.lit (.bool true)], args := [d1, d2, d3, d4, d5, d6] }
  | _ => none }
def gateEndsRow : OpenClaim := { program := "ytgocnliapkokbaadoor", sum := "bd4f59c247580647714996069b300df8593664e0b65f3723886ef0122884d73d", func := "overfall/overfalllaw14.GateEnds", spec := "gateEnds", named := ["overfall/gate.names"], apart := false, laid := [("overfall/gate.names", laid_overfall_gate_names)] }
def GateEndsSaid : Prop := gateEndsRow.holds Tryd.pinned (OpenSpec.ofChange gateEndsSpec)

/-- ITS FALSE NEIGHBOUR: 'it returns false'. Refute it at one input. -/
def gateEndsWrong : ChangeSpec := { name := "gateEnds", fn := fun _ => fun
  | [d1, d2, d3, d4, d5, d6] => { results := [.lit (.bool false)], args := [d1, d2, d3, d4, d5, d6] }
  | _ => none }
def GateEndsWrongFalsely : Prop := gateEndsRow.holds Tryd.pinned (OpenSpec.ofChange gateEndsWrong)

/-- 'overfalllaw14.GateNames': WHATEVER THE INPUT: true; the input reads as it did. -/
def gateNamesSpec : ChangeSpec := { name := "gateNames", fn := fun _ => fun
  | [d1, d2] => { results := [.lit (.bool true)], args := [d1, d2] }
  | _ => none }
def gateNamesRow : OpenClaim := { program := "ytgocnliapkokbaadoor", sum := "bd4f59c247580647714996069b300df8593664e0b65f3723886ef0122884d73d", func := "overfall/overfalllaw14.GateNames", spec := "gateNames", named := ["overfall/gate.names"], apart := false, laid := [("overfall/gate.names", laid_overfall_gate_names)] }
def GateNamesSaid : Prop := gateNamesRow.holds Tryd.pinned (OpenSpec.ofChange gateNamesSpec)

/-- ITS FALSE NEIGHBOUR: 'it returns false'. Refute it at one input. -/
def gateNamesWrong : ChangeSpec := { name := "gateNames", fn := fun _ => fun
  | [d1, d2] => { results := [.lit (.bool false)], args := [d1, d2] }
  | _ => none }
def GateNamesWrongFalsely : Prop := gateNamesRow.holds Tryd.pinned (OpenSpec.ofChange gateNamesWrong)

/-- 'overfalllaw14.GateHorizons': WHATEVER THE INPUT: true; the input reads as it did. -/
def gateHorizonsSpec : ChangeSpec := { name := "gateHorizons", fn := fun _ => fun
  | [d1, d2, d3, d4] => { results := [.lit (.bool true)], args := [d1, d2, d3, d4] }
  | _ => none }
def gateHorizonsRow : OpenClaim := { program := "ytgocnliapkokbaadoor", sum := "bd4f59c247580647714996069b300df8593664e0b65f3723886ef0122884d73d", func := "overfall/overfalllaw14.GateHorizons", spec := "gateHorizons", named := ["overfall/gate.names"], apart := false, laid := [("overfall/gate.names", laid_overfall_gate_names)] }
def GateHorizonsSaid : Prop := gateHorizonsRow.holds Tryd.pinned (OpenSpec.ofChange gateHorizonsSpec)

/-- ITS FALSE NEIGHBOUR: 'it returns false'. Refute it at one input. -/
def gateHorizonsWrong : ChangeSpec := { name := "gateHorizons", fn := fun _ => fun
  | [d1, d2, d3, d4] => { results := [.lit (.bool false)], args := [d1, d2, d3, d4] }
  | _ => none }
def GateHorizonsWrongFalsely : Prop := gateHorizonsRow.holds Tryd.pinned (OpenSpec.ofChange gateHorizonsWrong)

/- THE SECOND FORM. 'bulk': how many values and letters a reading holds, each counted each time it is reached (what is shared counts as often as it is met; a slice's spare places count too). A statement '..UptoSaid' is the law's where the arguments, and the package variables that the reading takes, are together of bulk at most 1048576: NARROWER than '..Said'. Prove '..Said' where nothing that the law and all that it calls make is longer than what came in: it says more and counts as full. Else prove '..UptoSaid'. A law counts once. -/
mutual
def uptoBulk {H : Type} : DataW H → Nat
  | .lit (.string bytes) => bytes.length + 1
  | .lit _ => 1
  | .nil => 1
  | .ptr d => uptoBulk d + 1
  | .slice elems spare => uptoBulkAll elems + uptoBulkAll spare + 1
  | .agg parts => uptoBulkAll parts + 1
  | .iface _ d => uptoBulk d + 1
  | .map entries => uptoBulkEntries entries + 1
  | .held _ => 1
def uptoBulkAll {H : Type} : List (DataW H) → Nat
  | [] => 0
  | d :: r => uptoBulk d + uptoBulkAll r
def uptoBulkEntries {H : Type} : List (Lit × DataW H) → Nat
  | [] => 0
  | x :: r => uptoBulkEntry x + uptoBulkEntries r
def uptoBulkEntry {H : Type} : Lit × DataW H → Nat
  | (.string bytes, d) => bytes.length + uptoBulk d + 1
  | (_, d) => uptoBulk d + 1
 end
def uptoSmall : (H : Type) → List (DataW H) → Bool := fun _ ds => decide (uptoBulkAll ds ≤ 1048576)
def OpenSpec.upto (s : _root_.Go.ChangeSpec) : _root_.Go.OpenSpec := { _root_.Go.OpenSpec.ofChange s with cond := some uptoSmall }

/-- 'overfalllaw14.GateJudges', WHERE WHAT IT READS IS OF BULK AT MOST 1048576: true; the input reads as it did. -/
def gateJudgesUptoRow : OpenClaim := { program := "ytgocnliapkokbaadoor", sum := "bd4f59c247580647714996069b300df8593664e0b65f3723886ef0122884d73d", func := "overfall/overfalllaw14.GateJudges", spec := "gateJudges", named := ["overfall/gate.names"], apart := false, laid := [("overfall/gate.names", laid_overfall_gate_names)], narrowed := true }
def GateJudgesUptoSaid : Prop := gateJudgesUptoRow.holds Tryd.pinned (OpenSpec.upto gateJudgesSpec)

/-- 'overfalllaw14.GateFalls', WHERE WHAT IT READS IS OF BULK AT MOST 1048576: true; the input reads as it did. -/
def gateFallsUptoRow : OpenClaim := { program := "ytgocnliapkokbaadoor", sum := "bd4f59c247580647714996069b300df8593664e0b65f3723886ef0122884d73d", func := "overfall/overfalllaw14.GateFalls", spec := "gateFalls", named := ["overfall/gate.names"], apart := false, laid := [("overfall/gate.names", laid_overfall_gate_names)], narrowed := true }
def GateFallsUptoSaid : Prop := gateFallsUptoRow.holds Tryd.pinned (OpenSpec.upto gateFallsSpec)

/-- 'overfalllaw14.GateEnds', WHERE WHAT IT READS IS OF BULK AT MOST 1048576: true; the input reads as it did. -/
def gateEndsUptoRow : OpenClaim := { program := "ytgocnliapkokbaadoor", sum := "bd4f59c247580647714996069b300df8593664e0b65f3723886ef0122884d73d", func := "overfall/overfalllaw14.GateEnds", spec := "gateEnds", named := ["overfall/gate.names"], apart := false, laid := [("overfall/gate.names", laid_overfall_gate_names)], narrowed := true }
def GateEndsUptoSaid : Prop := gateEndsUptoRow.holds Tryd.pinned (OpenSpec.upto gateEndsSpec)

/-- 'overfalllaw14.GateNames', WHERE WHAT IT READS IS OF BULK AT MOST 1048576: true; the input reads as it did. -/
def gateNamesUptoRow : OpenClaim := { program := "ytgocnliapkokbaadoor", sum := "bd4f59c247580647714996069b300df8593664e0b65f3723886ef0122884d73d", func := "overfall/overfalllaw14.GateNames", spec := "gateNames", named := ["overfall/gate.names"], apart := false, laid := [("overfall/gate.names", laid_overfall_gate_names)], narrowed := true }
def GateNamesUptoSaid : Prop := gateNamesUptoRow.holds Tryd.pinned (OpenSpec.upto gateNamesSpec)

/-- 'overfalllaw14.GateHorizons', WHERE WHAT IT READS IS OF BULK AT MOST 1048576: true; the input reads as it did. -/
def gateHorizonsUptoRow : OpenClaim := { program := "ytgocnliapkokbaadoor", sum := "bd4f59c247580647714996069b300df8593664e0b65f3723886ef0122884d73d", func := "overfall/overfalllaw14.GateHorizons", spec := "gateHorizons", named := ["overfall/gate.names"], apart := false, laid := [("overfall/gate.names", laid_overfall_gate_names)], narrowed := true }
def GateHorizonsUptoSaid : Prop := gateHorizonsUptoRow.holds Tryd.pinned (OpenSpec.upto gateHorizonsSpec)

end Rows
end Go.Proofs.YtgocnliapkokbaaDoor
