/- A call inside a region, met before the walk's simp has gone through the region's text. No program. -/
import Derived.Calls
import Derived.WalkKit
namespace Go.Proofs.Ytocgflhecnkcfaa
/-- A call that enters a function: what the function's contract says is what follows. -/
theorem wp_enter {P : Program} {o : Oper} {a : Act} {next : Act → World → Prop} {Q : Exit → Act → World → Prop} {w : World} {f : FuncId} {args : Array Value}
    (h : (execOp a.eval o).run P w = .ok (.enter f args) w)
    (k : Calls P f args w fun e w1 => ∃ v, e = .returned v ∧ next (a.put o.dst v) w1) : o.wp P a w next Q := by
  unfold Oper.wp
  rw [h, Oper.upon_enter]
  refine k.mono ?_
  rintro e w1 ⟨v, rfl, hn⟩
  exact hn
end Go.Proofs.Ytocgflhecnkcfaa
