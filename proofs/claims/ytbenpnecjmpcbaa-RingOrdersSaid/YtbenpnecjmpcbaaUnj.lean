/- A region that draws its order with calls that write what no other operation reads: one order. No program. -/
import Derived.Test.YtbenpnecjmpcbaaUni
namespace Go.Proofs.Ytbenpnecjmpcbaa
open Go Go.RowKit
set_option linter.unusedVariables false
section
variable {P : Program} {ops : Array Oper} {Q : Exit → Act → World → Prop} {md : Region.Mode} {S : World → Prop} {fs bs : List Nat}
/-- A call that comes when nothing else is there: it keeps S, and what is known besides is D' then. -/
theorem anyU_call {i f : Nat} {o : Oper} {l : Array Bool} {a : Act} {D : World → Prop} (g : FuncId) (args : Array Value) (v : Value) (D' : World → Prop) (hr : Region.ready md ops l = [i]) (hb : fs.contains i = true)
    (hi : ops[i]? = some o) (hw : Region.wanted o (yielded ops a.tmps) = true) (hrun : ∀ w, S w → D w → (execOp a.eval o).run P w = .ok (.enter g args) w)
    (hc : ∀ w, S w → D w → Calls P g args w fun e w' => e = .returned v ∧ S w' ∧ D' w') (hst : Still D') (hl : Shut md ops l)
    (h : Shut md ops (l.setIfInBounds i true) → anyU P md ops Q S fs bs f (l.setIfInBounds i true) (a.put o.dst v) D') : anyU P md ops Q S fs bs (f + 1) l a D :=
  anyU_make hr hb fun w hS hD => by
    unfold Go.wpOp
    simp only [hi, hw, if_true]
    refine .inl ?_
    unfold Oper.wp
    rw [hrun w hS hD]
    refine Calls.mono (hc w hS hD) fun e w' he => ?_
    obtain ⟨rfl, h1, h2⟩ := he
    exact ⟨h1, D', hst, h2, h (hl.step (by rw [hr]; exact List.mem_singleton.2 rfl))⟩
/-- Only one that S decides is there to come up: it comes up, and what was shut stays so. -/
theorem anyU_oneS {i f : Nat} {oi : Oper} {v : Value} {l : Array Bool} {a : Act} {D : World → Prop} (hr : Region.ready md ops l = [i]) (hi : ops[i]? = some oi) (hy : YieldsS P ops S oi v a) (hl : Shut md ops l)
    (h : Shut md ops (l.setIfInBounds i true) → anyU P md ops Q S fs bs f (l.setIfInBounds i true) (a.put oi.dst v) D) : anyU P md ops Q S fs bs (f + 1) l a D :=
  anyU_one hr hi hy (h (hl.step (by rw [hr]; exact List.mem_singleton.2 rfl)))
/-- From a fact on, besides S. -/
theorem wp_region_UD (S D : World → Prop) (fs bs : List Nat) {id : Nat} {a : Act} {w : World} (hm : P.follows .mixedOrders = true) (hS : S w.drew) (hD : D w.drew) (hst : Still D)
    (h : Shut .any ops (Array.replicate ops.size false) → anyU P .any ops Q S fs bs ops.size (Array.replicate ops.size false) a D) : (Code.region id ops true).wp P Q a w :=
  wp_region_any hm (any_of_U _ _ _ _ (h (Shut.none _ rfl)) hst _ hS hD)
end
end Go.Proofs.Ytbenpnecjmpcbaa
