/- A loop over an iterator that keeps nothing of what is yielded. -/
import Derived.Test.YtidkemgibehpcaaTlq
namespace Go.Proofs.Ytidkemgibehpcaa
open Go.RowKit Go.Shelf
set_option linter.unusedVariables false
attribute [local go_sem] Oper.semAt_some
theorem wpIn_range_skip {α : Type} {F : Fence} {n : Nat} {P : Program} {g : Operand} {ps : Array Tmp} {body : Code} {Q : Exit → Act → World → Prop} {a : Act} {w : World}
    (hro : F.round = none) (h1 : 1 ≤ n) {gf : Nat} {lb : Array Value} (hg : a.eval g = .func (.func gf) #[] lb) (hFg : F.fn gf) (eg : ∀ args w, (callFunc gf args).run P w = .ok (.enter gf args) w)
    {encs : α → Array Value} {Kp : World → World → Prop} {S Sp : List α → Prop} {N : Nat} {w0 : World} (hseq : SeqStopsK F (n - 1) P gf lb encs Kp S Sp N w0)
    (hKt : ∀ {A B C : World}, Kp A B → Kp B C → Kp A C) (hKb : ∀ (W : World) (l : Nat) (o o' : Obj), w.heap.size ≤ l → W.heap[l]? = some o → o.isCells = false → o.isWalk = false → Kp W (W.putObj l o')) (hb0 : Below w0.heap.size w0 w) (hps : ∀ x, (encs x).size = ps.size)
    (I : List α → World → Prop) (Ix : Code → List α → World → Prop) (hI : OwnFrom w.heap.size I) (hIx : ∀ c, OwnFrom w.heap.size (Ix c)) (h0 : I [] w)
    (hbody : ∀ (l : Nat) (pre : List α) (x : α) (W : World), w.heap.size ≤ l → I pre W → pre.length < N → body.wpIn (F.inRound l) (n - 1 - 1) P (ownPostG w.heap.size Kp I Ix (pre ++ [x]) W) { tmps := (ps.zip (encs x)).foldl (fun t (p, v) => t.setIfInBounds p v) a.tmps, defers := [] } W)
    (hdone : ∀ (D : Nat) (xs : List α) (W : World), w.heap.size ≤ D → S xs → I xs W → W.heap[D]? = some (.deferred (some [])) → Q .normal { a with defers := { target := .collected D, args := #[] } :: a.defers } W)
    (hstop : ∀ (D : Nat) (c : Code) (pre : List α) (W : World), w.heap.size ≤ D → Sp pre → Ix c pre W → W.heap[D]? = some (.deferred (some [])) → c.wpIn F n P Q { a with defers := { target := .collected D, args := #[] } :: a.defers } W)
    (hKr : ∀ W, Kp W W) :
    (Code.rangeFunc g ps .skip body).wpIn F n P Q a w :=
  wpIn_rangeFunc_ownH hro h1 hg hFg eg hseq (fun h k => hKt h k) hKb hb0 hps I Ix hI hIx h0 (fun x a' _ => a' = { tmps := (ps.zip (encs x)).foldl (fun t (p, v) => t.setIfInBounds p v) a.tmps, defers := [] }) (fun _ _ _ _ _ _ hs _ _ => hs)
    (fun l pre x W K hi hK => wpIn_skip (hK _ _ (KeepsFrom.refl _ _) (hKr W) hi rfl)) (fun l pre x a' W hl _ hi e hlt => by subst e; exact hbody l pre x W hl hi hlt) hdone hstop
/-- What the last part of the law leans on. -/
structure Ap (w : World) (b0 b1 : Nat) (W : World) (p : Nat) (r : Option Nat) (Af : Option Addr) (cf : Nat) (L : List Oc) (pc : Nat) (rc : Option Nat) (L2 : List Oc) (bm : Nat) (mt : Int) (b5 : Nat) (stop : Int) (b6 : Nat) : Prop where
  fil : Fil w b0 W p r Af cf L L.length
  cpy : LogAt b1 W pc rc L2
  met : Boxed W bm 3 (.int .i64 mt)
  five : Boxed W b5 5 (.int .u8 stop)
  six : Boxed W b6 4 (.bool false)
theorem Ap.below {w : World} {b0 b1 : Nat} {W W' : World} {p : Nat} {r : Option Nat} {Af : Option Addr} {cf : Nat} {L : List Oc} {pc : Nat} {rc : Option Nat} {L2 : List Oc} {bm : Nat} {mt : Int} {b5 : Nat} {stop : Int} {b6 : Nat} (h : Ap w b0 b1 W p r Af cf L pc rc L2 bm mt b5 stop b6) (hb : Below W.heap.size W W') : Ap w b0 b1 W' p r Af cf L pc rc L2 bm mt b5 stop b6 :=
  ⟨h.fil.below hb, h.cpy.below hb, bxb h.met hb, bxb h.five hb, bxb h.six hb⟩
theorem obj_below {W W' : World} {g : Nat} {o : Obj} (h : W.heap[g]? = some o) (hb : Below W.heap.size W W') : W'.heap[g]? = some o := (hb.block g (Array.getElem?_eq_some_iff.1 h).1).trans h
theorem obj_lt {W : World} {g : Nat} {o : Obj} (h : W.heap[g]? = some o) : g < W.heap.size := (Array.getElem?_eq_some_iff.1 h).1
end Go.Proofs.Ytidkemgibehpcaa
