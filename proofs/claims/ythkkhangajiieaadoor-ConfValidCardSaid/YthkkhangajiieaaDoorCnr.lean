/- ConfValid: what holds while three calls and three variables come up in any order. -/
import Derived.Test.YthkkhangajiieaaDoorCnt
import Derived.Test.YthkkhangajiieaaDoorAny
namespace Go.Proofs.YthkkhangajiieaaDoor
open Go.ChangeShapes Go.WideShapes Go.ChangeAt Go.RowKit Kn
set_option linter.unusedVariables false
set_option linter.unusedSimpArgs false
section
variable {P : Program} {ops : Array Oper} {Q : Exit → Act → World → Prop} {md : Region.Mode} {S : World → Prop} {bs : List Nat}
/-- A region that draws its order, by states: each state is left by whatever may come up, for another one; or is done by other means. -/
theorem anyB_states (T : Nat → Array Bool → Act → World → Prop) (hstep : ∀ f l a w, T f l a w → (Shut md ops l → anyB P md ops Q S bs f l a w) ∨ ∃ f', f = f' + 1 ∧ Region.ready md ops l ≠ [] ∧ ∀ i ∈ Region.ready md ops l, wpOp P ops Q i (fun a' w' => (ahead bs (l.setIfInBounds i true) = true → S w') ∧ T f' (l.setIfInBounds i true) a' w') a w) :
    ∀ (f : Nat) (l : Array Bool) (a : Act) (w : World), Shut md ops l → T f l a w → anyB P md ops Q S bs f l a w := by
  intro f
  induction f with
  | zero =>
    intro l a w hl h
    rcases hstep 0 l a w h with c | ⟨f', e, _⟩
    · exact c hl
    · omega
  | succ f ih =>
    intro l a w hl h
    rcases hstep (f + 1) l a w h with c | ⟨f', e, hne, hr⟩
    · exact c hl
    · obtain rfl : f' = f := by omega
      exact ⟨fun h0 => absurd h0 hne, fun i hi => wpOp_mono (fun a' w' h' => ⟨h'.1, ih _ a' w' (hl.step hi) h'.2⟩) (hr i hi)⟩
theorem out_each {T : Nat → Array Bool → Act → World → Prop} {f f' : Nat} {l : Array Bool} {a : Act} {w : World} {rs : List Nat} (hf : f = f' + 1) (hr : Region.ready md ops l = rs) (hne : rs ≠ []) (h : ∀ i ∈ rs, wpOp P ops Q i (fun a' w' => (ahead bs (l.setIfInBounds i true) = true → S w') ∧ T f' (l.setIfInBounds i true) a' w') a w) :
    (Shut md ops l → anyB P md ops Q S bs f l a w) ∨ ∃ f', f = f' + 1 ∧ Region.ready md ops l ≠ [] ∧ ∀ i ∈ Region.ready md ops l, wpOp P ops Q i (fun a' w' => (ahead bs (l.setIfInBounds i true) = true → S w') ∧ T f' (l.setIfInBounds i true) a' w') a w :=
  .inr ⟨f', hf, by rw [hr]; exact hne, by rw [hr]; exact h⟩
end
/-- The operations of a function's region. -/
def findReg (n : Nat) : Code → Option (Array Oper)
  | .region i ops _ => if i = n then some ops else none
  | .seq a b => match findReg n a with
    | some c => some c
    | none => findReg n b
  | .cond _ a b => match findReg n a with
    | some c => some c
    | none => findReg n b
  | .scope c => findReg n c
  | .block _ c => findReg n c
  | .loop c => findReg n c
  | _ => none
/-- The config's box. -/
abbrev CfBox (w : World) (b : Nat) (c : Cf) : Prop := Blk w b 24 (cfL c).toArray
/-- The config's box and its row. -/
structure V5 (w0 : World) (g : Nat) (c : Cf) (w : World) : Prop where
  bx : CfBox w w0.heap.size c
  rw : Row16 w g c
  be : Below w0.heap.size w0 w
theorem V5.alloc_ {w0 w : World} {g : Nat} {c : Cf} (h : V5 w0 g c w) (o : Obj) : V5 w0 g c (w.alloc o) := ⟨h.bx.alloc_ o, h.rw.alloc_ o, h.be.alloc h.be.size o⟩
theorem V5.below {w0 w w' : World} {g : Nat} {c : Cf} (h : V5 w0 g c w) (hb : Below w.heap.size w w') : V5 w0 g c w' := ⟨h.bx.below_ hb h.bx.size, h.rw.below_ hb h.rw.size, h.be.trans (hb.mono h.be.size)⟩
inductive St8 (y0 y1 y2 y3 y4 y8 y9 y10 y11 y12 y13 y14 y16 y18 : Value) (w0 : World) (g : Nat) (c : Cf) : Nat → Array Bool → Act → World → Prop
  | s0000 (f : Nat) (l : Array Bool) (w : World) (hf : f = 9) (hl : l = #[true, false, true, false, true, false, false, false, false, false, false, false]) (hd : V5 w0 g c w) : St8 y0 y1 y2 y3 y4 y8 y9 y10 y11 y12 y13 y14 y16 y18 w0 g c f l ⟨#[y0, y1, y2, y3, y4, undef, undef, undef, y8, y9, y10, y11, y12, y13, y14, undef, y16, undef, y18, undef, undef, undef, undef, undef, undef, undef, undef, undef, undef, undef, undef, undef, undef, undef, undef, undef, undef, undef, undef, undef, undef, undef, undef, undef, undef, undef, undef, undef, undef, undef, undef, undef, undef, undef, undef, undef, undef, undef, undef, undef, undef, undef, undef, undef, undef, undef, undef, undef, undef, undef, undef, undef, undef, undef, undef, undef, undef, undef, undef, undef, undef, undef, undef, undef, undef, undef, undef, undef, undef, undef, undef, undef, undef, undef, undef, undef, undef, undef, undef, undef, undef, undef, undef, undef, undef, undef, undef, undef, undef, undef, undef, undef, undef, undef, undef, undef, undef, undef, undef, undef, undef, undef, undef, undef, undef, undef, undef, undef, undef, undef, undef, undef, undef, undef, undef, undef, undef, undef, undef, undef, undef, undef, undef, undef, undef, undef], []⟩ w
  | s0001 (f : Nat) (l : Array Bool) (w : World) (hf : f = 8) (hl : l = #[true, false, true, false, true, false, false, false, true, false, false, false]) (g3 : Nat) (hd : V5 w0 g c w) (b3 : Blk w g3 37 #[.int .i64 0, .int .i64 0, .int .i64 0, .int .i64 0, .int .i64 0, .int .i64 0, .int .i64 0]) (l3 : w0.heap.size ≤ g3) : St8 y0 y1 y2 y3 y4 y8 y9 y10 y11 y12 y13 y14 y16 y18 w0 g c f l ⟨#[y0, y1, y2, y3, y4, undef, undef, .pointer (some ⟨g3, 0, none⟩), y8, y9, y10, y11, y12, y13, y14, undef, y16, undef, y18, undef, undef, undef, undef, undef, undef, undef, undef, undef, undef, undef, undef, undef, undef, undef, undef, undef, undef, undef, undef, undef, undef, undef, undef, undef, undef, undef, undef, undef, undef, undef, undef, undef, undef, undef, undef, undef, undef, undef, undef, undef, undef, undef, undef, undef, undef, undef, undef, undef, undef, undef, undef, undef, undef, undef, undef, undef, undef, undef, undef, undef, undef, undef, undef, undef, undef, undef, undef, undef, undef, undef, undef, undef, undef, undef, undef, undef, undef, undef, undef, undef, undef, undef, undef, undef, undef, undef, undef, undef, undef, undef, undef, undef, undef, undef, undef, undef, undef, undef, undef, undef, undef, undef, undef, undef, undef, undef, undef, undef, undef, undef, undef, undef, undef, undef, undef, undef, undef, undef, undef, undef, undef, undef, undef, undef, undef, undef], []⟩ w
  | s0010 (f : Nat) (l : Array Bool) (w : World) (hf : f = 8) (hl : l = #[true, false, true, false, true, false, false, true, false, false, false, false]) (g2 : Nat) (hd : V5 w0 g c w) (b2 : Blk w g2 34 #[.int .i64 0, .int .i64 0, .int .i64 0]) (l2 : w0.heap.size ≤ g2) : St8 y0 y1 y2 y3 y4 y8 y9 y10 y11 y12 y13 y14 y16 y18 w0 g c f l ⟨#[y0, y1, y2, y3, y4, undef, .pointer (some ⟨g2, 0, none⟩), undef, y8, y9, y10, y11, y12, y13, y14, undef, y16, undef, y18, undef, undef, undef, undef, undef, undef, undef, undef, undef, undef, undef, undef, undef, undef, undef, undef, undef, undef, undef, undef, undef, undef, undef, undef, undef, undef, undef, undef, undef, undef, undef, undef, undef, undef, undef, undef, undef, undef, undef, undef, undef, undef, undef, undef, undef, undef, undef, undef, undef, undef, undef, undef, undef, undef, undef, undef, undef, undef, undef, undef, undef, undef, undef, undef, undef, undef, undef, undef, undef, undef, undef, undef, undef, undef, undef, undef, undef, undef, undef, undef, undef, undef, undef, undef, undef, undef, undef, undef, undef, undef, undef, undef, undef, undef, undef, undef, undef, undef, undef, undef, undef, undef, undef, undef, undef, undef, undef, undef, undef, undef, undef, undef, undef, undef, undef, undef, undef, undef, undef, undef, undef, undef, undef, undef, undef, undef, undef], []⟩ w
  | s0011 (f : Nat) (l : Array Bool) (w : World) (hf : f = 7) (hl : l = #[true, false, true, false, true, false, false, true, true, false, false, false]) (g2 : Nat) (g3 : Nat) (hd : V5 w0 g c w) (b2 : Blk w g2 34 #[.int .i64 0, .int .i64 0, .int .i64 0]) (l2 : w0.heap.size ≤ g2) (b3 : Blk w g3 37 #[.int .i64 0, .int .i64 0, .int .i64 0, .int .i64 0, .int .i64 0, .int .i64 0, .int .i64 0]) (l3 : w0.heap.size ≤ g3) : St8 y0 y1 y2 y3 y4 y8 y9 y10 y11 y12 y13 y14 y16 y18 w0 g c f l ⟨#[y0, y1, y2, y3, y4, undef, .pointer (some ⟨g2, 0, none⟩), .pointer (some ⟨g3, 0, none⟩), y8, y9, y10, y11, y12, y13, y14, undef, y16, undef, y18, undef, undef, undef, undef, undef, undef, undef, undef, undef, undef, undef, undef, undef, undef, undef, undef, undef, undef, undef, undef, undef, undef, undef, undef, undef, undef, undef, undef, undef, undef, undef, undef, undef, undef, undef, undef, undef, undef, undef, undef, undef, undef, undef, undef, undef, undef, undef, undef, undef, undef, undef, undef, undef, undef, undef, undef, undef, undef, undef, undef, undef, undef, undef, undef, undef, undef, undef, undef, undef, undef, undef, undef, undef, undef, undef, undef, undef, undef, undef, undef, undef, undef, undef, undef, undef, undef, undef, undef, undef, undef, undef, undef, undef, undef, undef, undef, undef, undef, undef, undef, undef, undef, undef, undef, undef, undef, undef, undef, undef, undef, undef, undef, undef, undef, undef, undef, undef, undef, undef, undef, undef, undef, undef, undef, undef, undef, undef], []⟩ w
  | s0100 (f : Nat) (l : Array Bool) (w : World) (hf : f = 8) (hl : l = #[true, false, true, false, true, false, true, false, false, false, false, false]) (g1 : Nat) (hd : V5 w0 g c w) (b1 : Blk w g1 31 #[.int .i64 0, .int .i64 0]) (l1 : w0.heap.size ≤ g1) : St8 y0 y1 y2 y3 y4 y8 y9 y10 y11 y12 y13 y14 y16 y18 w0 g c f l ⟨#[y0, y1, y2, y3, y4, .pointer (some ⟨g1, 0, none⟩), undef, undef, y8, y9, y10, y11, y12, y13, y14, undef, y16, undef, y18, undef, undef, undef, undef, undef, undef, undef, undef, undef, undef, undef, undef, undef, undef, undef, undef, undef, undef, undef, undef, undef, undef, undef, undef, undef, undef, undef, undef, undef, undef, undef, undef, undef, undef, undef, undef, undef, undef, undef, undef, undef, undef, undef, undef, undef, undef, undef, undef, undef, undef, undef, undef, undef, undef, undef, undef, undef, undef, undef, undef, undef, undef, undef, undef, undef, undef, undef, undef, undef, undef, undef, undef, undef, undef, undef, undef, undef, undef, undef, undef, undef, undef, undef, undef, undef, undef, undef, undef, undef, undef, undef, undef, undef, undef, undef, undef, undef, undef, undef, undef, undef, undef, undef, undef, undef, undef, undef, undef, undef, undef, undef, undef, undef, undef, undef, undef, undef, undef, undef, undef, undef, undef, undef, undef, undef, undef, undef], []⟩ w
  | s0101 (f : Nat) (l : Array Bool) (w : World) (hf : f = 7) (hl : l = #[true, false, true, false, true, false, true, false, true, false, false, false]) (g1 : Nat) (g3 : Nat) (hd : V5 w0 g c w) (b1 : Blk w g1 31 #[.int .i64 0, .int .i64 0]) (l1 : w0.heap.size ≤ g1) (b3 : Blk w g3 37 #[.int .i64 0, .int .i64 0, .int .i64 0, .int .i64 0, .int .i64 0, .int .i64 0, .int .i64 0]) (l3 : w0.heap.size ≤ g3) : St8 y0 y1 y2 y3 y4 y8 y9 y10 y11 y12 y13 y14 y16 y18 w0 g c f l ⟨#[y0, y1, y2, y3, y4, .pointer (some ⟨g1, 0, none⟩), undef, .pointer (some ⟨g3, 0, none⟩), y8, y9, y10, y11, y12, y13, y14, undef, y16, undef, y18, undef, undef, undef, undef, undef, undef, undef, undef, undef, undef, undef, undef, undef, undef, undef, undef, undef, undef, undef, undef, undef, undef, undef, undef, undef, undef, undef, undef, undef, undef, undef, undef, undef, undef, undef, undef, undef, undef, undef, undef, undef, undef, undef, undef, undef, undef, undef, undef, undef, undef, undef, undef, undef, undef, undef, undef, undef, undef, undef, undef, undef, undef, undef, undef, undef, undef, undef, undef, undef, undef, undef, undef, undef, undef, undef, undef, undef, undef, undef, undef, undef, undef, undef, undef, undef, undef, undef, undef, undef, undef, undef, undef, undef, undef, undef, undef, undef, undef, undef, undef, undef, undef, undef, undef, undef, undef, undef, undef, undef, undef, undef, undef, undef, undef, undef, undef, undef, undef, undef, undef, undef, undef, undef, undef, undef, undef, undef], []⟩ w
  | s0110 (f : Nat) (l : Array Bool) (w : World) (hf : f = 7) (hl : l = #[true, false, true, false, true, false, true, true, false, false, false, false]) (g1 : Nat) (g2 : Nat) (hd : V5 w0 g c w) (b1 : Blk w g1 31 #[.int .i64 0, .int .i64 0]) (l1 : w0.heap.size ≤ g1) (b2 : Blk w g2 34 #[.int .i64 0, .int .i64 0, .int .i64 0]) (l2 : w0.heap.size ≤ g2) : St8 y0 y1 y2 y3 y4 y8 y9 y10 y11 y12 y13 y14 y16 y18 w0 g c f l ⟨#[y0, y1, y2, y3, y4, .pointer (some ⟨g1, 0, none⟩), .pointer (some ⟨g2, 0, none⟩), undef, y8, y9, y10, y11, y12, y13, y14, undef, y16, undef, y18, undef, undef, undef, undef, undef, undef, undef, undef, undef, undef, undef, undef, undef, undef, undef, undef, undef, undef, undef, undef, undef, undef, undef, undef, undef, undef, undef, undef, undef, undef, undef, undef, undef, undef, undef, undef, undef, undef, undef, undef, undef, undef, undef, undef, undef, undef, undef, undef, undef, undef, undef, undef, undef, undef, undef, undef, undef, undef, undef, undef, undef, undef, undef, undef, undef, undef, undef, undef, undef, undef, undef, undef, undef, undef, undef, undef, undef, undef, undef, undef, undef, undef, undef, undef, undef, undef, undef, undef, undef, undef, undef, undef, undef, undef, undef, undef, undef, undef, undef, undef, undef, undef, undef, undef, undef, undef, undef, undef, undef, undef, undef, undef, undef, undef, undef, undef, undef, undef, undef, undef, undef, undef, undef, undef, undef, undef, undef], []⟩ w
  | s0111 (f : Nat) (l : Array Bool) (w : World) (hf : f = 6) (hl : l = #[true, false, true, false, true, false, true, true, true, false, false, false]) (g1 : Nat) (g2 : Nat) (g3 : Nat) (hd : V5 w0 g c w) (b1 : Blk w g1 31 #[.int .i64 0, .int .i64 0]) (l1 : w0.heap.size ≤ g1) (b2 : Blk w g2 34 #[.int .i64 0, .int .i64 0, .int .i64 0]) (l2 : w0.heap.size ≤ g2) (b3 : Blk w g3 37 #[.int .i64 0, .int .i64 0, .int .i64 0, .int .i64 0, .int .i64 0, .int .i64 0, .int .i64 0]) (l3 : w0.heap.size ≤ g3) : St8 y0 y1 y2 y3 y4 y8 y9 y10 y11 y12 y13 y14 y16 y18 w0 g c f l ⟨#[y0, y1, y2, y3, y4, .pointer (some ⟨g1, 0, none⟩), .pointer (some ⟨g2, 0, none⟩), .pointer (some ⟨g3, 0, none⟩), y8, y9, y10, y11, y12, y13, y14, undef, y16, undef, y18, undef, undef, undef, undef, undef, undef, undef, undef, undef, undef, undef, undef, undef, undef, undef, undef, undef, undef, undef, undef, undef, undef, undef, undef, undef, undef, undef, undef, undef, undef, undef, undef, undef, undef, undef, undef, undef, undef, undef, undef, undef, undef, undef, undef, undef, undef, undef, undef, undef, undef, undef, undef, undef, undef, undef, undef, undef, undef, undef, undef, undef, undef, undef, undef, undef, undef, undef, undef, undef, undef, undef, undef, undef, undef, undef, undef, undef, undef, undef, undef, undef, undef, undef, undef, undef, undef, undef, undef, undef, undef, undef, undef, undef, undef, undef, undef, undef, undef, undef, undef, undef, undef, undef, undef, undef, undef, undef, undef, undef, undef, undef, undef, undef, undef, undef, undef, undef, undef, undef, undef, undef, undef, undef, undef, undef, undef, undef], []⟩ w
  | s1000 (f : Nat) (l : Array Bool) (w : World) (hf : f = 8) (hl : l = #[true, true, true, false, true, false, false, false, false, false, false, false]) (hd : V5 w0 g c w) : St8 y0 y1 y2 y3 y4 y8 y9 y10 y11 y12 y13 y14 y16 y18 w0 g c f l ⟨#[y0, y1, y2, y3, y4, undef, undef, undef, y8, y9, y10, y11, y12, y13, y14, .agg #[.int .i64 c.ta, .int .i64 c.iv], y16, undef, y18, undef, undef, undef, undef, undef, undef, undef, undef, undef, undef, undef, undef, undef, undef, undef, undef, undef, undef, undef, undef, undef, undef, undef, undef, undef, undef, undef, undef, undef, undef, undef, undef, undef, undef, undef, undef, undef, undef, undef, undef, undef, undef, undef, undef, undef, undef, undef, undef, undef, undef, undef, undef, undef, undef, undef, undef, undef, undef, undef, undef, undef, undef, undef, undef, undef, undef, undef, undef, undef, undef, undef, undef, undef, undef, undef, undef, undef, undef, undef, undef, undef, undef, undef, undef, undef, undef, undef, undef, undef, undef, undef, undef, undef, undef, undef, undef, undef, undef, undef, undef, undef, undef, undef, undef, undef, undef, undef, undef, undef, undef, undef, undef, undef, undef, undef, undef, undef, undef, undef, undef, undef, undef, undef, undef, undef, undef, undef], []⟩ w
  | s1001 (f : Nat) (l : Array Bool) (w : World) (hf : f = 7) (hl : l = #[true, true, true, false, true, false, false, false, true, false, false, false]) (g3 : Nat) (hd : V5 w0 g c w) (b3 : Blk w g3 37 #[.int .i64 0, .int .i64 0, .int .i64 0, .int .i64 0, .int .i64 0, .int .i64 0, .int .i64 0]) (l3 : w0.heap.size ≤ g3) : St8 y0 y1 y2 y3 y4 y8 y9 y10 y11 y12 y13 y14 y16 y18 w0 g c f l ⟨#[y0, y1, y2, y3, y4, undef, undef, .pointer (some ⟨g3, 0, none⟩), y8, y9, y10, y11, y12, y13, y14, .agg #[.int .i64 c.ta, .int .i64 c.iv], y16, undef, y18, undef, undef, undef, undef, undef, undef, undef, undef, undef, undef, undef, undef, undef, undef, undef, undef, undef, undef, undef, undef, undef, undef, undef, undef, undef, undef, undef, undef, undef, undef, undef, undef, undef, undef, undef, undef, undef, undef, undef, undef, undef, undef, undef, undef, undef, undef, undef, undef, undef, undef, undef, undef, undef, undef, undef, undef, undef, undef, undef, undef, undef, undef, undef, undef, undef, undef, undef, undef, undef, undef, undef, undef, undef, undef, undef, undef, undef, undef, undef, undef, undef, undef, undef, undef, undef, undef, undef, undef, undef, undef, undef, undef, undef, undef, undef, undef, undef, undef, undef, undef, undef, undef, undef, undef, undef, undef, undef, undef, undef, undef, undef, undef, undef, undef, undef, undef, undef, undef, undef, undef, undef, undef, undef, undef, undef, undef, undef], []⟩ w
  | s1010 (f : Nat) (l : Array Bool) (w : World) (hf : f = 7) (hl : l = #[true, true, true, false, true, false, false, true, false, false, false, false]) (g2 : Nat) (hd : V5 w0 g c w) (b2 : Blk w g2 34 #[.int .i64 0, .int .i64 0, .int .i64 0]) (l2 : w0.heap.size ≤ g2) : St8 y0 y1 y2 y3 y4 y8 y9 y10 y11 y12 y13 y14 y16 y18 w0 g c f l ⟨#[y0, y1, y2, y3, y4, undef, .pointer (some ⟨g2, 0, none⟩), undef, y8, y9, y10, y11, y12, y13, y14, .agg #[.int .i64 c.ta, .int .i64 c.iv], y16, undef, y18, undef, undef, undef, undef, undef, undef, undef, undef, undef, undef, undef, undef, undef, undef, undef, undef, undef, undef, undef, undef, undef, undef, undef, undef, undef, undef, undef, undef, undef, undef, undef, undef, undef, undef, undef, undef, undef, undef, undef, undef, undef, undef, undef, undef, undef, undef, undef, undef, undef, undef, undef, undef, undef, undef, undef, undef, undef, undef, undef, undef, undef, undef, undef, undef, undef, undef, undef, undef, undef, undef, undef, undef, undef, undef, undef, undef, undef, undef, undef, undef, undef, undef, undef, undef, undef, undef, undef, undef, undef, undef, undef, undef, undef, undef, undef, undef, undef, undef, undef, undef, undef, undef, undef, undef, undef, undef, undef, undef, undef, undef, undef, undef, undef, undef, undef, undef, undef, undef, undef, undef, undef, undef, undef, undef, undef, undef, undef], []⟩ w
  | s1011 (f : Nat) (l : Array Bool) (w : World) (hf : f = 6) (hl : l = #[true, true, true, false, true, false, false, true, true, false, false, false]) (g2 : Nat) (g3 : Nat) (hd : V5 w0 g c w) (b2 : Blk w g2 34 #[.int .i64 0, .int .i64 0, .int .i64 0]) (l2 : w0.heap.size ≤ g2) (b3 : Blk w g3 37 #[.int .i64 0, .int .i64 0, .int .i64 0, .int .i64 0, .int .i64 0, .int .i64 0, .int .i64 0]) (l3 : w0.heap.size ≤ g3) : St8 y0 y1 y2 y3 y4 y8 y9 y10 y11 y12 y13 y14 y16 y18 w0 g c f l ⟨#[y0, y1, y2, y3, y4, undef, .pointer (some ⟨g2, 0, none⟩), .pointer (some ⟨g3, 0, none⟩), y8, y9, y10, y11, y12, y13, y14, .agg #[.int .i64 c.ta, .int .i64 c.iv], y16, undef, y18, undef, undef, undef, undef, undef, undef, undef, undef, undef, undef, undef, undef, undef, undef, undef, undef, undef, undef, undef, undef, undef, undef, undef, undef, undef, undef, undef, undef, undef, undef, undef, undef, undef, undef, undef, undef, undef, undef, undef, undef, undef, undef, undef, undef, undef, undef, undef, undef, undef, undef, undef, undef, undef, undef, undef, undef, undef, undef, undef, undef, undef, undef, undef, undef, undef, undef, undef, undef, undef, undef, undef, undef, undef, undef, undef, undef, undef, undef, undef, undef, undef, undef, undef, undef, undef, undef, undef, undef, undef, undef, undef, undef, undef, undef, undef, undef, undef, undef, undef, undef, undef, undef, undef, undef, undef, undef, undef, undef, undef, undef, undef, undef, undef, undef, undef, undef, undef, undef, undef, undef, undef, undef, undef, undef, undef, undef, undef], []⟩ w
  | s1100 (f : Nat) (l : Array Bool) (w : World) (hf : f = 7) (hl : l = #[true, true, true, false, true, false, true, false, false, false, false, false]) (g1 : Nat) (hd : V5 w0 g c w) (b1 : Blk w g1 31 #[.int .i64 0, .int .i64 0]) (l1 : w0.heap.size ≤ g1) : St8 y0 y1 y2 y3 y4 y8 y9 y10 y11 y12 y13 y14 y16 y18 w0 g c f l ⟨#[y0, y1, y2, y3, y4, .pointer (some ⟨g1, 0, none⟩), undef, undef, y8, y9, y10, y11, y12, y13, y14, .agg #[.int .i64 c.ta, .int .i64 c.iv], y16, undef, y18, undef, undef, undef, undef, undef, undef, undef, undef, undef, undef, undef, undef, undef, undef, undef, undef, undef, undef, undef, undef, undef, undef, undef, undef, undef, undef, undef, undef, undef, undef, undef, undef, undef, undef, undef, undef, undef, undef, undef, undef, undef, undef, undef, undef, undef, undef, undef, undef, undef, undef, undef, undef, undef, undef, undef, undef, undef, undef, undef, undef, undef, undef, undef, undef, undef, undef, undef, undef, undef, undef, undef, undef, undef, undef, undef, undef, undef, undef, undef, undef, undef, undef, undef, undef, undef, undef, undef, undef, undef, undef, undef, undef, undef, undef, undef, undef, undef, undef, undef, undef, undef, undef, undef, undef, undef, undef, undef, undef, undef, undef, undef, undef, undef, undef, undef, undef, undef, undef, undef, undef, undef, undef, undef, undef, undef, undef, undef], []⟩ w
  | s1101 (f : Nat) (l : Array Bool) (w : World) (hf : f = 6) (hl : l = #[true, true, true, false, true, false, true, false, true, false, false, false]) (g1 : Nat) (g3 : Nat) (hd : V5 w0 g c w) (b1 : Blk w g1 31 #[.int .i64 0, .int .i64 0]) (l1 : w0.heap.size ≤ g1) (b3 : Blk w g3 37 #[.int .i64 0, .int .i64 0, .int .i64 0, .int .i64 0, .int .i64 0, .int .i64 0, .int .i64 0]) (l3 : w0.heap.size ≤ g3) : St8 y0 y1 y2 y3 y4 y8 y9 y10 y11 y12 y13 y14 y16 y18 w0 g c f l ⟨#[y0, y1, y2, y3, y4, .pointer (some ⟨g1, 0, none⟩), undef, .pointer (some ⟨g3, 0, none⟩), y8, y9, y10, y11, y12, y13, y14, .agg #[.int .i64 c.ta, .int .i64 c.iv], y16, undef, y18, undef, undef, undef, undef, undef, undef, undef, undef, undef, undef, undef, undef, undef, undef, undef, undef, undef, undef, undef, undef, undef, undef, undef, undef, undef, undef, undef, undef, undef, undef, undef, undef, undef, undef, undef, undef, undef, undef, undef, undef, undef, undef, undef, undef, undef, undef, undef, undef, undef, undef, undef, undef, undef, undef, undef, undef, undef, undef, undef, undef, undef, undef, undef, undef, undef, undef, undef, undef, undef, undef, undef, undef, undef, undef, undef, undef, undef, undef, undef, undef, undef, undef, undef, undef, undef, undef, undef, undef, undef, undef, undef, undef, undef, undef, undef, undef, undef, undef, undef, undef, undef, undef, undef, undef, undef, undef, undef, undef, undef, undef, undef, undef, undef, undef, undef, undef, undef, undef, undef, undef, undef, undef, undef, undef, undef, undef, undef], []⟩ w
  | s1110 (f : Nat) (l : Array Bool) (w : World) (hf : f = 6) (hl : l = #[true, true, true, false, true, false, true, true, false, false, false, false]) (g1 : Nat) (g2 : Nat) (hd : V5 w0 g c w) (b1 : Blk w g1 31 #[.int .i64 0, .int .i64 0]) (l1 : w0.heap.size ≤ g1) (b2 : Blk w g2 34 #[.int .i64 0, .int .i64 0, .int .i64 0]) (l2 : w0.heap.size ≤ g2) : St8 y0 y1 y2 y3 y4 y8 y9 y10 y11 y12 y13 y14 y16 y18 w0 g c f l ⟨#[y0, y1, y2, y3, y4, .pointer (some ⟨g1, 0, none⟩), .pointer (some ⟨g2, 0, none⟩), undef, y8, y9, y10, y11, y12, y13, y14, .agg #[.int .i64 c.ta, .int .i64 c.iv], y16, undef, y18, undef, undef, undef, undef, undef, undef, undef, undef, undef, undef, undef, undef, undef, undef, undef, undef, undef, undef, undef, undef, undef, undef, undef, undef, undef, undef, undef, undef, undef, undef, undef, undef, undef, undef, undef, undef, undef, undef, undef, undef, undef, undef, undef, undef, undef, undef, undef, undef, undef, undef, undef, undef, undef, undef, undef, undef, undef, undef, undef, undef, undef, undef, undef, undef, undef, undef, undef, undef, undef, undef, undef, undef, undef, undef, undef, undef, undef, undef, undef, undef, undef, undef, undef, undef, undef, undef, undef, undef, undef, undef, undef, undef, undef, undef, undef, undef, undef, undef, undef, undef, undef, undef, undef, undef, undef, undef, undef, undef, undef, undef, undef, undef, undef, undef, undef, undef, undef, undef, undef, undef, undef, undef, undef, undef, undef, undef, undef], []⟩ w
  | s1111 (f : Nat) (l : Array Bool) (w : World) (hf : f = 5) (hl : l = #[true, true, true, false, true, false, true, true, true, false, false, false]) (g1 : Nat) (g2 : Nat) (g3 : Nat) (hd : V5 w0 g c w) (b1 : Blk w g1 31 #[.int .i64 0, .int .i64 0]) (l1 : w0.heap.size ≤ g1) (b2 : Blk w g2 34 #[.int .i64 0, .int .i64 0, .int .i64 0]) (l2 : w0.heap.size ≤ g2) (b3 : Blk w g3 37 #[.int .i64 0, .int .i64 0, .int .i64 0, .int .i64 0, .int .i64 0, .int .i64 0, .int .i64 0]) (l3 : w0.heap.size ≤ g3) : St8 y0 y1 y2 y3 y4 y8 y9 y10 y11 y12 y13 y14 y16 y18 w0 g c f l ⟨#[y0, y1, y2, y3, y4, .pointer (some ⟨g1, 0, none⟩), .pointer (some ⟨g2, 0, none⟩), .pointer (some ⟨g3, 0, none⟩), y8, y9, y10, y11, y12, y13, y14, .agg #[.int .i64 c.ta, .int .i64 c.iv], y16, undef, y18, undef, undef, undef, undef, undef, undef, undef, undef, undef, undef, undef, undef, undef, undef, undef, undef, undef, undef, undef, undef, undef, undef, undef, undef, undef, undef, undef, undef, undef, undef, undef, undef, undef, undef, undef, undef, undef, undef, undef, undef, undef, undef, undef, undef, undef, undef, undef, undef, undef, undef, undef, undef, undef, undef, undef, undef, undef, undef, undef, undef, undef, undef, undef, undef, undef, undef, undef, undef, undef, undef, undef, undef, undef, undef, undef, undef, undef, undef, undef, undef, undef, undef, undef, undef, undef, undef, undef, undef, undef, undef, undef, undef, undef, undef, undef, undef, undef, undef, undef, undef, undef, undef, undef, undef, undef, undef, undef, undef, undef, undef, undef, undef, undef, undef, undef, undef, undef, undef, undef, undef, undef, undef, undef, undef, undef, undef, undef], []⟩ w
  | s2000 (f : Nat) (l : Array Bool) (w : World) (hf : f = 7) (hl : l = #[true, true, true, true, true, false, false, false, false, false, false, false]) (hd : V5 w0 g c w) : St8 y0 y1 y2 y3 y4 y8 y9 y10 y11 y12 y13 y14 y16 y18 w0 g c f l ⟨#[y0, y1, y2, y3, y4, undef, undef, undef, y8, y9, y10, y11, y12, y13, y14, .agg #[.int .i64 c.ta, .int .i64 c.iv], y16, .agg #[.int .i64 c.hg, .int .i64 c.lo, .int .i64 c.dw], y18, undef, undef, undef, undef, undef, undef, undef, undef, undef, undef, undef, undef, undef, undef, undef, undef, undef, undef, undef, undef, undef, undef, undef, undef, undef, undef, undef, undef, undef, undef, undef, undef, undef, undef, undef, undef, undef, undef, undef, undef, undef, undef, undef, undef, undef, undef, undef, undef, undef, undef, undef, undef, undef, undef, undef, undef, undef, undef, undef, undef, undef, undef, undef, undef, undef, undef, undef, undef, undef, undef, undef, undef, undef, undef, undef, undef, undef, undef, undef, undef, undef, undef, undef, undef, undef, undef, undef, undef, undef, undef, undef, undef, undef, undef, undef, undef, undef, undef, undef, undef, undef, undef, undef, undef, undef, undef, undef, undef, undef, undef, undef, undef, undef, undef, undef, undef, undef, undef, undef, undef, undef, undef, undef, undef, undef, undef, undef], []⟩ w
  | s2001 (f : Nat) (l : Array Bool) (w : World) (hf : f = 6) (hl : l = #[true, true, true, true, true, false, false, false, true, false, false, false]) (g3 : Nat) (hd : V5 w0 g c w) (b3 : Blk w g3 37 #[.int .i64 0, .int .i64 0, .int .i64 0, .int .i64 0, .int .i64 0, .int .i64 0, .int .i64 0]) (l3 : w0.heap.size ≤ g3) : St8 y0 y1 y2 y3 y4 y8 y9 y10 y11 y12 y13 y14 y16 y18 w0 g c f l ⟨#[y0, y1, y2, y3, y4, undef, undef, .pointer (some ⟨g3, 0, none⟩), y8, y9, y10, y11, y12, y13, y14, .agg #[.int .i64 c.ta, .int .i64 c.iv], y16, .agg #[.int .i64 c.hg, .int .i64 c.lo, .int .i64 c.dw], y18, undef, undef, undef, undef, undef, undef, undef, undef, undef, undef, undef, undef, undef, undef, undef, undef, undef, undef, undef, undef, undef, undef, undef, undef, undef, undef, undef, undef, undef, undef, undef, undef, undef, undef, undef, undef, undef, undef, undef, undef, undef, undef, undef, undef, undef, undef, undef, undef, undef, undef, undef, undef, undef, undef, undef, undef, undef, undef, undef, undef, undef, undef, undef, undef, undef, undef, undef, undef, undef, undef, undef, undef, undef, undef, undef, undef, undef, undef, undef, undef, undef, undef, undef, undef, undef, undef, undef, undef, undef, undef, undef, undef, undef, undef, undef, undef, undef, undef, undef, undef, undef, undef, undef, undef, undef, undef, undef, undef, undef, undef, undef, undef, undef, undef, undef, undef, undef, undef, undef, undef, undef, undef, undef, undef, undef, undef, undef], []⟩ w
  | s2010 (f : Nat) (l : Array Bool) (w : World) (hf : f = 6) (hl : l = #[true, true, true, true, true, false, false, true, false, false, false, false]) (g2 : Nat) (hd : V5 w0 g c w) (b2 : Blk w g2 34 #[.int .i64 0, .int .i64 0, .int .i64 0]) (l2 : w0.heap.size ≤ g2) : St8 y0 y1 y2 y3 y4 y8 y9 y10 y11 y12 y13 y14 y16 y18 w0 g c f l ⟨#[y0, y1, y2, y3, y4, undef, .pointer (some ⟨g2, 0, none⟩), undef, y8, y9, y10, y11, y12, y13, y14, .agg #[.int .i64 c.ta, .int .i64 c.iv], y16, .agg #[.int .i64 c.hg, .int .i64 c.lo, .int .i64 c.dw], y18, undef, undef, undef, undef, undef, undef, undef, undef, undef, undef, undef, undef, undef, undef, undef, undef, undef, undef, undef, undef, undef, undef, undef, undef, undef, undef, undef, undef, undef, undef, undef, undef, undef, undef, undef, undef, undef, undef, undef, undef, undef, undef, undef, undef, undef, undef, undef, undef, undef, undef, undef, undef, undef, undef, undef, undef, undef, undef, undef, undef, undef, undef, undef, undef, undef, undef, undef, undef, undef, undef, undef, undef, undef, undef, undef, undef, undef, undef, undef, undef, undef, undef, undef, undef, undef, undef, undef, undef, undef, undef, undef, undef, undef, undef, undef, undef, undef, undef, undef, undef, undef, undef, undef, undef, undef, undef, undef, undef, undef, undef, undef, undef, undef, undef, undef, undef, undef, undef, undef, undef, undef, undef, undef, undef, undef, undef, undef], []⟩ w
  | s2011 (f : Nat) (l : Array Bool) (w : World) (hf : f = 5) (hl : l = #[true, true, true, true, true, false, false, true, true, false, false, false]) (g2 : Nat) (g3 : Nat) (hd : V5 w0 g c w) (b2 : Blk w g2 34 #[.int .i64 0, .int .i64 0, .int .i64 0]) (l2 : w0.heap.size ≤ g2) (b3 : Blk w g3 37 #[.int .i64 0, .int .i64 0, .int .i64 0, .int .i64 0, .int .i64 0, .int .i64 0, .int .i64 0]) (l3 : w0.heap.size ≤ g3) : St8 y0 y1 y2 y3 y4 y8 y9 y10 y11 y12 y13 y14 y16 y18 w0 g c f l ⟨#[y0, y1, y2, y3, y4, undef, .pointer (some ⟨g2, 0, none⟩), .pointer (some ⟨g3, 0, none⟩), y8, y9, y10, y11, y12, y13, y14, .agg #[.int .i64 c.ta, .int .i64 c.iv], y16, .agg #[.int .i64 c.hg, .int .i64 c.lo, .int .i64 c.dw], y18, undef, undef, undef, undef, undef, undef, undef, undef, undef, undef, undef, undef, undef, undef, undef, undef, undef, undef, undef, undef, undef, undef, undef, undef, undef, undef, undef, undef, undef, undef, undef, undef, undef, undef, undef, undef, undef, undef, undef, undef, undef, undef, undef, undef, undef, undef, undef, undef, undef, undef, undef, undef, undef, undef, undef, undef, undef, undef, undef, undef, undef, undef, undef, undef, undef, undef, undef, undef, undef, undef, undef, undef, undef, undef, undef, undef, undef, undef, undef, undef, undef, undef, undef, undef, undef, undef, undef, undef, undef, undef, undef, undef, undef, undef, undef, undef, undef, undef, undef, undef, undef, undef, undef, undef, undef, undef, undef, undef, undef, undef, undef, undef, undef, undef, undef, undef, undef, undef, undef, undef, undef, undef, undef, undef, undef, undef, undef], []⟩ w
  | s2100 (f : Nat) (l : Array Bool) (w : World) (hf : f = 6) (hl : l = #[true, true, true, true, true, false, true, false, false, false, false, false]) (g1 : Nat) (hd : V5 w0 g c w) (b1 : Blk w g1 31 #[.int .i64 0, .int .i64 0]) (l1 : w0.heap.size ≤ g1) : St8 y0 y1 y2 y3 y4 y8 y9 y10 y11 y12 y13 y14 y16 y18 w0 g c f l ⟨#[y0, y1, y2, y3, y4, .pointer (some ⟨g1, 0, none⟩), undef, undef, y8, y9, y10, y11, y12, y13, y14, .agg #[.int .i64 c.ta, .int .i64 c.iv], y16, .agg #[.int .i64 c.hg, .int .i64 c.lo, .int .i64 c.dw], y18, undef, undef, undef, undef, undef, undef, undef, undef, undef, undef, undef, undef, undef, undef, undef, undef, undef, undef, undef, undef, undef, undef, undef, undef, undef, undef, undef, undef, undef, undef, undef, undef, undef, undef, undef, undef, undef, undef, undef, undef, undef, undef, undef, undef, undef, undef, undef, undef, undef, undef, undef, undef, undef, undef, undef, undef, undef, undef, undef, undef, undef, undef, undef, undef, undef, undef, undef, undef, undef, undef, undef, undef, undef, undef, undef, undef, undef, undef, undef, undef, undef, undef, undef, undef, undef, undef, undef, undef, undef, undef, undef, undef, undef, undef, undef, undef, undef, undef, undef, undef, undef, undef, undef, undef, undef, undef, undef, undef, undef, undef, undef, undef, undef, undef, undef, undef, undef, undef, undef, undef, undef, undef, undef, undef, undef, undef, undef], []⟩ w
  | s2101 (f : Nat) (l : Array Bool) (w : World) (hf : f = 5) (hl : l = #[true, true, true, true, true, false, true, false, true, false, false, false]) (g1 : Nat) (g3 : Nat) (hd : V5 w0 g c w) (b1 : Blk w g1 31 #[.int .i64 0, .int .i64 0]) (l1 : w0.heap.size ≤ g1) (b3 : Blk w g3 37 #[.int .i64 0, .int .i64 0, .int .i64 0, .int .i64 0, .int .i64 0, .int .i64 0, .int .i64 0]) (l3 : w0.heap.size ≤ g3) : St8 y0 y1 y2 y3 y4 y8 y9 y10 y11 y12 y13 y14 y16 y18 w0 g c f l ⟨#[y0, y1, y2, y3, y4, .pointer (some ⟨g1, 0, none⟩), undef, .pointer (some ⟨g3, 0, none⟩), y8, y9, y10, y11, y12, y13, y14, .agg #[.int .i64 c.ta, .int .i64 c.iv], y16, .agg #[.int .i64 c.hg, .int .i64 c.lo, .int .i64 c.dw], y18, undef, undef, undef, undef, undef, undef, undef, undef, undef, undef, undef, undef, undef, undef, undef, undef, undef, undef, undef, undef, undef, undef, undef, undef, undef, undef, undef, undef, undef, undef, undef, undef, undef, undef, undef, undef, undef, undef, undef, undef, undef, undef, undef, undef, undef, undef, undef, undef, undef, undef, undef, undef, undef, undef, undef, undef, undef, undef, undef, undef, undef, undef, undef, undef, undef, undef, undef, undef, undef, undef, undef, undef, undef, undef, undef, undef, undef, undef, undef, undef, undef, undef, undef, undef, undef, undef, undef, undef, undef, undef, undef, undef, undef, undef, undef, undef, undef, undef, undef, undef, undef, undef, undef, undef, undef, undef, undef, undef, undef, undef, undef, undef, undef, undef, undef, undef, undef, undef, undef, undef, undef, undef, undef, undef, undef, undef, undef], []⟩ w
  | s2110 (f : Nat) (l : Array Bool) (w : World) (hf : f = 5) (hl : l = #[true, true, true, true, true, false, true, true, false, false, false, false]) (g1 : Nat) (g2 : Nat) (hd : V5 w0 g c w) (b1 : Blk w g1 31 #[.int .i64 0, .int .i64 0]) (l1 : w0.heap.size ≤ g1) (b2 : Blk w g2 34 #[.int .i64 0, .int .i64 0, .int .i64 0]) (l2 : w0.heap.size ≤ g2) : St8 y0 y1 y2 y3 y4 y8 y9 y10 y11 y12 y13 y14 y16 y18 w0 g c f l ⟨#[y0, y1, y2, y3, y4, .pointer (some ⟨g1, 0, none⟩), .pointer (some ⟨g2, 0, none⟩), undef, y8, y9, y10, y11, y12, y13, y14, .agg #[.int .i64 c.ta, .int .i64 c.iv], y16, .agg #[.int .i64 c.hg, .int .i64 c.lo, .int .i64 c.dw], y18, undef, undef, undef, undef, undef, undef, undef, undef, undef, undef, undef, undef, undef, undef, undef, undef, undef, undef, undef, undef, undef, undef, undef, undef, undef, undef, undef, undef, undef, undef, undef, undef, undef, undef, undef, undef, undef, undef, undef, undef, undef, undef, undef, undef, undef, undef, undef, undef, undef, undef, undef, undef, undef, undef, undef, undef, undef, undef, undef, undef, undef, undef, undef, undef, undef, undef, undef, undef, undef, undef, undef, undef, undef, undef, undef, undef, undef, undef, undef, undef, undef, undef, undef, undef, undef, undef, undef, undef, undef, undef, undef, undef, undef, undef, undef, undef, undef, undef, undef, undef, undef, undef, undef, undef, undef, undef, undef, undef, undef, undef, undef, undef, undef, undef, undef, undef, undef, undef, undef, undef, undef, undef, undef, undef, undef, undef, undef], []⟩ w
  | s2111 (f : Nat) (l : Array Bool) (w : World) (hf : f = 4) (hl : l = #[true, true, true, true, true, false, true, true, true, false, false, false]) (g1 : Nat) (g2 : Nat) (g3 : Nat) (hd : V5 w0 g c w) (b1 : Blk w g1 31 #[.int .i64 0, .int .i64 0]) (l1 : w0.heap.size ≤ g1) (b2 : Blk w g2 34 #[.int .i64 0, .int .i64 0, .int .i64 0]) (l2 : w0.heap.size ≤ g2) (b3 : Blk w g3 37 #[.int .i64 0, .int .i64 0, .int .i64 0, .int .i64 0, .int .i64 0, .int .i64 0, .int .i64 0]) (l3 : w0.heap.size ≤ g3) : St8 y0 y1 y2 y3 y4 y8 y9 y10 y11 y12 y13 y14 y16 y18 w0 g c f l ⟨#[y0, y1, y2, y3, y4, .pointer (some ⟨g1, 0, none⟩), .pointer (some ⟨g2, 0, none⟩), .pointer (some ⟨g3, 0, none⟩), y8, y9, y10, y11, y12, y13, y14, .agg #[.int .i64 c.ta, .int .i64 c.iv], y16, .agg #[.int .i64 c.hg, .int .i64 c.lo, .int .i64 c.dw], y18, undef, undef, undef, undef, undef, undef, undef, undef, undef, undef, undef, undef, undef, undef, undef, undef, undef, undef, undef, undef, undef, undef, undef, undef, undef, undef, undef, undef, undef, undef, undef, undef, undef, undef, undef, undef, undef, undef, undef, undef, undef, undef, undef, undef, undef, undef, undef, undef, undef, undef, undef, undef, undef, undef, undef, undef, undef, undef, undef, undef, undef, undef, undef, undef, undef, undef, undef, undef, undef, undef, undef, undef, undef, undef, undef, undef, undef, undef, undef, undef, undef, undef, undef, undef, undef, undef, undef, undef, undef, undef, undef, undef, undef, undef, undef, undef, undef, undef, undef, undef, undef, undef, undef, undef, undef, undef, undef, undef, undef, undef, undef, undef, undef, undef, undef, undef, undef, undef, undef, undef, undef, undef, undef, undef, undef, undef, undef], []⟩ w
  | s3000 (f : Nat) (l : Array Bool) (w : World) (hf : f = 6) (hl : l = #[true, true, true, true, true, true, false, false, false, false, false, false]) (hd : V5 w0 g c w) : St8 y0 y1 y2 y3 y4 y8 y9 y10 y11 y12 y13 y14 y16 y18 w0 g c f l ⟨#[y0, y1, y2, y3, y4, undef, undef, undef, y8, y9, y10, y11, y12, y13, y14, .agg #[.int .i64 c.ta, .int .i64 c.iv], y16, .agg #[.int .i64 c.hg, .int .i64 c.lo, .int .i64 c.dw], y18, .agg #[.int .i64 c.sp, .int .i64 c.kp, .int .i64 c.ki, .int .i64 c.kd, .int .i64 c.lm, .int .i64 c.st, .int .i64 (mostW c)], undef, undef, undef, undef, undef, undef, undef, undef, undef, undef, undef, undef, undef, undef, undef, undef, undef, undef, undef, undef, undef, undef, undef, undef, undef, undef, undef, undef, undef, undef, undef, undef, undef, undef, undef, undef, undef, undef, undef, undef, undef, undef, undef, undef, undef, undef, undef, undef, undef, undef, undef, undef, undef, undef, undef, undef, undef, undef, undef, undef, undef, undef, undef, undef, undef, undef, undef, undef, undef, undef, undef, undef, undef, undef, undef, undef, undef, undef, undef, undef, undef, undef, undef, undef, undef, undef, undef, undef, undef, undef, undef, undef, undef, undef, undef, undef, undef, undef, undef, undef, undef, undef, undef, undef, undef, undef, undef, undef, undef, undef, undef, undef, undef, undef, undef, undef, undef, undef, undef, undef, undef, undef, undef, undef, undef, undef], []⟩ w
  | s3001 (f : Nat) (l : Array Bool) (w : World) (hf : f = 5) (hl : l = #[true, true, true, true, true, true, false, false, true, false, false, false]) (g3 : Nat) (hd : V5 w0 g c w) (b3 : Blk w g3 37 #[.int .i64 0, .int .i64 0, .int .i64 0, .int .i64 0, .int .i64 0, .int .i64 0, .int .i64 0]) (l3 : w0.heap.size ≤ g3) : St8 y0 y1 y2 y3 y4 y8 y9 y10 y11 y12 y13 y14 y16 y18 w0 g c f l ⟨#[y0, y1, y2, y3, y4, undef, undef, .pointer (some ⟨g3, 0, none⟩), y8, y9, y10, y11, y12, y13, y14, .agg #[.int .i64 c.ta, .int .i64 c.iv], y16, .agg #[.int .i64 c.hg, .int .i64 c.lo, .int .i64 c.dw], y18, .agg #[.int .i64 c.sp, .int .i64 c.kp, .int .i64 c.ki, .int .i64 c.kd, .int .i64 c.lm, .int .i64 c.st, .int .i64 (mostW c)], undef, undef, undef, undef, undef, undef, undef, undef, undef, undef, undef, undef, undef, undef, undef, undef, undef, undef, undef, undef, undef, undef, undef, undef, undef, undef, undef, undef, undef, undef, undef, undef, undef, undef, undef, undef, undef, undef, undef, undef, undef, undef, undef, undef, undef, undef, undef, undef, undef, undef, undef, undef, undef, undef, undef, undef, undef, undef, undef, undef, undef, undef, undef, undef, undef, undef, undef, undef, undef, undef, undef, undef, undef, undef, undef, undef, undef, undef, undef, undef, undef, undef, undef, undef, undef, undef, undef, undef, undef, undef, undef, undef, undef, undef, undef, undef, undef, undef, undef, undef, undef, undef, undef, undef, undef, undef, undef, undef, undef, undef, undef, undef, undef, undef, undef, undef, undef, undef, undef, undef, undef, undef, undef, undef, undef, undef], []⟩ w
  | s3010 (f : Nat) (l : Array Bool) (w : World) (hf : f = 5) (hl : l = #[true, true, true, true, true, true, false, true, false, false, false, false]) (g2 : Nat) (hd : V5 w0 g c w) (b2 : Blk w g2 34 #[.int .i64 0, .int .i64 0, .int .i64 0]) (l2 : w0.heap.size ≤ g2) : St8 y0 y1 y2 y3 y4 y8 y9 y10 y11 y12 y13 y14 y16 y18 w0 g c f l ⟨#[y0, y1, y2, y3, y4, undef, .pointer (some ⟨g2, 0, none⟩), undef, y8, y9, y10, y11, y12, y13, y14, .agg #[.int .i64 c.ta, .int .i64 c.iv], y16, .agg #[.int .i64 c.hg, .int .i64 c.lo, .int .i64 c.dw], y18, .agg #[.int .i64 c.sp, .int .i64 c.kp, .int .i64 c.ki, .int .i64 c.kd, .int .i64 c.lm, .int .i64 c.st, .int .i64 (mostW c)], undef, undef, undef, undef, undef, undef, undef, undef, undef, undef, undef, undef, undef, undef, undef, undef, undef, undef, undef, undef, undef, undef, undef, undef, undef, undef, undef, undef, undef, undef, undef, undef, undef, undef, undef, undef, undef, undef, undef, undef, undef, undef, undef, undef, undef, undef, undef, undef, undef, undef, undef, undef, undef, undef, undef, undef, undef, undef, undef, undef, undef, undef, undef, undef, undef, undef, undef, undef, undef, undef, undef, undef, undef, undef, undef, undef, undef, undef, undef, undef, undef, undef, undef, undef, undef, undef, undef, undef, undef, undef, undef, undef, undef, undef, undef, undef, undef, undef, undef, undef, undef, undef, undef, undef, undef, undef, undef, undef, undef, undef, undef, undef, undef, undef, undef, undef, undef, undef, undef, undef, undef, undef, undef, undef, undef, undef], []⟩ w
  | s3011 (f : Nat) (l : Array Bool) (w : World) (hf : f = 4) (hl : l = #[true, true, true, true, true, true, false, true, true, false, false, false]) (g2 : Nat) (g3 : Nat) (hd : V5 w0 g c w) (b2 : Blk w g2 34 #[.int .i64 0, .int .i64 0, .int .i64 0]) (l2 : w0.heap.size ≤ g2) (b3 : Blk w g3 37 #[.int .i64 0, .int .i64 0, .int .i64 0, .int .i64 0, .int .i64 0, .int .i64 0, .int .i64 0]) (l3 : w0.heap.size ≤ g3) : St8 y0 y1 y2 y3 y4 y8 y9 y10 y11 y12 y13 y14 y16 y18 w0 g c f l ⟨#[y0, y1, y2, y3, y4, undef, .pointer (some ⟨g2, 0, none⟩), .pointer (some ⟨g3, 0, none⟩), y8, y9, y10, y11, y12, y13, y14, .agg #[.int .i64 c.ta, .int .i64 c.iv], y16, .agg #[.int .i64 c.hg, .int .i64 c.lo, .int .i64 c.dw], y18, .agg #[.int .i64 c.sp, .int .i64 c.kp, .int .i64 c.ki, .int .i64 c.kd, .int .i64 c.lm, .int .i64 c.st, .int .i64 (mostW c)], undef, undef, undef, undef, undef, undef, undef, undef, undef, undef, undef, undef, undef, undef, undef, undef, undef, undef, undef, undef, undef, undef, undef, undef, undef, undef, undef, undef, undef, undef, undef, undef, undef, undef, undef, undef, undef, undef, undef, undef, undef, undef, undef, undef, undef, undef, undef, undef, undef, undef, undef, undef, undef, undef, undef, undef, undef, undef, undef, undef, undef, undef, undef, undef, undef, undef, undef, undef, undef, undef, undef, undef, undef, undef, undef, undef, undef, undef, undef, undef, undef, undef, undef, undef, undef, undef, undef, undef, undef, undef, undef, undef, undef, undef, undef, undef, undef, undef, undef, undef, undef, undef, undef, undef, undef, undef, undef, undef, undef, undef, undef, undef, undef, undef, undef, undef, undef, undef, undef, undef, undef, undef, undef, undef, undef, undef], []⟩ w
  | s3100 (f : Nat) (l : Array Bool) (w : World) (hf : f = 5) (hl : l = #[true, true, true, true, true, true, true, false, false, false, false, false]) (g1 : Nat) (hd : V5 w0 g c w) (b1 : Blk w g1 31 #[.int .i64 0, .int .i64 0]) (l1 : w0.heap.size ≤ g1) : St8 y0 y1 y2 y3 y4 y8 y9 y10 y11 y12 y13 y14 y16 y18 w0 g c f l ⟨#[y0, y1, y2, y3, y4, .pointer (some ⟨g1, 0, none⟩), undef, undef, y8, y9, y10, y11, y12, y13, y14, .agg #[.int .i64 c.ta, .int .i64 c.iv], y16, .agg #[.int .i64 c.hg, .int .i64 c.lo, .int .i64 c.dw], y18, .agg #[.int .i64 c.sp, .int .i64 c.kp, .int .i64 c.ki, .int .i64 c.kd, .int .i64 c.lm, .int .i64 c.st, .int .i64 (mostW c)], undef, undef, undef, undef, undef, undef, undef, undef, undef, undef, undef, undef, undef, undef, undef, undef, undef, undef, undef, undef, undef, undef, undef, undef, undef, undef, undef, undef, undef, undef, undef, undef, undef, undef, undef, undef, undef, undef, undef, undef, undef, undef, undef, undef, undef, undef, undef, undef, undef, undef, undef, undef, undef, undef, undef, undef, undef, undef, undef, undef, undef, undef, undef, undef, undef, undef, undef, undef, undef, undef, undef, undef, undef, undef, undef, undef, undef, undef, undef, undef, undef, undef, undef, undef, undef, undef, undef, undef, undef, undef, undef, undef, undef, undef, undef, undef, undef, undef, undef, undef, undef, undef, undef, undef, undef, undef, undef, undef, undef, undef, undef, undef, undef, undef, undef, undef, undef, undef, undef, undef, undef, undef, undef, undef, undef, undef], []⟩ w
  | s3101 (f : Nat) (l : Array Bool) (w : World) (hf : f = 4) (hl : l = #[true, true, true, true, true, true, true, false, true, false, false, false]) (g1 : Nat) (g3 : Nat) (hd : V5 w0 g c w) (b1 : Blk w g1 31 #[.int .i64 0, .int .i64 0]) (l1 : w0.heap.size ≤ g1) (b3 : Blk w g3 37 #[.int .i64 0, .int .i64 0, .int .i64 0, .int .i64 0, .int .i64 0, .int .i64 0, .int .i64 0]) (l3 : w0.heap.size ≤ g3) : St8 y0 y1 y2 y3 y4 y8 y9 y10 y11 y12 y13 y14 y16 y18 w0 g c f l ⟨#[y0, y1, y2, y3, y4, .pointer (some ⟨g1, 0, none⟩), undef, .pointer (some ⟨g3, 0, none⟩), y8, y9, y10, y11, y12, y13, y14, .agg #[.int .i64 c.ta, .int .i64 c.iv], y16, .agg #[.int .i64 c.hg, .int .i64 c.lo, .int .i64 c.dw], y18, .agg #[.int .i64 c.sp, .int .i64 c.kp, .int .i64 c.ki, .int .i64 c.kd, .int .i64 c.lm, .int .i64 c.st, .int .i64 (mostW c)], undef, undef, undef, undef, undef, undef, undef, undef, undef, undef, undef, undef, undef, undef, undef, undef, undef, undef, undef, undef, undef, undef, undef, undef, undef, undef, undef, undef, undef, undef, undef, undef, undef, undef, undef, undef, undef, undef, undef, undef, undef, undef, undef, undef, undef, undef, undef, undef, undef, undef, undef, undef, undef, undef, undef, undef, undef, undef, undef, undef, undef, undef, undef, undef, undef, undef, undef, undef, undef, undef, undef, undef, undef, undef, undef, undef, undef, undef, undef, undef, undef, undef, undef, undef, undef, undef, undef, undef, undef, undef, undef, undef, undef, undef, undef, undef, undef, undef, undef, undef, undef, undef, undef, undef, undef, undef, undef, undef, undef, undef, undef, undef, undef, undef, undef, undef, undef, undef, undef, undef, undef, undef, undef, undef, undef, undef], []⟩ w
  | s3110 (f : Nat) (l : Array Bool) (w : World) (hf : f = 4) (hl : l = #[true, true, true, true, true, true, true, true, false, false, false, false]) (g1 : Nat) (g2 : Nat) (hd : V5 w0 g c w) (b1 : Blk w g1 31 #[.int .i64 0, .int .i64 0]) (l1 : w0.heap.size ≤ g1) (b2 : Blk w g2 34 #[.int .i64 0, .int .i64 0, .int .i64 0]) (l2 : w0.heap.size ≤ g2) : St8 y0 y1 y2 y3 y4 y8 y9 y10 y11 y12 y13 y14 y16 y18 w0 g c f l ⟨#[y0, y1, y2, y3, y4, .pointer (some ⟨g1, 0, none⟩), .pointer (some ⟨g2, 0, none⟩), undef, y8, y9, y10, y11, y12, y13, y14, .agg #[.int .i64 c.ta, .int .i64 c.iv], y16, .agg #[.int .i64 c.hg, .int .i64 c.lo, .int .i64 c.dw], y18, .agg #[.int .i64 c.sp, .int .i64 c.kp, .int .i64 c.ki, .int .i64 c.kd, .int .i64 c.lm, .int .i64 c.st, .int .i64 (mostW c)], undef, undef, undef, undef, undef, undef, undef, undef, undef, undef, undef, undef, undef, undef, undef, undef, undef, undef, undef, undef, undef, undef, undef, undef, undef, undef, undef, undef, undef, undef, undef, undef, undef, undef, undef, undef, undef, undef, undef, undef, undef, undef, undef, undef, undef, undef, undef, undef, undef, undef, undef, undef, undef, undef, undef, undef, undef, undef, undef, undef, undef, undef, undef, undef, undef, undef, undef, undef, undef, undef, undef, undef, undef, undef, undef, undef, undef, undef, undef, undef, undef, undef, undef, undef, undef, undef, undef, undef, undef, undef, undef, undef, undef, undef, undef, undef, undef, undef, undef, undef, undef, undef, undef, undef, undef, undef, undef, undef, undef, undef, undef, undef, undef, undef, undef, undef, undef, undef, undef, undef, undef, undef, undef, undef, undef, undef], []⟩ w
  | s3111 (f : Nat) (l : Array Bool) (w : World) (hf : f = 3) (hl : l = #[true, true, true, true, true, true, true, true, true, false, false, false]) (g1 : Nat) (g2 : Nat) (g3 : Nat) (hd : V5 w0 g c w) (b1 : Blk w g1 31 #[.int .i64 0, .int .i64 0]) (l1 : w0.heap.size ≤ g1) (b2 : Blk w g2 34 #[.int .i64 0, .int .i64 0, .int .i64 0]) (l2 : w0.heap.size ≤ g2) (b3 : Blk w g3 37 #[.int .i64 0, .int .i64 0, .int .i64 0, .int .i64 0, .int .i64 0, .int .i64 0, .int .i64 0]) (l3 : w0.heap.size ≤ g3) : St8 y0 y1 y2 y3 y4 y8 y9 y10 y11 y12 y13 y14 y16 y18 w0 g c f l ⟨#[y0, y1, y2, y3, y4, .pointer (some ⟨g1, 0, none⟩), .pointer (some ⟨g2, 0, none⟩), .pointer (some ⟨g3, 0, none⟩), y8, y9, y10, y11, y12, y13, y14, .agg #[.int .i64 c.ta, .int .i64 c.iv], y16, .agg #[.int .i64 c.hg, .int .i64 c.lo, .int .i64 c.dw], y18, .agg #[.int .i64 c.sp, .int .i64 c.kp, .int .i64 c.ki, .int .i64 c.kd, .int .i64 c.lm, .int .i64 c.st, .int .i64 (mostW c)], undef, undef, undef, undef, undef, undef, undef, undef, undef, undef, undef, undef, undef, undef, undef, undef, undef, undef, undef, undef, undef, undef, undef, undef, undef, undef, undef, undef, undef, undef, undef, undef, undef, undef, undef, undef, undef, undef, undef, undef, undef, undef, undef, undef, undef, undef, undef, undef, undef, undef, undef, undef, undef, undef, undef, undef, undef, undef, undef, undef, undef, undef, undef, undef, undef, undef, undef, undef, undef, undef, undef, undef, undef, undef, undef, undef, undef, undef, undef, undef, undef, undef, undef, undef, undef, undef, undef, undef, undef, undef, undef, undef, undef, undef, undef, undef, undef, undef, undef, undef, undef, undef, undef, undef, undef, undef, undef, undef, undef, undef, undef, undef, undef, undef, undef, undef, undef, undef, undef, undef, undef, undef, undef, undef, undef, undef], []⟩ w
open Kn
set_option maxRecDepth 20000 in
set_option maxHeartbeats 8000000 in
theorem reg5 {ops : Array Oper} (hops : Tryd.f3.body.bind (findReg 5) = some ops) (c : Cf) (g : Nat) (w x4 : World) (hV : V5 w g c x4) (y0 y1 y2 y3 y4 y8 y9 y10 y11 y12 y13 : Value) (hy1 : y1 = .pointer (some ⟨w.heap.size, 0, none⟩)) :
    (Code.region 5 ops true).wp Tryd.prog (fun e a' w' => ∃ g1 g2 g3 : Nat, e = .normal ∧ a' = ⟨#[y0, y1, y2, y3, y4, .pointer (some ⟨g1, 0, none⟩), .pointer (some ⟨g2, 0, none⟩), .pointer (some ⟨g3, 0, none⟩), y8, y9, y10, y11, y12, y13, c.v, .agg #[.int .i64 c.ta, .int .i64 c.iv], c.v, .agg #[.int .i64 c.hg, .int .i64 c.lo, .int .i64 c.dw], c.v, .agg #[.int .i64 c.sp, .int .i64 c.kp, .int .i64 c.ki, .int .i64 c.kd, .int .i64 c.lm, .int .i64 c.st, .int .i64 (mostW c)], undef, undef, undef, undef, undef, undef, undef, undef, undef, undef, undef, undef, undef, undef, undef, undef, undef, undef, undef, undef, undef, undef, undef, undef, undef, undef, undef, undef, undef, undef, undef, undef, undef, undef, undef, undef, undef, undef, undef, undef, undef, undef, undef, undef, undef, undef, undef, undef, undef, undef, undef, undef, undef, undef, undef, undef, undef, undef, undef, undef, undef, undef, undef, undef, undef, undef, undef, undef, undef, undef, undef, undef, undef, undef, undef, undef, undef, undef, undef, undef, undef, undef, undef, undef, undef, undef, undef, undef, undef, undef, undef, undef, undef, undef, undef, undef, undef, undef, undef, undef, undef, undef, undef, undef, undef, undef, undef, undef, undef, undef, undef, undef, undef, undef, undef, undef, undef, undef, undef, undef, undef, undef, undef, undef, undef, undef], []⟩ ∧ CfBox w' w.heap.size c ∧ Row16 w' g c ∧ Blk w' g1 31 #[.int .i64 c.ta, .int .i64 c.iv] ∧ Blk w' g2 34 #[.int .i64 c.hg, .int .i64 c.lo, .int .i64 c.dw] ∧ Blk w' g3 37 #[.int .i64 c.sp, .int .i64 c.kp, .int .i64 c.ki, .int .i64 c.kd, .int .i64 c.lm, .int .i64 c.st, .int .i64 (mostW c)] ∧ Below w.heap.size w w') ⟨#[y0, y1, y2, y3, y4, undef, undef, undef, y8, y9, y10, y11, y12, y13, undef, undef, undef, undef, undef, undef, undef, undef, undef, undef, undef, undef, undef, undef, undef, undef, undef, undef, undef, undef, undef, undef, undef, undef, undef, undef, undef, undef, undef, undef, undef, undef, undef, undef, undef, undef, undef, undef, undef, undef, undef, undef, undef, undef, undef, undef, undef, undef, undef, undef, undef, undef, undef, undef, undef, undef, undef, undef, undef, undef, undef, undef, undef, undef, undef, undef, undef, undef, undef, undef, undef, undef, undef, undef, undef, undef, undef, undef, undef, undef, undef, undef, undef, undef, undef, undef, undef, undef, undef, undef, undef, undef, undef, undef, undef, undef, undef, undef, undef, undef, undef, undef, undef, undef, undef, undef, undef, undef, undef, undef, undef, undef, undef, undef, undef, undef, undef, undef, undef, undef, undef, undef, undef, undef, undef, undef, undef, undef, undef, undef, undef, undef], []⟩ x4 := by
  subst hy1
  have HV := Lib.hid hV
  clear hV
  obtain rfl := Option.some.inj (hops.symm.trans (rfl : Tryd.f3.body.bind (findReg 5) = some _))
  clear hops
  refine begun (V5 w g c) [9, 10, 11] (by kernel_rfl) ⟨HV.out.bx.drew_, HV.out.rw.drew_, HV.out.be.drew⟩ (fun hShut hHeld => ?_)
  refine anyB_take 12 (i := 0) (v := ?_) rfl (by kernel_rfl) (by kernel_rfl) (by kernel_rfl) (by kernel_rfl) (by kernel_rfl) (fun _ _ _ h => by obtain ⟨_, _, _, e0, _⟩ := h; cases e0) hShut hHeld (Or.inl ⟨by rfl, ?_⟩) (fun hShut => ?_)
  case refine_2 => (rintro wz ⟨sh, -, -⟩; have c0 := sh.val (i := 0) rfl; have c1 := sh.val (i := 1) rfl; have c2 := sh.val (i := 2) rfl; have c3 := sh.val (i := 3) rfl; have c4 := sh.val (i := 4) rfl; have c5 := sh.val (i := 5) rfl; have c6 := sh.val (i := 6) rfl; have c7 := sh.val (i := 7) rfl; have c8 := sh.val (i := 8) rfl; have c9 := sh.val (i := 9) rfl; have c10 := sh.val (i := 10) rfl; have c11 := sh.val (i := 11) rfl; have c12 := sh.val (i := 12) rfl; have c13 := sh.val (i := 13) rfl; have c14 := sh.val (i := 14) rfl; have c15 := sh.val (i := 15) rfl; go_simp; try with_reducible rfl)
  try simp only [Act.put, List.getElem_toArray, List.getElem_cons_zero, List.getElem_cons_succ, List.setIfInBounds_toArray, List.set_cons_zero, List.set_cons_succ]
  refine anyB_take 12 (i := 2) (v := ?_) rfl (by kernel_rfl) (by kernel_rfl) (by kernel_rfl) (by kernel_rfl) (by kernel_rfl) (fun _ _ _ h => by obtain ⟨_, _, _, e0, _⟩ := h; cases e0) hShut hHeld (Or.inl ⟨by rfl, ?_⟩) (fun hShut => ?_)
  case refine_2 => (rintro wz ⟨sh, -, -⟩; have c0 := sh.val (i := 0) rfl; have c1 := sh.val (i := 1) rfl; have c2 := sh.val (i := 2) rfl; have c3 := sh.val (i := 3) rfl; have c4 := sh.val (i := 4) rfl; have c5 := sh.val (i := 5) rfl; have c6 := sh.val (i := 6) rfl; have c7 := sh.val (i := 7) rfl; have c8 := sh.val (i := 8) rfl; have c9 := sh.val (i := 9) rfl; have c10 := sh.val (i := 10) rfl; have c11 := sh.val (i := 11) rfl; have c12 := sh.val (i := 12) rfl; have c13 := sh.val (i := 13) rfl; have c14 := sh.val (i := 14) rfl; have c15 := sh.val (i := 15) rfl; go_simp; try with_reducible rfl)
  try simp only [Act.put, List.getElem_toArray, List.getElem_cons_zero, List.getElem_cons_succ, List.setIfInBounds_toArray, List.set_cons_zero, List.set_cons_succ]
  refine anyB_take 12 (i := 4) (v := ?_) rfl (by kernel_rfl) (by kernel_rfl) (by kernel_rfl) (by kernel_rfl) (by kernel_rfl) (fun _ _ _ h => by obtain ⟨_, _, _, e0, _⟩ := h; cases e0) hShut hHeld (Or.inl ⟨by rfl, ?_⟩) (fun hShut => ?_)
  case refine_2 => (rintro wz ⟨sh, -, -⟩; have c0 := sh.val (i := 0) rfl; have c1 := sh.val (i := 1) rfl; have c2 := sh.val (i := 2) rfl; have c3 := sh.val (i := 3) rfl; have c4 := sh.val (i := 4) rfl; have c5 := sh.val (i := 5) rfl; have c6 := sh.val (i := 6) rfl; have c7 := sh.val (i := 7) rfl; have c8 := sh.val (i := 8) rfl; have c9 := sh.val (i := 9) rfl; have c10 := sh.val (i := 10) rfl; have c11 := sh.val (i := 11) rfl; have c12 := sh.val (i := 12) rfl; have c13 := sh.val (i := 13) rfl; have c14 := sh.val (i := 14) rfl; have c15 := sh.val (i := 15) rfl; go_simp; try with_reducible rfl)
  try simp only [Act.put, List.getElem_toArray, List.getElem_cons_zero, List.getElem_cons_succ, List.setIfInBounds_toArray, List.set_cons_zero, List.set_cons_succ]
  refine anyB_states (St8 ?z0 ?z1 ?z2 ?z3 ?z4 ?z8 ?z9 ?z10 ?z11 ?z12 ?z13 ?z14 ?z16 ?z18 w g c) ?hs _ _ _ _ hShut ?h0
  case h0 => exact .s0000 _ _ _ (by rfl) (by kernel_rfl) hHeld
  case hs =>
    intro f l a wz h
    clear hShut hHeld HV
    cases h
    case s0000 hf hl hd =>
      subst hf hl
      refine out_each (f' := 8) (rs := [1, 6, 7, 8]) (by rfl) (by kernel_rfl) (by simp) ?_
      refine List.forall_mem_cons.2 ⟨wpOp_step rfl (fun K hK => ?_), ?_⟩
      ·
        (try rw [if_pos (by rfl)])
        refine wp_enter (by go_simp; exact ⟨rfl, rfl⟩) ?_
        refine (ccodel_any c _).mono ?_
        rintro e wn ⟨rfl, hbn⟩
        refine ⟨_, rfl, ?_⟩
        exact hK _ _ ⟨fun _ => hd.below hbn, .s1000 _ _ _ (by rfl) (by kernel_rfl)  (hd.below hbn) ⟩
      refine List.forall_mem_cons.2 ⟨wpOp_step rfl (fun K hK => ?_), ?_⟩
      ·
        (try rw [if_pos (by rfl)])
        go_simp
        exact hK _ _ ⟨fun _ => hd.alloc_ _, .s0100 _ _ _ (by rfl) (by kernel_rfl) _ (hd.alloc_ _) (Blk.made wz _ _) hd.be.size⟩
      refine List.forall_mem_cons.2 ⟨wpOp_step rfl (fun K hK => ?_), ?_⟩
      ·
        (try rw [if_pos (by rfl)])
        go_simp
        exact hK _ _ ⟨fun _ => hd.alloc_ _, .s0010 _ _ _ (by rfl) (by kernel_rfl) _ (hd.alloc_ _) (Blk.made wz _ _) hd.be.size⟩
      refine List.forall_mem_cons.2 ⟨wpOp_step rfl (fun K hK => ?_), ?_⟩
      ·
        (try rw [if_pos (by rfl)])
        go_simp
        exact hK _ _ ⟨fun _ => hd.alloc_ _, .s0001 _ _ _ (by rfl) (by kernel_rfl) _ (hd.alloc_ _) (Blk.made wz _ _) hd.be.size⟩
      exact fun _ h => by cases h
    case s0001 hf hl g3 l3 hd b3 =>
      subst hf hl
      refine out_each (f' := 7) (rs := [1, 6, 7]) (by rfl) (by kernel_rfl) (by simp) ?_
      refine List.forall_mem_cons.2 ⟨wpOp_step rfl (fun K hK => ?_), ?_⟩
      ·
        (try rw [if_pos (by rfl)])
        refine wp_enter (by go_simp; exact ⟨rfl, rfl⟩) ?_
        refine (ccodel_any c _).mono ?_
        rintro e wn ⟨rfl, hbn⟩
        refine ⟨_, rfl, ?_⟩
        exact hK _ _ ⟨fun _ => hd.below hbn, .s1001 _ _ _ (by rfl) (by kernel_rfl) _ (hd.below hbn) (b3.below_ hbn b3.size) l3⟩
      refine List.forall_mem_cons.2 ⟨wpOp_step rfl (fun K hK => ?_), ?_⟩
      ·
        (try rw [if_pos (by rfl)])
        go_simp
        exact hK _ _ ⟨fun _ => hd.alloc_ _, .s0101 _ _ _ (by rfl) (by kernel_rfl) _ _ (hd.alloc_ _) (Blk.made wz _ _) hd.be.size (b3.alloc_ _) l3⟩
      refine List.forall_mem_cons.2 ⟨wpOp_step rfl (fun K hK => ?_), ?_⟩
      ·
        (try rw [if_pos (by rfl)])
        go_simp
        exact hK _ _ ⟨fun _ => hd.alloc_ _, .s0011 _ _ _ (by rfl) (by kernel_rfl) _ _ (hd.alloc_ _) (Blk.made wz _ _) hd.be.size (b3.alloc_ _) l3⟩
      exact fun _ h => by cases h
    case s0010 hf hl g2 l2 hd b2 =>
      subst hf hl
      refine out_each (f' := 7) (rs := [1, 6, 8]) (by rfl) (by kernel_rfl) (by simp) ?_
      refine List.forall_mem_cons.2 ⟨wpOp_step rfl (fun K hK => ?_), ?_⟩
      ·
        (try rw [if_pos (by rfl)])
        refine wp_enter (by go_simp; exact ⟨rfl, rfl⟩) ?_
        refine (ccodel_any c _).mono ?_
        rintro e wn ⟨rfl, hbn⟩
        refine ⟨_, rfl, ?_⟩
        exact hK _ _ ⟨fun _ => hd.below hbn, .s1010 _ _ _ (by rfl) (by kernel_rfl) _ (hd.below hbn) (b2.below_ hbn b2.size) l2⟩
      refine List.forall_mem_cons.2 ⟨wpOp_step rfl (fun K hK => ?_), ?_⟩
      ·
        (try rw [if_pos (by rfl)])
        go_simp
        exact hK _ _ ⟨fun _ => hd.alloc_ _, .s0110 _ _ _ (by rfl) (by kernel_rfl) _ _ (hd.alloc_ _) (Blk.made wz _ _) hd.be.size (b2.alloc_ _) l2⟩
      refine List.forall_mem_cons.2 ⟨wpOp_step rfl (fun K hK => ?_), ?_⟩
      ·
        (try rw [if_pos (by rfl)])
        go_simp
        exact hK _ _ ⟨fun _ => hd.alloc_ _, .s0011 _ _ _ (by rfl) (by kernel_rfl) _ _ (hd.alloc_ _) (b2.alloc_ _) l2 (Blk.made wz _ _) hd.be.size⟩
      exact fun _ h => by cases h
    case s0011 hf hl g2 g3 l2 l3 hd b2 b3 =>
      subst hf hl
      refine out_each (f' := 6) (rs := [1, 6]) (by rfl) (by kernel_rfl) (by simp) ?_
      refine List.forall_mem_cons.2 ⟨wpOp_step rfl (fun K hK => ?_), ?_⟩
      ·
        (try rw [if_pos (by rfl)])
        refine wp_enter (by go_simp; exact ⟨rfl, rfl⟩) ?_
        refine (ccodel_any c _).mono ?_
        rintro e wn ⟨rfl, hbn⟩
        refine ⟨_, rfl, ?_⟩
        exact hK _ _ ⟨fun _ => hd.below hbn, .s1011 _ _ _ (by rfl) (by kernel_rfl) _ _ (hd.below hbn) (b2.below_ hbn b2.size) l2 (b3.below_ hbn b3.size) l3⟩
      refine List.forall_mem_cons.2 ⟨wpOp_step rfl (fun K hK => ?_), ?_⟩
      ·
        (try rw [if_pos (by rfl)])
        go_simp
        exact hK _ _ ⟨fun _ => hd.alloc_ _, .s0111 _ _ _ (by rfl) (by kernel_rfl) _ _ _ (hd.alloc_ _) (Blk.made wz _ _) hd.be.size (b2.alloc_ _) l2 (b3.alloc_ _) l3⟩
      exact fun _ h => by cases h
    case s0100 hf hl g1 l1 hd b1 =>
      subst hf hl
      refine out_each (f' := 7) (rs := [1, 7, 8]) (by rfl) (by kernel_rfl) (by simp) ?_
      refine List.forall_mem_cons.2 ⟨wpOp_step rfl (fun K hK => ?_), ?_⟩
      ·
        (try rw [if_pos (by rfl)])
        refine wp_enter (by go_simp; exact ⟨rfl, rfl⟩) ?_
        refine (ccodel_any c _).mono ?_
        rintro e wn ⟨rfl, hbn⟩
        refine ⟨_, rfl, ?_⟩
        exact hK _ _ ⟨fun _ => hd.below hbn, .s1100 _ _ _ (by rfl) (by kernel_rfl) _ (hd.below hbn) (b1.below_ hbn b1.size) l1⟩
      refine List.forall_mem_cons.2 ⟨wpOp_step rfl (fun K hK => ?_), ?_⟩
      ·
        (try rw [if_pos (by rfl)])
        go_simp
        exact hK _ _ ⟨fun _ => hd.alloc_ _, .s0110 _ _ _ (by rfl) (by kernel_rfl) _ _ (hd.alloc_ _) (b1.alloc_ _) l1 (Blk.made wz _ _) hd.be.size⟩
      refine List.forall_mem_cons.2 ⟨wpOp_step rfl (fun K hK => ?_), ?_⟩
      ·
        (try rw [if_pos (by rfl)])
        go_simp
        exact hK _ _ ⟨fun _ => hd.alloc_ _, .s0101 _ _ _ (by rfl) (by kernel_rfl) _ _ (hd.alloc_ _) (b1.alloc_ _) l1 (Blk.made wz _ _) hd.be.size⟩
      exact fun _ h => by cases h
    case s0101 hf hl g1 g3 l1 l3 hd b1 b3 =>
      subst hf hl
      refine out_each (f' := 6) (rs := [1, 7]) (by rfl) (by kernel_rfl) (by simp) ?_
      refine List.forall_mem_cons.2 ⟨wpOp_step rfl (fun K hK => ?_), ?_⟩
      ·
        (try rw [if_pos (by rfl)])
        refine wp_enter (by go_simp; exact ⟨rfl, rfl⟩) ?_
        refine (ccodel_any c _).mono ?_
        rintro e wn ⟨rfl, hbn⟩
        refine ⟨_, rfl, ?_⟩
        exact hK _ _ ⟨fun _ => hd.below hbn, .s1101 _ _ _ (by rfl) (by kernel_rfl) _ _ (hd.below hbn) (b1.below_ hbn b1.size) l1 (b3.below_ hbn b3.size) l3⟩
      refine List.forall_mem_cons.2 ⟨wpOp_step rfl (fun K hK => ?_), ?_⟩
      ·
        (try rw [if_pos (by rfl)])
        go_simp
        exact hK _ _ ⟨fun _ => hd.alloc_ _, .s0111 _ _ _ (by rfl) (by kernel_rfl) _ _ _ (hd.alloc_ _) (b1.alloc_ _) l1 (Blk.made wz _ _) hd.be.size (b3.alloc_ _) l3⟩
      exact fun _ h => by cases h
    case s0110 hf hl g1 g2 l1 l2 hd b1 b2 =>
      subst hf hl
      refine out_each (f' := 6) (rs := [1, 8]) (by rfl) (by kernel_rfl) (by simp) ?_
      refine List.forall_mem_cons.2 ⟨wpOp_step rfl (fun K hK => ?_), ?_⟩
      ·
        (try rw [if_pos (by rfl)])
        refine wp_enter (by go_simp; exact ⟨rfl, rfl⟩) ?_
        refine (ccodel_any c _).mono ?_
        rintro e wn ⟨rfl, hbn⟩
        refine ⟨_, rfl, ?_⟩
        exact hK _ _ ⟨fun _ => hd.below hbn, .s1110 _ _ _ (by rfl) (by kernel_rfl) _ _ (hd.below hbn) (b1.below_ hbn b1.size) l1 (b2.below_ hbn b2.size) l2⟩
      refine List.forall_mem_cons.2 ⟨wpOp_step rfl (fun K hK => ?_), ?_⟩
      ·
        (try rw [if_pos (by rfl)])
        go_simp
        exact hK _ _ ⟨fun _ => hd.alloc_ _, .s0111 _ _ _ (by rfl) (by kernel_rfl) _ _ _ (hd.alloc_ _) (b1.alloc_ _) l1 (b2.alloc_ _) l2 (Blk.made wz _ _) hd.be.size⟩
      exact fun _ h => by cases h
    case s0111 hf hl g1 g2 g3 l1 l2 l3 hd b1 b2 b3 =>
      subst hf hl
      refine out_each (f' := 5) (rs := [1]) (by rfl) (by kernel_rfl) (by simp) ?_
      refine List.forall_mem_cons.2 ⟨wpOp_step rfl (fun K hK => ?_), ?_⟩
      ·
        (try rw [if_pos (by rfl)])
        refine wp_enter (by go_simp; exact ⟨rfl, rfl⟩) ?_
        refine (ccodel_any c _).mono ?_
        rintro e wn ⟨rfl, hbn⟩
        refine ⟨_, rfl, ?_⟩
        exact hK _ _ ⟨fun _ => hd.below hbn, .s1111 _ _ _ (by rfl) (by kernel_rfl) _ _ _ (hd.below hbn) (b1.below_ hbn b1.size) l1 (b2.below_ hbn b2.size) l2 (b3.below_ hbn b3.size) l3⟩
      exact fun _ h => by cases h
    case s1000 hf hl hd =>
      subst hf hl
      refine out_each (f' := 7) (rs := [3, 6, 7, 8]) (by rfl) (by kernel_rfl) (by simp) ?_
      refine List.forall_mem_cons.2 ⟨wpOp_step rfl (fun K hK => ?_), ?_⟩
      ·
        (try rw [if_pos (by rfl)])
        refine wp_enter (by go_simp; exact ⟨rfl, rfl⟩) ?_
        refine (cmode_any c _).mono ?_
        rintro e wn ⟨rfl, hbn⟩
        refine ⟨_, rfl, ?_⟩
        exact hK _ _ ⟨fun _ => hd.below hbn, .s2000 _ _ _ (by rfl) (by kernel_rfl)  (hd.below hbn) ⟩
      refine List.forall_mem_cons.2 ⟨wpOp_step rfl (fun K hK => ?_), ?_⟩
      ·
        (try rw [if_pos (by rfl)])
        go_simp
        exact hK _ _ ⟨fun _ => hd.alloc_ _, .s1100 _ _ _ (by rfl) (by kernel_rfl) _ (hd.alloc_ _) (Blk.made wz _ _) hd.be.size⟩
      refine List.forall_mem_cons.2 ⟨wpOp_step rfl (fun K hK => ?_), ?_⟩
      ·
        (try rw [if_pos (by rfl)])
        go_simp
        exact hK _ _ ⟨fun _ => hd.alloc_ _, .s1010 _ _ _ (by rfl) (by kernel_rfl) _ (hd.alloc_ _) (Blk.made wz _ _) hd.be.size⟩
      refine List.forall_mem_cons.2 ⟨wpOp_step rfl (fun K hK => ?_), ?_⟩
      ·
        (try rw [if_pos (by rfl)])
        go_simp
        exact hK _ _ ⟨fun _ => hd.alloc_ _, .s1001 _ _ _ (by rfl) (by kernel_rfl) _ (hd.alloc_ _) (Blk.made wz _ _) hd.be.size⟩
      exact fun _ h => by cases h
    case s1001 hf hl g3 l3 hd b3 =>
      subst hf hl
      refine out_each (f' := 6) (rs := [3, 6, 7]) (by rfl) (by kernel_rfl) (by simp) ?_
      refine List.forall_mem_cons.2 ⟨wpOp_step rfl (fun K hK => ?_), ?_⟩
      ·
        (try rw [if_pos (by rfl)])
        refine wp_enter (by go_simp; exact ⟨rfl, rfl⟩) ?_
        refine (cmode_any c _).mono ?_
        rintro e wn ⟨rfl, hbn⟩
        refine ⟨_, rfl, ?_⟩
        exact hK _ _ ⟨fun _ => hd.below hbn, .s2001 _ _ _ (by rfl) (by kernel_rfl) _ (hd.below hbn) (b3.below_ hbn b3.size) l3⟩
      refine List.forall_mem_cons.2 ⟨wpOp_step rfl (fun K hK => ?_), ?_⟩
      ·
        (try rw [if_pos (by rfl)])
        go_simp
        exact hK _ _ ⟨fun _ => hd.alloc_ _, .s1101 _ _ _ (by rfl) (by kernel_rfl) _ _ (hd.alloc_ _) (Blk.made wz _ _) hd.be.size (b3.alloc_ _) l3⟩
      refine List.forall_mem_cons.2 ⟨wpOp_step rfl (fun K hK => ?_), ?_⟩
      ·
        (try rw [if_pos (by rfl)])
        go_simp
        exact hK _ _ ⟨fun _ => hd.alloc_ _, .s1011 _ _ _ (by rfl) (by kernel_rfl) _ _ (hd.alloc_ _) (Blk.made wz _ _) hd.be.size (b3.alloc_ _) l3⟩
      exact fun _ h => by cases h
    case s1010 hf hl g2 l2 hd b2 =>
      subst hf hl
      refine out_each (f' := 6) (rs := [3, 6, 8]) (by rfl) (by kernel_rfl) (by simp) ?_
      refine List.forall_mem_cons.2 ⟨wpOp_step rfl (fun K hK => ?_), ?_⟩
      ·
        (try rw [if_pos (by rfl)])
        refine wp_enter (by go_simp; exact ⟨rfl, rfl⟩) ?_
        refine (cmode_any c _).mono ?_
        rintro e wn ⟨rfl, hbn⟩
        refine ⟨_, rfl, ?_⟩
        exact hK _ _ ⟨fun _ => hd.below hbn, .s2010 _ _ _ (by rfl) (by kernel_rfl) _ (hd.below hbn) (b2.below_ hbn b2.size) l2⟩
      refine List.forall_mem_cons.2 ⟨wpOp_step rfl (fun K hK => ?_), ?_⟩
      ·
        (try rw [if_pos (by rfl)])
        go_simp
        exact hK _ _ ⟨fun _ => hd.alloc_ _, .s1110 _ _ _ (by rfl) (by kernel_rfl) _ _ (hd.alloc_ _) (Blk.made wz _ _) hd.be.size (b2.alloc_ _) l2⟩
      refine List.forall_mem_cons.2 ⟨wpOp_step rfl (fun K hK => ?_), ?_⟩
      ·
        (try rw [if_pos (by rfl)])
        go_simp
        exact hK _ _ ⟨fun _ => hd.alloc_ _, .s1011 _ _ _ (by rfl) (by kernel_rfl) _ _ (hd.alloc_ _) (b2.alloc_ _) l2 (Blk.made wz _ _) hd.be.size⟩
      exact fun _ h => by cases h
    case s1011 hf hl g2 g3 l2 l3 hd b2 b3 =>
      subst hf hl
      refine out_each (f' := 5) (rs := [3, 6]) (by rfl) (by kernel_rfl) (by simp) ?_
      refine List.forall_mem_cons.2 ⟨wpOp_step rfl (fun K hK => ?_), ?_⟩
      ·
        (try rw [if_pos (by rfl)])
        refine wp_enter (by go_simp; exact ⟨rfl, rfl⟩) ?_
        refine (cmode_any c _).mono ?_
        rintro e wn ⟨rfl, hbn⟩
        refine ⟨_, rfl, ?_⟩
        exact hK _ _ ⟨fun _ => hd.below hbn, .s2011 _ _ _ (by rfl) (by kernel_rfl) _ _ (hd.below hbn) (b2.below_ hbn b2.size) l2 (b3.below_ hbn b3.size) l3⟩
      refine List.forall_mem_cons.2 ⟨wpOp_step rfl (fun K hK => ?_), ?_⟩
      ·
        (try rw [if_pos (by rfl)])
        go_simp
        exact hK _ _ ⟨fun _ => hd.alloc_ _, .s1111 _ _ _ (by rfl) (by kernel_rfl) _ _ _ (hd.alloc_ _) (Blk.made wz _ _) hd.be.size (b2.alloc_ _) l2 (b3.alloc_ _) l3⟩
      exact fun _ h => by cases h
    case s1100 hf hl g1 l1 hd b1 =>
      subst hf hl
      refine out_each (f' := 6) (rs := [3, 7, 8]) (by rfl) (by kernel_rfl) (by simp) ?_
      refine List.forall_mem_cons.2 ⟨wpOp_step rfl (fun K hK => ?_), ?_⟩
      ·
        (try rw [if_pos (by rfl)])
        refine wp_enter (by go_simp; exact ⟨rfl, rfl⟩) ?_
        refine (cmode_any c _).mono ?_
        rintro e wn ⟨rfl, hbn⟩
        refine ⟨_, rfl, ?_⟩
        exact hK _ _ ⟨fun _ => hd.below hbn, .s2100 _ _ _ (by rfl) (by kernel_rfl) _ (hd.below hbn) (b1.below_ hbn b1.size) l1⟩
      refine List.forall_mem_cons.2 ⟨wpOp_step rfl (fun K hK => ?_), ?_⟩
      ·
        (try rw [if_pos (by rfl)])
        go_simp
        exact hK _ _ ⟨fun _ => hd.alloc_ _, .s1110 _ _ _ (by rfl) (by kernel_rfl) _ _ (hd.alloc_ _) (b1.alloc_ _) l1 (Blk.made wz _ _) hd.be.size⟩
      refine List.forall_mem_cons.2 ⟨wpOp_step rfl (fun K hK => ?_), ?_⟩
      ·
        (try rw [if_pos (by rfl)])
        go_simp
        exact hK _ _ ⟨fun _ => hd.alloc_ _, .s1101 _ _ _ (by rfl) (by kernel_rfl) _ _ (hd.alloc_ _) (b1.alloc_ _) l1 (Blk.made wz _ _) hd.be.size⟩
      exact fun _ h => by cases h
    case s1101 hf hl g1 g3 l1 l3 hd b1 b3 =>
      subst hf hl
      refine out_each (f' := 5) (rs := [3, 7]) (by rfl) (by kernel_rfl) (by simp) ?_
      refine List.forall_mem_cons.2 ⟨wpOp_step rfl (fun K hK => ?_), ?_⟩
      ·
        (try rw [if_pos (by rfl)])
        refine wp_enter (by go_simp; exact ⟨rfl, rfl⟩) ?_
        refine (cmode_any c _).mono ?_
        rintro e wn ⟨rfl, hbn⟩
        refine ⟨_, rfl, ?_⟩
        exact hK _ _ ⟨fun _ => hd.below hbn, .s2101 _ _ _ (by rfl) (by kernel_rfl) _ _ (hd.below hbn) (b1.below_ hbn b1.size) l1 (b3.below_ hbn b3.size) l3⟩
      refine List.forall_mem_cons.2 ⟨wpOp_step rfl (fun K hK => ?_), ?_⟩
      ·
        (try rw [if_pos (by rfl)])
        go_simp
        exact hK _ _ ⟨fun _ => hd.alloc_ _, .s1111 _ _ _ (by rfl) (by kernel_rfl) _ _ _ (hd.alloc_ _) (b1.alloc_ _) l1 (Blk.made wz _ _) hd.be.size (b3.alloc_ _) l3⟩
      exact fun _ h => by cases h
    case s1110 hf hl g1 g2 l1 l2 hd b1 b2 =>
      subst hf hl
      refine out_each (f' := 5) (rs := [3, 8]) (by rfl) (by kernel_rfl) (by simp) ?_
      refine List.forall_mem_cons.2 ⟨wpOp_step rfl (fun K hK => ?_), ?_⟩
      ·
        (try rw [if_pos (by rfl)])
        refine wp_enter (by go_simp; exact ⟨rfl, rfl⟩) ?_
        refine (cmode_any c _).mono ?_
        rintro e wn ⟨rfl, hbn⟩
        refine ⟨_, rfl, ?_⟩
        exact hK _ _ ⟨fun _ => hd.below hbn, .s2110 _ _ _ (by rfl) (by kernel_rfl) _ _ (hd.below hbn) (b1.below_ hbn b1.size) l1 (b2.below_ hbn b2.size) l2⟩
      refine List.forall_mem_cons.2 ⟨wpOp_step rfl (fun K hK => ?_), ?_⟩
      ·
        (try rw [if_pos (by rfl)])
        go_simp
        exact hK _ _ ⟨fun _ => hd.alloc_ _, .s1111 _ _ _ (by rfl) (by kernel_rfl) _ _ _ (hd.alloc_ _) (b1.alloc_ _) l1 (b2.alloc_ _) l2 (Blk.made wz _ _) hd.be.size⟩
      exact fun _ h => by cases h
    case s1111 hf hl g1 g2 g3 l1 l2 l3 hd b1 b2 b3 =>
      subst hf hl
      refine out_each (f' := 4) (rs := [3]) (by rfl) (by kernel_rfl) (by simp) ?_
      refine List.forall_mem_cons.2 ⟨wpOp_step rfl (fun K hK => ?_), ?_⟩
      ·
        (try rw [if_pos (by rfl)])
        refine wp_enter (by go_simp; exact ⟨rfl, rfl⟩) ?_
        refine (cmode_any c _).mono ?_
        rintro e wn ⟨rfl, hbn⟩
        refine ⟨_, rfl, ?_⟩
        exact hK _ _ ⟨fun _ => hd.below hbn, .s2111 _ _ _ (by rfl) (by kernel_rfl) _ _ _ (hd.below hbn) (b1.below_ hbn b1.size) l1 (b2.below_ hbn b2.size) l2 (b3.below_ hbn b3.size) l3⟩
      exact fun _ h => by cases h
    case s2000 hf hl hd =>
      subst hf hl
      refine out_each (f' := 6) (rs := [5, 6, 7, 8]) (by rfl) (by kernel_rfl) (by simp) ?_
      refine List.forall_mem_cons.2 ⟨wpOp_step rfl (fun K hK => ?_), ?_⟩
      ·
        (try rw [if_pos (by rfl)])
        refine wp_enter (by go_simp; exact ⟨rfl, rfl⟩) ?_
        refine (cpid_any c _).mono ?_
        rintro e wn ⟨rfl, hbn⟩
        refine ⟨_, rfl, ?_⟩
        exact hK _ _ ⟨fun _ => hd.below hbn, .s3000 _ _ _ (by rfl) (by kernel_rfl)  (hd.below hbn) ⟩
      refine List.forall_mem_cons.2 ⟨wpOp_step rfl (fun K hK => ?_), ?_⟩
      ·
        (try rw [if_pos (by rfl)])
        go_simp
        exact hK _ _ ⟨fun _ => hd.alloc_ _, .s2100 _ _ _ (by rfl) (by kernel_rfl) _ (hd.alloc_ _) (Blk.made wz _ _) hd.be.size⟩
      refine List.forall_mem_cons.2 ⟨wpOp_step rfl (fun K hK => ?_), ?_⟩
      ·
        (try rw [if_pos (by rfl)])
        go_simp
        exact hK _ _ ⟨fun _ => hd.alloc_ _, .s2010 _ _ _ (by rfl) (by kernel_rfl) _ (hd.alloc_ _) (Blk.made wz _ _) hd.be.size⟩
      refine List.forall_mem_cons.2 ⟨wpOp_step rfl (fun K hK => ?_), ?_⟩
      ·
        (try rw [if_pos (by rfl)])
        go_simp
        exact hK _ _ ⟨fun _ => hd.alloc_ _, .s2001 _ _ _ (by rfl) (by kernel_rfl) _ (hd.alloc_ _) (Blk.made wz _ _) hd.be.size⟩
      exact fun _ h => by cases h
    case s2001 hf hl g3 l3 hd b3 =>
      subst hf hl
      refine out_each (f' := 5) (rs := [5, 6, 7]) (by rfl) (by kernel_rfl) (by simp) ?_
      refine List.forall_mem_cons.2 ⟨wpOp_step rfl (fun K hK => ?_), ?_⟩
      ·
        (try rw [if_pos (by rfl)])
        refine wp_enter (by go_simp; exact ⟨rfl, rfl⟩) ?_
        refine (cpid_any c _).mono ?_
        rintro e wn ⟨rfl, hbn⟩
        refine ⟨_, rfl, ?_⟩
        exact hK _ _ ⟨fun _ => hd.below hbn, .s3001 _ _ _ (by rfl) (by kernel_rfl) _ (hd.below hbn) (b3.below_ hbn b3.size) l3⟩
      refine List.forall_mem_cons.2 ⟨wpOp_step rfl (fun K hK => ?_), ?_⟩
      ·
        (try rw [if_pos (by rfl)])
        go_simp
        exact hK _ _ ⟨fun _ => hd.alloc_ _, .s2101 _ _ _ (by rfl) (by kernel_rfl) _ _ (hd.alloc_ _) (Blk.made wz _ _) hd.be.size (b3.alloc_ _) l3⟩
      refine List.forall_mem_cons.2 ⟨wpOp_step rfl (fun K hK => ?_), ?_⟩
      ·
        (try rw [if_pos (by rfl)])
        go_simp
        exact hK _ _ ⟨fun _ => hd.alloc_ _, .s2011 _ _ _ (by rfl) (by kernel_rfl) _ _ (hd.alloc_ _) (Blk.made wz _ _) hd.be.size (b3.alloc_ _) l3⟩
      exact fun _ h => by cases h
    case s2010 hf hl g2 l2 hd b2 =>
      subst hf hl
      refine out_each (f' := 5) (rs := [5, 6, 8]) (by rfl) (by kernel_rfl) (by simp) ?_
      refine List.forall_mem_cons.2 ⟨wpOp_step rfl (fun K hK => ?_), ?_⟩
      ·
        (try rw [if_pos (by rfl)])
        refine wp_enter (by go_simp; exact ⟨rfl, rfl⟩) ?_
        refine (cpid_any c _).mono ?_
        rintro e wn ⟨rfl, hbn⟩
        refine ⟨_, rfl, ?_⟩
        exact hK _ _ ⟨fun _ => hd.below hbn, .s3010 _ _ _ (by rfl) (by kernel_rfl) _ (hd.below hbn) (b2.below_ hbn b2.size) l2⟩
      refine List.forall_mem_cons.2 ⟨wpOp_step rfl (fun K hK => ?_), ?_⟩
      ·
        (try rw [if_pos (by rfl)])
        go_simp
        exact hK _ _ ⟨fun _ => hd.alloc_ _, .s2110 _ _ _ (by rfl) (by kernel_rfl) _ _ (hd.alloc_ _) (Blk.made wz _ _) hd.be.size (b2.alloc_ _) l2⟩
      refine List.forall_mem_cons.2 ⟨wpOp_step rfl (fun K hK => ?_), ?_⟩
      ·
        (try rw [if_pos (by rfl)])
        go_simp
        exact hK _ _ ⟨fun _ => hd.alloc_ _, .s2011 _ _ _ (by rfl) (by kernel_rfl) _ _ (hd.alloc_ _) (b2.alloc_ _) l2 (Blk.made wz _ _) hd.be.size⟩
      exact fun _ h => by cases h
    case s2011 hf hl g2 g3 l2 l3 hd b2 b3 =>
      subst hf hl
      refine out_each (f' := 4) (rs := [5, 6]) (by rfl) (by kernel_rfl) (by simp) ?_
      refine List.forall_mem_cons.2 ⟨wpOp_step rfl (fun K hK => ?_), ?_⟩
      ·
        (try rw [if_pos (by rfl)])
        refine wp_enter (by go_simp; exact ⟨rfl, rfl⟩) ?_
        refine (cpid_any c _).mono ?_
        rintro e wn ⟨rfl, hbn⟩
        refine ⟨_, rfl, ?_⟩
        exact hK _ _ ⟨fun _ => hd.below hbn, .s3011 _ _ _ (by rfl) (by kernel_rfl) _ _ (hd.below hbn) (b2.below_ hbn b2.size) l2 (b3.below_ hbn b3.size) l3⟩
      refine List.forall_mem_cons.2 ⟨wpOp_step rfl (fun K hK => ?_), ?_⟩
      ·
        (try rw [if_pos (by rfl)])
        go_simp
        exact hK _ _ ⟨fun _ => hd.alloc_ _, .s2111 _ _ _ (by rfl) (by kernel_rfl) _ _ _ (hd.alloc_ _) (Blk.made wz _ _) hd.be.size (b2.alloc_ _) l2 (b3.alloc_ _) l3⟩
      exact fun _ h => by cases h
    case s2100 hf hl g1 l1 hd b1 =>
      subst hf hl
      refine out_each (f' := 5) (rs := [5, 7, 8]) (by rfl) (by kernel_rfl) (by simp) ?_
      refine List.forall_mem_cons.2 ⟨wpOp_step rfl (fun K hK => ?_), ?_⟩
      ·
        (try rw [if_pos (by rfl)])
        refine wp_enter (by go_simp; exact ⟨rfl, rfl⟩) ?_
        refine (cpid_any c _).mono ?_
        rintro e wn ⟨rfl, hbn⟩
        refine ⟨_, rfl, ?_⟩
        exact hK _ _ ⟨fun _ => hd.below hbn, .s3100 _ _ _ (by rfl) (by kernel_rfl) _ (hd.below hbn) (b1.below_ hbn b1.size) l1⟩
      refine List.forall_mem_cons.2 ⟨wpOp_step rfl (fun K hK => ?_), ?_⟩
      ·
        (try rw [if_pos (by rfl)])
        go_simp
        exact hK _ _ ⟨fun _ => hd.alloc_ _, .s2110 _ _ _ (by rfl) (by kernel_rfl) _ _ (hd.alloc_ _) (b1.alloc_ _) l1 (Blk.made wz _ _) hd.be.size⟩
      refine List.forall_mem_cons.2 ⟨wpOp_step rfl (fun K hK => ?_), ?_⟩
      ·
        (try rw [if_pos (by rfl)])
        go_simp
        exact hK _ _ ⟨fun _ => hd.alloc_ _, .s2101 _ _ _ (by rfl) (by kernel_rfl) _ _ (hd.alloc_ _) (b1.alloc_ _) l1 (Blk.made wz _ _) hd.be.size⟩
      exact fun _ h => by cases h
    case s2101 hf hl g1 g3 l1 l3 hd b1 b3 =>
      subst hf hl
      refine out_each (f' := 4) (rs := [5, 7]) (by rfl) (by kernel_rfl) (by simp) ?_
      refine List.forall_mem_cons.2 ⟨wpOp_step rfl (fun K hK => ?_), ?_⟩
      ·
        (try rw [if_pos (by rfl)])
        refine wp_enter (by go_simp; exact ⟨rfl, rfl⟩) ?_
        refine (cpid_any c _).mono ?_
        rintro e wn ⟨rfl, hbn⟩
        refine ⟨_, rfl, ?_⟩
        exact hK _ _ ⟨fun _ => hd.below hbn, .s3101 _ _ _ (by rfl) (by kernel_rfl) _ _ (hd.below hbn) (b1.below_ hbn b1.size) l1 (b3.below_ hbn b3.size) l3⟩
      refine List.forall_mem_cons.2 ⟨wpOp_step rfl (fun K hK => ?_), ?_⟩
      ·
        (try rw [if_pos (by rfl)])
        go_simp
        exact hK _ _ ⟨fun _ => hd.alloc_ _, .s2111 _ _ _ (by rfl) (by kernel_rfl) _ _ _ (hd.alloc_ _) (b1.alloc_ _) l1 (Blk.made wz _ _) hd.be.size (b3.alloc_ _) l3⟩
      exact fun _ h => by cases h
    case s2110 hf hl g1 g2 l1 l2 hd b1 b2 =>
      subst hf hl
      refine out_each (f' := 4) (rs := [5, 8]) (by rfl) (by kernel_rfl) (by simp) ?_
      refine List.forall_mem_cons.2 ⟨wpOp_step rfl (fun K hK => ?_), ?_⟩
      ·
        (try rw [if_pos (by rfl)])
        refine wp_enter (by go_simp; exact ⟨rfl, rfl⟩) ?_
        refine (cpid_any c _).mono ?_
        rintro e wn ⟨rfl, hbn⟩
        refine ⟨_, rfl, ?_⟩
        exact hK _ _ ⟨fun _ => hd.below hbn, .s3110 _ _ _ (by rfl) (by kernel_rfl) _ _ (hd.below hbn) (b1.below_ hbn b1.size) l1 (b2.below_ hbn b2.size) l2⟩
      refine List.forall_mem_cons.2 ⟨wpOp_step rfl (fun K hK => ?_), ?_⟩
      ·
        (try rw [if_pos (by rfl)])
        go_simp
        exact hK _ _ ⟨fun _ => hd.alloc_ _, .s2111 _ _ _ (by rfl) (by kernel_rfl) _ _ _ (hd.alloc_ _) (b1.alloc_ _) l1 (b2.alloc_ _) l2 (Blk.made wz _ _) hd.be.size⟩
      exact fun _ h => by cases h
    case s2111 hf hl g1 g2 g3 l1 l2 l3 hd b1 b2 b3 =>
      subst hf hl
      refine out_each (f' := 3) (rs := [5]) (by rfl) (by kernel_rfl) (by simp) ?_
      refine List.forall_mem_cons.2 ⟨wpOp_step rfl (fun K hK => ?_), ?_⟩
      ·
        (try rw [if_pos (by rfl)])
        refine wp_enter (by go_simp; exact ⟨rfl, rfl⟩) ?_
        refine (cpid_any c _).mono ?_
        rintro e wn ⟨rfl, hbn⟩
        refine ⟨_, rfl, ?_⟩
        exact hK _ _ ⟨fun _ => hd.below hbn, .s3111 _ _ _ (by rfl) (by kernel_rfl) _ _ _ (hd.below hbn) (b1.below_ hbn b1.size) l1 (b2.below_ hbn b2.size) l2 (b3.below_ hbn b3.size) l3⟩
      exact fun _ h => by cases h
    case s3000 hf hl hd =>
      subst hf hl
      refine out_each (f' := 5) (rs := [6, 7, 8]) (by rfl) (by kernel_rfl) (by simp) ?_
      refine List.forall_mem_cons.2 ⟨wpOp_step rfl (fun K hK => ?_), ?_⟩
      ·
        (try rw [if_pos (by rfl)])
        go_simp
        exact hK _ _ ⟨fun _ => hd.alloc_ _, .s3100 _ _ _ (by rfl) (by kernel_rfl) _ (hd.alloc_ _) (Blk.made wz _ _) hd.be.size⟩
      refine List.forall_mem_cons.2 ⟨wpOp_step rfl (fun K hK => ?_), ?_⟩
      ·
        (try rw [if_pos (by rfl)])
        go_simp
        exact hK _ _ ⟨fun _ => hd.alloc_ _, .s3010 _ _ _ (by rfl) (by kernel_rfl) _ (hd.alloc_ _) (Blk.made wz _ _) hd.be.size⟩
      refine List.forall_mem_cons.2 ⟨wpOp_step rfl (fun K hK => ?_), ?_⟩
      ·
        (try rw [if_pos (by rfl)])
        go_simp
        exact hK _ _ ⟨fun _ => hd.alloc_ _, .s3001 _ _ _ (by rfl) (by kernel_rfl) _ (hd.alloc_ _) (Blk.made wz _ _) hd.be.size⟩
      exact fun _ h => by cases h
    case s3001 hf hl g3 l3 hd b3 =>
      subst hf hl
      refine out_each (f' := 4) (rs := [6, 7]) (by rfl) (by kernel_rfl) (by simp) ?_
      refine List.forall_mem_cons.2 ⟨wpOp_step rfl (fun K hK => ?_), ?_⟩
      ·
        (try rw [if_pos (by rfl)])
        go_simp
        exact hK _ _ ⟨fun _ => hd.alloc_ _, .s3101 _ _ _ (by rfl) (by kernel_rfl) _ _ (hd.alloc_ _) (Blk.made wz _ _) hd.be.size (b3.alloc_ _) l3⟩
      refine List.forall_mem_cons.2 ⟨wpOp_step rfl (fun K hK => ?_), ?_⟩
      ·
        (try rw [if_pos (by rfl)])
        go_simp
        exact hK _ _ ⟨fun _ => hd.alloc_ _, .s3011 _ _ _ (by rfl) (by kernel_rfl) _ _ (hd.alloc_ _) (Blk.made wz _ _) hd.be.size (b3.alloc_ _) l3⟩
      exact fun _ h => by cases h
    case s3010 hf hl g2 l2 hd b2 =>
      subst hf hl
      refine out_each (f' := 4) (rs := [6, 8]) (by rfl) (by kernel_rfl) (by simp) ?_
      refine List.forall_mem_cons.2 ⟨wpOp_step rfl (fun K hK => ?_), ?_⟩
      ·
        (try rw [if_pos (by rfl)])
        go_simp
        exact hK _ _ ⟨fun _ => hd.alloc_ _, .s3110 _ _ _ (by rfl) (by kernel_rfl) _ _ (hd.alloc_ _) (Blk.made wz _ _) hd.be.size (b2.alloc_ _) l2⟩
      refine List.forall_mem_cons.2 ⟨wpOp_step rfl (fun K hK => ?_), ?_⟩
      ·
        (try rw [if_pos (by rfl)])
        go_simp
        exact hK _ _ ⟨fun _ => hd.alloc_ _, .s3011 _ _ _ (by rfl) (by kernel_rfl) _ _ (hd.alloc_ _) (b2.alloc_ _) l2 (Blk.made wz _ _) hd.be.size⟩
      exact fun _ h => by cases h
    case s3011 hf hl g2 g3 l2 l3 hd b2 b3 =>
      subst hf hl
      refine out_each (f' := 3) (rs := [6]) (by rfl) (by kernel_rfl) (by simp) ?_
      refine List.forall_mem_cons.2 ⟨wpOp_step rfl (fun K hK => ?_), ?_⟩
      ·
        (try rw [if_pos (by rfl)])
        go_simp
        exact hK _ _ ⟨fun _ => hd.alloc_ _, .s3111 _ _ _ (by rfl) (by kernel_rfl) _ _ _ (hd.alloc_ _) (Blk.made wz _ _) hd.be.size (b2.alloc_ _) l2 (b3.alloc_ _) l3⟩
      exact fun _ h => by cases h
    case s3100 hf hl g1 l1 hd b1 =>
      subst hf hl
      refine out_each (f' := 4) (rs := [7, 8]) (by rfl) (by kernel_rfl) (by simp) ?_
      refine List.forall_mem_cons.2 ⟨wpOp_step rfl (fun K hK => ?_), ?_⟩
      ·
        (try rw [if_pos (by rfl)])
        go_simp
        exact hK _ _ ⟨fun _ => hd.alloc_ _, .s3110 _ _ _ (by rfl) (by kernel_rfl) _ _ (hd.alloc_ _) (b1.alloc_ _) l1 (Blk.made wz _ _) hd.be.size⟩
      refine List.forall_mem_cons.2 ⟨wpOp_step rfl (fun K hK => ?_), ?_⟩
      ·
        (try rw [if_pos (by rfl)])
        go_simp
        exact hK _ _ ⟨fun _ => hd.alloc_ _, .s3101 _ _ _ (by rfl) (by kernel_rfl) _ _ (hd.alloc_ _) (b1.alloc_ _) l1 (Blk.made wz _ _) hd.be.size⟩
      exact fun _ h => by cases h
    case s3101 hf hl g1 g3 l1 l3 hd b1 b3 =>
      subst hf hl
      refine out_each (f' := 3) (rs := [7]) (by rfl) (by kernel_rfl) (by simp) ?_
      refine List.forall_mem_cons.2 ⟨wpOp_step rfl (fun K hK => ?_), ?_⟩
      ·
        (try rw [if_pos (by rfl)])
        go_simp
        exact hK _ _ ⟨fun _ => hd.alloc_ _, .s3111 _ _ _ (by rfl) (by kernel_rfl) _ _ _ (hd.alloc_ _) (b1.alloc_ _) l1 (Blk.made wz _ _) hd.be.size (b3.alloc_ _) l3⟩
      exact fun _ h => by cases h
    case s3110 hf hl g1 g2 l1 l2 hd b1 b2 =>
      subst hf hl
      refine out_each (f' := 3) (rs := [8]) (by rfl) (by kernel_rfl) (by simp) ?_
      refine List.forall_mem_cons.2 ⟨wpOp_step rfl (fun K hK => ?_), ?_⟩
      ·
        (try rw [if_pos (by rfl)])
        go_simp
        exact hK _ _ ⟨fun _ => hd.alloc_ _, .s3111 _ _ _ (by rfl) (by kernel_rfl) _ _ _ (hd.alloc_ _) (b1.alloc_ _) l1 (b2.alloc_ _) l2 (Blk.made wz _ _) hd.be.size⟩
      exact fun _ h => by cases h
    case s3111 hf hl g1 g2 g3 l1 l2 l3 hd b1 b2 b3 =>
      subst hf hl
      refine .inl (fun hShut => ?_)
      have k1_0 : wz.cell? ⟨g1, 0, none⟩ = some (.int .i64 0) := b1.val (i := 0) rfl
      have k1_1 : wz.cell? ⟨g1, 1, none⟩ = some (.int .i64 0) := b1.val (i := 1) rfl
      have z1 := b1.free
      have u1 := b1.size
      have k2_0 : wz.cell? ⟨g2, 0, none⟩ = some (.int .i64 0) := b2.val (i := 0) rfl
      have k2_1 : wz.cell? ⟨g2, 1, none⟩ = some (.int .i64 0) := b2.val (i := 1) rfl
      have k2_2 : wz.cell? ⟨g2, 2, none⟩ = some (.int .i64 0) := b2.val (i := 2) rfl
      have z2 := b2.free
      have u2 := b2.size
      have k3_0 : wz.cell? ⟨g3, 0, none⟩ = some (.int .i64 0) := b3.val (i := 0) rfl
      have k3_1 : wz.cell? ⟨g3, 1, none⟩ = some (.int .i64 0) := b3.val (i := 1) rfl
      have k3_2 : wz.cell? ⟨g3, 2, none⟩ = some (.int .i64 0) := b3.val (i := 2) rfl
      have k3_3 : wz.cell? ⟨g3, 3, none⟩ = some (.int .i64 0) := b3.val (i := 3) rfl
      have k3_4 : wz.cell? ⟨g3, 4, none⟩ = some (.int .i64 0) := b3.val (i := 4) rfl
      have k3_5 : wz.cell? ⟨g3, 5, none⟩ = some (.int .i64 0) := b3.val (i := 5) rfl
      have k3_6 : wz.cell? ⟨g3, 6, none⟩ = some (.int .i64 0) := b3.val (i := 6) rfl
      have z3 := b3.free
      have u3 := b3.size
      have n12 : g1 ≠ g2 := b1.other b2 (by decide)
      have n13 : g1 ≠ g3 := b1.other b3 (by decide)
      have n23 : g2 ≠ g3 := b2.other b3 (by decide)
      have nb1 : w.heap.size ≠ g1 := hd.bx.other b1 (by decide)
      have nr1 : g ≠ g1 := hd.rw.other b1 (by decide)
      have nb2 : w.heap.size ≠ g2 := hd.bx.other b2 (by decide)
      have nr2 : g ≠ g2 := hd.rw.other b2 (by decide)
      have nb3 : w.heap.size ≠ g3 := hd.bx.other b3 (by decide)
      have nr3 : g ≠ g3 := hd.rw.other b3 (by decide)
      have hF := Lib.hid (And.intro (Blk.far (Blk.far (Blk.far (Blk.far (Blk.far (Blk.far (Blk.far (Blk.far (Blk.far (Blk.far (Blk.far (Blk.far hd.bx (p := ⟨g1, 0, none⟩) (.int .i64 c.ta) nb1) (p := ⟨g1, 1, none⟩) (.int .i64 c.iv) nb1) (p := ⟨g2, 0, none⟩) (.int .i64 c.hg) nb2) (p := ⟨g2, 1, none⟩) (.int .i64 c.lo) nb2) (p := ⟨g2, 2, none⟩) (.int .i64 c.dw) nb2) (p := ⟨g3, 0, none⟩) (.int .i64 c.sp) nb3) (p := ⟨g3, 1, none⟩) (.int .i64 c.kp) nb3) (p := ⟨g3, 2, none⟩) (.int .i64 c.ki) nb3) (p := ⟨g3, 3, none⟩) (.int .i64 c.kd) nb3) (p := ⟨g3, 4, none⟩) (.int .i64 c.lm) nb3) (p := ⟨g3, 5, none⟩) (.int .i64 c.st) nb3) (p := ⟨g3, 6, none⟩) (.int .i64 (mostW c)) nb3) (And.intro (Blk.far (Blk.far (Blk.far (Blk.far (Blk.far (Blk.far (Blk.far (Blk.far (Blk.far (Blk.far (Blk.far (Blk.far hd.rw (p := ⟨g1, 0, none⟩) (.int .i64 c.ta) nr1) (p := ⟨g1, 1, none⟩) (.int .i64 c.iv) nr1) (p := ⟨g2, 0, none⟩) (.int .i64 c.hg) nr2) (p := ⟨g2, 1, none⟩) (.int .i64 c.lo) nr2) (p := ⟨g2, 2, none⟩) (.int .i64 c.dw) nr2) (p := ⟨g3, 0, none⟩) (.int .i64 c.sp) nr3) (p := ⟨g3, 1, none⟩) (.int .i64 c.kp) nr3) (p := ⟨g3, 2, none⟩) (.int .i64 c.ki) nr3) (p := ⟨g3, 3, none⟩) (.int .i64 c.kd) nr3) (p := ⟨g3, 4, none⟩) (.int .i64 c.lm) nr3) (p := ⟨g3, 5, none⟩) (.int .i64 c.st) nr3) (p := ⟨g3, 6, none⟩) (.int .i64 (mostW c)) nr3) (And.intro (Blk.far (Blk.far (Blk.far (Blk.far (Blk.far (Blk.far (Blk.far (Blk.far (Blk.far (Blk.far ((b1.set_ 0 (.int .i64 c.ta)).set_ 1 (.int .i64 c.iv)) (p := ⟨g2, 0, none⟩) (.int .i64 c.hg) n12) (p := ⟨g2, 1, none⟩) (.int .i64 c.lo) n12) (p := ⟨g2, 2, none⟩) (.int .i64 c.dw) n12) (p := ⟨g3, 0, none⟩) (.int .i64 c.sp) n13) (p := ⟨g3, 1, none⟩) (.int .i64 c.kp) n13) (p := ⟨g3, 2, none⟩) (.int .i64 c.ki) n13) (p := ⟨g3, 3, none⟩) (.int .i64 c.kd) n13) (p := ⟨g3, 4, none⟩) (.int .i64 c.lm) n13) (p := ⟨g3, 5, none⟩) (.int .i64 c.st) n13) (p := ⟨g3, 6, none⟩) (.int .i64 (mostW c)) n13) (And.intro (Blk.far (Blk.far (Blk.far (Blk.far (Blk.far (Blk.far (Blk.far ((((Blk.far (Blk.far b2 (p := ⟨g1, 0, none⟩) (.int .i64 c.ta) n12.symm) (p := ⟨g1, 1, none⟩) (.int .i64 c.iv) n12.symm).set_ 0 (.int .i64 c.hg)).set_ 1 (.int .i64 c.lo)).set_ 2 (.int .i64 c.dw)) (p := ⟨g3, 0, none⟩) (.int .i64 c.sp) n23) (p := ⟨g3, 1, none⟩) (.int .i64 c.kp) n23) (p := ⟨g3, 2, none⟩) (.int .i64 c.ki) n23) (p := ⟨g3, 3, none⟩) (.int .i64 c.kd) n23) (p := ⟨g3, 4, none⟩) (.int .i64 c.lm) n23) (p := ⟨g3, 5, none⟩) (.int .i64 c.st) n23) (p := ⟨g3, 6, none⟩) (.int .i64 (mostW c)) n23) (And.intro ((((((((Blk.far (Blk.far (Blk.far (Blk.far (Blk.far b3 (p := ⟨g1, 0, none⟩) (.int .i64 c.ta) n13.symm) (p := ⟨g1, 1, none⟩) (.int .i64 c.iv) n13.symm) (p := ⟨g2, 0, none⟩) (.int .i64 c.hg) n23.symm) (p := ⟨g2, 1, none⟩) (.int .i64 c.lo) n23.symm) (p := ⟨g2, 2, none⟩) (.int .i64 c.dw) n23.symm).set_ 0 (.int .i64 c.sp)).set_ 1 (.int .i64 c.kp)).set_ 2 (.int .i64 c.ki)).set_ 3 (.int .i64 c.kd)).set_ 4 (.int .i64 c.lm)).set_ 5 (.int .i64 c.st)).set_ 6 (.int .i64 (mostW c))) ((((((((((((hd.be.setCell (p := ⟨g1, 0, none⟩) l1 (.int .i64 c.ta)).setCell (p := ⟨g1, 1, none⟩) l1 (.int .i64 c.iv)).setCell (p := ⟨g2, 0, none⟩) l2 (.int .i64 c.hg)).setCell (p := ⟨g2, 1, none⟩) l2 (.int .i64 c.lo)).setCell (p := ⟨g2, 2, none⟩) l2 (.int .i64 c.dw)).setCell (p := ⟨g3, 0, none⟩) l3 (.int .i64 c.sp)).setCell (p := ⟨g3, 1, none⟩) l3 (.int .i64 c.kp)).setCell (p := ⟨g3, 2, none⟩) l3 (.int .i64 c.ki)).setCell (p := ⟨g3, 3, none⟩) l3 (.int .i64 c.kd)).setCell (p := ⟨g3, 4, none⟩) l3 (.int .i64 c.lm)).setCell (p := ⟨g3, 5, none⟩) l3 (.int .i64 c.st)).setCell (p := ⟨g3, 6, none⟩) l3 (.int .i64 (mostW c))))))))
      refine anyB_each (rs := [9]) hShut (by kernel_rfl) (by simp) ?_
      refine List.forall_mem_cons.2 ⟨fun hShut => wpOp_step rfl (fun K hK => ?_), fun _ h => by cases h⟩
      (try rw [if_pos (by rfl)])
      go_simp
      refine unheld hK (by kernel_rfl) ?_
      clear hK K
      refine anyB_each (rs := [10]) hShut (by kernel_rfl) (by simp) ?_
      refine List.forall_mem_cons.2 ⟨fun hShut => wpOp_step rfl (fun K hK => ?_), fun _ h => by cases h⟩
      (try rw [if_pos (by rfl)])
      go_simp
      refine unheld hK (by kernel_rfl) ?_
      clear hK K
      refine anyB_each (rs := [11]) hShut (by kernel_rfl) (by simp) ?_
      refine List.forall_mem_cons.2 ⟨fun hShut => wpOp_step rfl (fun K hK => ?_), fun _ h => by cases h⟩
      (try rw [if_pos (by rfl)])
      go_simp
      refine unheld hK (by kernel_rfl) ?_
      clear hK K
      refine anyB_world (fun wx => CfBox wx w.heap.size c ∧ Row16 wx g c ∧ Blk wx g1 31 #[.int .i64 c.ta, .int .i64 c.iv] ∧ Blk wx g2 34 #[.int .i64 c.hg, .int .i64 c.lo, .int .i64 c.dw] ∧ Blk wx g3 37 #[.int .i64 c.sp, .int .i64 c.kp, .int .i64 c.ki, .int .i64 c.kd, .int .i64 c.lm, .int .i64 c.st, .int .i64 (mostW c)] ∧ Below w.heap.size w wx) hF.out ?_
      clear hF hShut k1_0 k1_1 k2_0 k2_1 k2_2 k3_0 k3_1 k3_2 k3_3 k3_4 k3_5 k3_6 z1 z2 z3 u1 u2 u3 b1 b2 b3 nb1 nb2 nb3 nr1 nr2 nr3 n12 n13 n23 hd
      rintro wx ⟨fb, fr, f1, f2, f3, fbe⟩
      have c0 : wx.cell? ⟨w.heap.size, 0, none⟩ = some (.int .i64 c.ti) := fb.val (i := 0) rfl
      have c1 : wx.cell? ⟨w.heap.size, 1, none⟩ = some (.int .i64 c.ro) := fb.val (i := 1) rfl
      have c2 : wx.cell? ⟨w.heap.size, 2, none⟩ = some (.int .i64 c.ta) := fb.val (i := 2) rfl
      have c3 : wx.cell? ⟨w.heap.size, 3, none⟩ = some (.int .i64 c.iv) := fb.val (i := 3) rfl
      have c4 : wx.cell? ⟨w.heap.size, 4, none⟩ = some (.int .i64 c.hg) := fb.val (i := 4) rfl
      have c5 : wx.cell? ⟨w.heap.size, 5, none⟩ = some (.int .i64 c.lo) := fb.val (i := 5) rfl
      have c6 : wx.cell? ⟨w.heap.size, 6, none⟩ = some (.int .i64 c.dw) := fb.val (i := 6) rfl
      have c7 : wx.cell? ⟨w.heap.size, 7, none⟩ = some (.int .i64 c.ho) := fb.val (i := 7) rfl
      have c8 : wx.cell? ⟨w.heap.size, 8, none⟩ = some (.int .i64 c.sp) := fb.val (i := 8) rfl
      have c9 : wx.cell? ⟨w.heap.size, 9, none⟩ = some (.int .i64 c.kp) := fb.val (i := 9) rfl
      have c10 : wx.cell? ⟨w.heap.size, 10, none⟩ = some (.int .i64 c.ki) := fb.val (i := 10) rfl
      have c11 : wx.cell? ⟨w.heap.size, 11, none⟩ = some (.int .i64 c.kd) := fb.val (i := 11) rfl
      have c12 : wx.cell? ⟨w.heap.size, 12, none⟩ = some (.int .i64 c.lm) := fb.val (i := 12) rfl
      have c13 : wx.cell? ⟨w.heap.size, 13, none⟩ = some (.int .i64 c.st) := fb.val (i := 13) rfl
      have c14 : wx.cell? ⟨w.heap.size, 14, none⟩ = some (.int .i64 c.th) := fb.val (i := 14) rfl
      have c15 : wx.cell? ⟨w.heap.size, 15, none⟩ = some (.int .i64 c.rg) := fb.val (i := 15) rfl
      have k1_0 : wx.cell? ⟨g1, 0, none⟩ = some (.int .i64 c.ta) := f1.val (i := 0) rfl
      have k1_1 : wx.cell? ⟨g1, 1, none⟩ = some (.int .i64 c.iv) := f1.val (i := 1) rfl
      have k2_0 : wx.cell? ⟨g2, 0, none⟩ = some (.int .i64 c.hg) := f2.val (i := 0) rfl
      have k2_1 : wx.cell? ⟨g2, 1, none⟩ = some (.int .i64 c.lo) := f2.val (i := 1) rfl
      have k2_2 : wx.cell? ⟨g2, 2, none⟩ = some (.int .i64 c.dw) := f2.val (i := 2) rfl
      have k3_0 : wx.cell? ⟨g3, 0, none⟩ = some (.int .i64 c.sp) := f3.val (i := 0) rfl
      have k3_1 : wx.cell? ⟨g3, 1, none⟩ = some (.int .i64 c.kp) := f3.val (i := 1) rfl
      have k3_2 : wx.cell? ⟨g3, 2, none⟩ = some (.int .i64 c.ki) := f3.val (i := 2) rfl
      have k3_3 : wx.cell? ⟨g3, 3, none⟩ = some (.int .i64 c.kd) := f3.val (i := 3) rfl
      have k3_4 : wx.cell? ⟨g3, 4, none⟩ = some (.int .i64 c.lm) := f3.val (i := 4) rfl
      have k3_5 : wx.cell? ⟨g3, 5, none⟩ = some (.int .i64 c.st) := f3.val (i := 5) rfl
      have k3_6 : wx.cell? ⟨g3, 6, none⟩ = some (.int .i64 (mostW c)) := f3.val (i := 6) rfl
      have HF := Lib.hid (And.intro fb (And.intro fr (And.intro f1 (And.intro f2 (And.intro f3 fbe)))))
      clear fb fr f1 f2 f3 fbe
      refine anyB_done (by kernel_rfl) ?_ _
      exact ⟨g1, g2, g3, rfl, rfl, HF.out⟩
end Go.Proofs.YthkkhangajiieaaDoor
