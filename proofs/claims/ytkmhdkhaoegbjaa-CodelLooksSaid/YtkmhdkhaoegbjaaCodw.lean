/- The boxes of a law of layer 8: the state, the params, a third state. -/
import Derived.Test.YtkmhdkhaoegbjaaCodv
import Derived.Test.YtkmhdkhaoegbjaaCodx
namespace Go.Proofs.Ytkmhdkhaoegbjaa
open Go.ChangeShapes Go.WideShapes Go.ChangeAt Go.RowKit Kn
set_option linter.unusedVariables false
/-- A law's boxes: the state and the params. -/
structure Ly (v w : World) (s : Cst) (t i : Int) : Prop where
  a : Stt w v.heap.size 24 s
  b : Blk w (v.heap.size + 1) 26 #[.int .i64 t, .int .i64 i]
  be : Below v.heap.size v w
section
variable {v w w' : World} {s z : Cst} {t i : Int} {g : Nat}
theorem Ly.made (w : World) (a : Bool) (f : Int) (d : Bool) (n c l t i : Int) : Ly w ((w.alloc (.cells #[.bool a, .int .i64 f, .bool d, .int .i64 n, .int .u64 c, .int .u64 l] 24)).alloc (.cells #[.int .i64 t, .int .i64 i] 26)) ⟨a, f, d, n, c, l⟩ t i :=
  ⟨(Blk.made w _ _).alloc_ _, Blk.new_ (by simp), ((Below.refl _ _).alloc (Nat.le_refl _) _).alloc (by simp) _⟩
theorem Ly.below (h : Ly v w s t i) (hb : Below w.heap.size w w') : Ly v w' s t i := ⟨Blk.below_ h.a hb (Blk.size h.a), h.b.below_ hb h.b.size, under0 h.be hb⟩
theorem Ly.alloc (h : Ly v w s t i) (o : Obj) : Ly v (w.alloc o) s t i := ⟨Blk.alloc_ h.a o, h.b.alloc_ o, h.be.alloc h.be.size _⟩
theorem Ly.drew (h : Ly v w s t i) : Ly v w.drew s t i := ⟨h.a, h.b, h.be.drew⟩
theorem Ly.drewN (h : Ly v w s t i) (n : Nat) : Ly v (w.drewN n) s t i := ⟨h.a, h.b, below_drewN h.be n⟩
theorem Ly.lt (h : Ly v w s t i) : v.heap.size + 1 < w.heap.size := h.b.size
theorem Ly.one {z : Cst} (h : Ly v w s t i) (k : Nat) (u : Value) (hs : (#[.bool s.ab, .int .i64 s.fi, .bool s.dr, .int .i64 s.ne, .int .u64 s.co, .int .u64 s.la] : Array Value).setIfInBounds k u = #[.bool z.ab, .int .i64 z.fi, .bool z.dr, .int .i64 z.ne, .int .u64 z.co, .int .u64 z.la]) : Ly v (w.setCell ⟨v.heap.size, k, none⟩ u) z t i :=
  ⟨by have h' := (show Blk _ _ _ _ from h.a).set_ k u; rw [hs] at h'; exact h', h.b.far u (by simp), h.be.setCell (Nat.le_refl _) _⟩
theorem Ly.setT (h : Ly v w s t i) (t' : Int) : Ly v (w.setCell ⟨v.heap.size + 1, 0, none⟩ (.int .i64 t')) s t' i :=
  ⟨Blk.far h.a _ (by simp), h.b.set_ 0 _, h.be.setCell (Nat.le_succ _) _⟩
theorem Ly.setI (h : Ly v w s t i) (i' : Int) : Ly v (w.setCell ⟨v.heap.size + 1, 1, none⟩ (.int .i64 i')) s t i' :=
  ⟨Blk.far h.a _ (by simp), h.b.set_ 1 _, h.be.setCell (Nat.le_succ _) _⟩
theorem Ly.far6 (h : Ly v w s t i) (hg : v.heap.size + 1 < g) (a : Bool) (f : Int) (d : Bool) (n c l : Int) : Ly v ((((((w.setCell ⟨g, 0, none⟩ (.bool a)).setCell ⟨g, 1, none⟩ (.int .i64 f)).setCell ⟨g, 2, none⟩ (.bool d)).setCell ⟨g, 3, none⟩ (.int .i64 n)).setCell ⟨g, 4, none⟩ (.int .u64 c)).setCell ⟨g, 5, none⟩ (.int .u64 l)) s t i :=
  ⟨Blk.far6 h.a (by omega) a f d n c l, h.b.far6 (by omega) a f d n c l, below6 h.be (by omega) a f d n c l⟩
theorem Ly.store (h : Ly v w s t i) (a : Bool) (f : Int) (d : Bool) (n c l : Int) : Ly v ((((((w.setCell ⟨v.heap.size, 0, none⟩ (.bool a)).setCell ⟨v.heap.size, 1, none⟩ (.int .i64 f)).setCell ⟨v.heap.size, 2, none⟩ (.bool d)).setCell ⟨v.heap.size, 3, none⟩ (.int .i64 n)).setCell ⟨v.heap.size, 4, none⟩ (.int .u64 c)).setCell ⟨v.heap.size, 5, none⟩ (.int .u64 l)) ⟨a, f, d, n, c, l⟩ t i :=
  ⟨h.a.store a f d n c l, h.b.far6 (by omega) a f d n c l, below6 h.be (Nat.le_refl _) a f d n c l⟩
theorem Ly.sfacts (h : Ly v w s t i) :
    (w.cell? ⟨v.heap.size, 0, none⟩ = some (.bool s.ab) ∧ w.cell? ⟨v.heap.size, 1, none⟩ = some (.int .i64 s.fi) ∧ w.cell? ⟨v.heap.size, 2, none⟩ = some (.bool s.dr) ∧ w.cell? ⟨v.heap.size, 3, none⟩ = some (.int .i64 s.ne) ∧ w.cell? ⟨v.heap.size, 4, none⟩ = some (.int .u64 s.co) ∧ w.cell? ⟨v.heap.size, 5, none⟩ = some (.int .u64 s.la)) ∧
    (∀ k, w.frozen? ⟨v.heap.size, k, none⟩ = false) ∧ v.heap.size < w.heap.size ∧ v.heap.size + 1 < w.heap.size :=
  ⟨six_cells (s := s) h.a, Blk.free h.a, Blk.size h.a, h.b.size⟩
theorem Ly.pfacts (h : Ly v w s t i) : (w.cell? ⟨v.heap.size + 1, 0, none⟩ = some (.int .i64 t) ∧ w.cell? ⟨v.heap.size + 1, 1, none⟩ = some (.int .i64 i)) ∧ (∀ k, w.frozen? ⟨v.heap.size + 1, k, none⟩ = false) :=
  ⟨⟨h.b.val (i := 0) rfl, h.b.val (i := 1) rfl⟩, h.b.free⟩
theorem Ly.has (h : Ly v w s t i) : v.heap.size ≤ w.heap.size := h.be.size
end
/-- A law's boxes, and a third state. -/
structure Lz (v w : World) (g : Nat) (s a : Cst) (t i : Int) : Prop where
  l : Ly v w s t i
  c : Stt w g 24 a
  hg : v.heap.size + 1 < g
section
variable {v w w' : World} {s a : Cst} {t i : Int} {g : Nat}
theorem Lz.made (h : Ly v w s t i) (a : Bool) (f : Int) (d : Bool) (n c l : Int) : Lz v (w.alloc (.cells #[.bool a, .int .i64 f, .bool d, .int .i64 n, .int .u64 c, .int .u64 l] 24)) w.heap.size s ⟨a, f, d, n, c, l⟩ t i :=
  ⟨h.alloc _, Blk.made w _ _, h.lt⟩
theorem Lz.below (h : Lz v w g s a t i) (hb : Below w.heap.size w w') : Lz v w' g s a t i := ⟨h.l.below hb, Blk.below_ h.c hb (Blk.size h.c), h.hg⟩
theorem Lz.drew (h : Lz v w g s a t i) : Lz v w.drew g s a t i := ⟨h.l.drew, h.c, h.hg⟩
theorem Lz.drewN (h : Lz v w g s a t i) (n : Nat) : Lz v (w.drewN n) g s a t i := ⟨h.l.drewN n, h.c, h.hg⟩
theorem Lz.cfacts (h : Lz v w g s a t i) :
    (w.cell? ⟨g, 0, none⟩ = some (.bool a.ab) ∧ w.cell? ⟨g, 1, none⟩ = some (.int .i64 a.fi) ∧ w.cell? ⟨g, 2, none⟩ = some (.bool a.dr) ∧ w.cell? ⟨g, 3, none⟩ = some (.int .i64 a.ne) ∧ w.cell? ⟨g, 4, none⟩ = some (.int .u64 a.co) ∧ w.cell? ⟨g, 5, none⟩ = some (.int .u64 a.la)) ∧
    (∀ k, w.frozen? ⟨g, k, none⟩ = false) ∧ g < w.heap.size :=
  ⟨six_cells (s := a) h.c, Blk.free h.c, Blk.size h.c⟩
end
theorem noteC_ab (s : Cst) (i now : Int) (h : s.ab = true) : noteC s i now true = s := by unfold noteC; rw [h]; rfl
theorem look_back (ne co la I now : Int) : lookC ⟨true, now, false, ne, co, la⟩ I now true = (⟨true, now, true, sat (now + lawZ I (beginN ⟨true, now, false, ne, co, la⟩ I now)), beginN ⟨true, now, false, ne, co, la⟩ I now, beginN ⟨true, now, false, ne, co, la⟩ I now⟩, 2) := by
  have hm : mayC ⟨true, now, false, ne, co, la⟩ now true = true := by unfold mayC; simp
  have hc : consC ⟨true, now, false, ne, co, la⟩ I now true = ⟨true, now, false, ne, co, la⟩ := by unfold consC; rw [noteC_ab _ _ _ rfl]; rfl
  unfold lookC
  rw [hm, hc]
  rfl
end Go.Proofs.Ytkmhdkhaoegbjaa
