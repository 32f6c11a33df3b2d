/- A call, and an answer, read of bytes. -/
import Derived.Test.YtmnkmnnngfgbgaaClh
namespace Go.Proofs.Ytmnkmnnngfgbgaa
open Go.RowKit Go.ChangeShapes Go.WideShapes Go.Deep
set_option linter.unusedVariables false
set_option linter.unusedSimpArgs false
def op0 : OpV := ⟨0, 0, 0, 0⟩
def re0 : ReV := ⟨0, 0, 0, 0, 0⟩
/-- The answer of a call's read: of a byte o.k and what follows, L1. -/
def RoP (o : OpV) (L1 : List Int) (w : World) (e : Ending) (w' : World) : Prop :=
  Below w.heap.size w w' ∧ ((L1.length < (encs o.ns).length ∧ e = .returned (.tuple #[op0.v, .int .i64 0, .int .i64 2])) ∨
    ((encs o.ns).length ≤ L1.length ∧ e = .returned (.tuple #[o.v, .int .i64 ((1 + (encs o.ns).length : Nat) : Int), .int .i64 0])))
def ReP (o : ReV) (L1 : List Int) (w : World) (e : Ending) (w' : World) : Prop :=
  Below w.heap.size w w' ∧ ((L1.length < (encs o.ns).length ∧ e = .returned (.tuple #[re0.v, .int .i64 0, .int .i64 2])) ∨
    ((encs o.ns).length ≤ L1.length ∧ e = .returned (.tuple #[o.v, .int .i64 ((1 + (encs o.ns).length : Nat) : Int), .int .i64 0])))
theorem usgn (k : Int) (h0 : 0 ≤ k) (h1 : k ≤ 18446744073709551615) : IntKind.u64.wrap (sgn k) = k := by
  unfold sgn
  simp only [IntKind.wrap, IntKind.bits, IntKind.signed]
  simp
  omega
set_option maxHeartbeats 8000000 in
theorem readop_any {w : World} {B c : Nat} {A : Option Addr} {o : OpV} {L1 T R : List Int} (h : RdK .u8 w B A (o.k :: L1)) (hB : B ≤ w.heap.size) (hc : (o.k :: L1).length ≤ c) (hL : L1 ++ T = encs o.ns ++ R) (hl : L1.length ≤ 8000) (ho : o.ok) :
    Calls Try.prog 17 #[.slice A (o.k :: L1).length c] w (RoP o L1 w) := by
  have HCA := Lib.hid (fun (W : World) (hb : Below w.heap.size w W) => (show Calls Try.prog 27 #[.slice A (o.k :: L1).length c, .int .i64 3] W (RcP o.k L1 o.ns W) from record_any (ns := o.ns) ((h.more hB).below hb) hb.size hc hL hl (OpV.ok64 ho) (by simp [OpV.ns])))
  obtain ⟨N, hN⟩ : ∃ N, (o.k :: L1).length = N := ⟨_, rfl⟩
  rw [hN] at HCA ⊢
  obtain ⟨k, t, cc, n⟩ := o
  obtain ⟨z, hz⟩ : ∃ z, (encs (OpV.ns ⟨k, t, cc, n⟩)).length = z := ⟨_, rfl⟩
  have hz50 : z ≤ 50 := by rw [← hz]; have := encs_len _ (OpV.ok64 ho); simp only [OpV.ns, List.length_cons, List.length_nil] at this ⊢; omega
  have HZ := Lib.hid hz
  clear hz h hc hL hN
  go_enter Try.func17, Try.ntmps17
  go_upto_region 1 with fail
  have hbx : Blk (w.alloc (.cells #[.int .u8 0, .int .i64 0, .int .i64 0, .int .i64 0] 33)) w.heap.size 33 #[.int .u8 0, .int .i64 0, .int .i64 0, .int .i64 0] := Blk.made _ _ _
  have HX := Lib.hid hbx
  clear hbx
  go_wp2_with fail
  refine (HCA.out _ ((Below.refl _ _).alloc (Nat.le_refl _) _)).mono ?_
  rintro e w1 ⟨hb1, (⟨hq, rfl⟩ | ⟨hq, g, rfl, hg, hbk⟩)⟩
  · have HB1 := Lib.hid (((Below.refl w.heap.size w).alloc (Nat.le_refl _) (.cells #[.int .u8 0, .int .i64 0, .int .i64 0, .int .i64 0] 33)).trans (hb1.mono (by simp)))
    have HX1 := Lib.hid (HX.out.below_ hb1 HX.out.size)
    have HQ := Lib.hid hq
    clear hb1 hq
    have c0_ : w1.cell? ⟨w.heap.size, 0, none⟩ = some (.int .u8 0) := HX1.out.val rfl
    have f0_ := HX1.out.free 0
    have c1_ : w1.cell? ⟨w.heap.size, 1, none⟩ = some (.int .i64 0) := HX1.out.val rfl
    have f1_ := HX1.out.free 1
    have c2_ : w1.cell? ⟨w.heap.size, 2, none⟩ = some (.int .i64 0) := HX1.out.val rfl
    have f2_ := HX1.out.free 2
    have c3_ : w1.cell? ⟨w.heap.size, 3, none⟩ = some (.int .i64 0) := HX1.out.val rfl
    have f3_ := HX1.out.free 3
    go_wp2
    have hx2 := ((((HX1.out.set_ 0 (.int .u8 0)).set_ 1 (.int .i64 0)).set_ 2 (.int .i64 0)).set_ 3 (.int .i64 0))
    have hb2 := ((((HB1.out.setCell (p := ⟨w.heap.size, 0, none⟩) (Nat.le_refl _) (.int .u8 0)).setCell (p := ⟨w.heap.size, 1, none⟩) (Nat.le_refl _) (.int .i64 0)).setCell (p := ⟨w.heap.size, 2, none⟩) (Nat.le_refl _) (.int .i64 0)).setCell (p := ⟨w.heap.size, 3, none⟩) (Nat.le_refl _) (.int .i64 0))
    obtain ⟨W, hW⟩ : ∃ W, ((((w1.setCell ⟨w.heap.size, 0, none⟩ (.int .u8 0)).setCell ⟨w.heap.size, 1, none⟩ (.int .i64 0)).setCell ⟨w.heap.size, 2, none⟩ (.int .i64 0)).setCell ⟨w.heap.size, 3, none⟩ (.int .i64 0)) = W := ⟨_, rfl⟩
    rw [hW] at hx2 hb2 ⊢
    clear hW
    have d0_ : W.cell? ⟨w.heap.size, 0, none⟩ = some (.int .u8 0) := hx2.val rfl
    have d1_ : W.cell? ⟨w.heap.size, 1, none⟩ = some (.int .i64 0) := hx2.val rfl
    have d2_ : W.cell? ⟨w.heap.size, 2, none⟩ = some (.int .i64 0) := hx2.val rfl
    have d3_ : W.cell? ⟨w.heap.size, 3, none⟩ = some (.int .i64 0) := hx2.val rfl
    exact bodyPost_ret (v := .tuple #[.agg #[.int .u8 0, .int .i64 0, .int .i64 0, .int .i64 0], .int .i64 0, .int .i64 2]) (by simp [results, Try.results17, go_sem, d0_, d1_, d2_, d3_]) rfl ⟨hb2, .inl ⟨HQ.out, rfl⟩⟩
  · have HB1 := Lib.hid (((Below.refl w.heap.size w).alloc (Nat.le_refl _) (.cells #[.int .u8 0, .int .i64 0, .int .i64 0, .int .i64 0] 33)).trans (hb1.mono (by simp)))
    have HX1 := Lib.hid (HX.out.below_ hb1 HX.out.size)
    have HQ := Lib.hid hq
    have hgs := hbk.size
    have hgn : g ≠ w.heap.size := by have h : (w.alloc (.cells #[.int .u8 0, .int .i64 0, .int .i64 0, .int .i64 0] 33)).heap.size = w.heap.size + 1 := by simp
                                     omega
    have hgn2 : w.heap.size ≠ g := Ne.symm hgn
    have b0_ : w1.cell? ⟨g, 0, none⟩ = some (.int .i64 t) := hbk.val rfl
    have b1_ : w1.cell? ⟨g, 1, none⟩ = some (.int .i64 cc) := hbk.val rfl
    have b2_ : w1.cell? ⟨g, 2, none⟩ = some (.int .i64 n) := hbk.val rfl
    clear hb1 hq hbk hgs
    have c0_ : w1.cell? ⟨w.heap.size, 0, none⟩ = some (.int .u8 0) := HX1.out.val rfl
    have f0_ := HX1.out.free 0
    have c1_ : w1.cell? ⟨w.heap.size, 1, none⟩ = some (.int .i64 0) := HX1.out.val rfl
    have f1_ := HX1.out.free 1
    have c2_ : w1.cell? ⟨w.heap.size, 2, none⟩ = some (.int .i64 0) := HX1.out.val rfl
    have f2_ := HX1.out.free 2
    have c3_ : w1.cell? ⟨w.heap.size, 3, none⟩ = some (.int .i64 0) := HX1.out.val rfl
    have f3_ := HX1.out.free 3
    rw [HZ.out, show (OpV.ns ⟨k, t, cc, n⟩).length = 3 from rfl]
    go_upto_region 4 with fail
    go_region_held3 (fun w' => w'.cell? ⟨g, 0, none⟩ = some (.int .i64 t) ∧ w'.cell? ⟨g, 1, none⟩ = some (.int .i64 cc) ∧ w'.cell? ⟨g, 2, none⟩ = some (.int .i64 n)) (repeat (first | with_reducible assumption | refine ⟨?_, ?_⟩ | with_reducible refine kdrew ?_ | with_reducible refine kalloc ?_ _ | with_reducible refine kset ?_ ?_)) (fail)
    go_wp2
    have hx2 := (((((HX1.out.set_ 0 (.int .u8 k)).set_ 1 (.int .i64 t)).set_ 2 (.int .i64 cc)).set_ 3 (.int .i64 n))).drew_
    have hb2 := (((((HB1.out.setCell (p := ⟨w.heap.size, 0, none⟩) (Nat.le_refl _) (.int .u8 k)).setCell (p := ⟨w.heap.size, 1, none⟩) (Nat.le_refl _) (.int .i64 t)).setCell (p := ⟨w.heap.size, 2, none⟩) (Nat.le_refl _) (.int .i64 cc)).setCell (p := ⟨w.heap.size, 3, none⟩) (Nat.le_refl _) (.int .i64 n))).drew
    obtain ⟨W, hW⟩ : ∃ W, (((((w1.setCell ⟨w.heap.size, 0, none⟩ (.int .u8 k)).setCell ⟨w.heap.size, 1, none⟩ (.int .i64 t)).setCell ⟨w.heap.size, 2, none⟩ (.int .i64 cc)).setCell ⟨w.heap.size, 3, none⟩ (.int .i64 n))).drew = W := ⟨_, rfl⟩
    rw [hW] at hx2 hb2 ⊢
    clear hW
    have d0_ : W.cell? ⟨w.heap.size, 0, none⟩ = some (.int .u8 k) := hx2.val rfl
    have d1_ : W.cell? ⟨w.heap.size, 1, none⟩ = some (.int .i64 t) := hx2.val rfl
    have d2_ : W.cell? ⟨w.heap.size, 2, none⟩ = some (.int .i64 cc) := hx2.val rfl
    have d3_ : W.cell? ⟨w.heap.size, 3, none⟩ = some (.int .i64 n) := hx2.val rfl
    exact bodyPost_ret (v := .tuple #[.agg #[.int .u8 k, .int .i64 t, .int .i64 cc, .int .i64 n], .int .i64 (1 + (z : Int)), .int .i64 0]) (by simp [results, Try.results17, go_sem, d0_, d1_, d2_, d3_]) rfl ⟨hb2, .inr ⟨HQ.out, by rw [HZ.out]; push_cast; rfl⟩⟩
set_option maxHeartbeats 8000000 in
theorem readres_any {w : World} {B c : Nat} {A : Option Addr} {o : ReV} {L1 T R : List Int} (h : RdK .u8 w B A (o.a :: L1)) (hB : B ≤ w.heap.size) (hc : (o.a :: L1).length ≤ c) (hL : L1 ++ T = encs o.ns ++ R) (hl : L1.length ≤ 8000) (ho : o.ok) :
    Calls Try.prog 18 #[.slice A (o.a :: L1).length c] w (ReP o L1 w) := by
  have HCA := Lib.hid (fun (W : World) (hb : Below w.heap.size w W) => (show Calls Try.prog 27 #[.slice A (o.a :: L1).length c, .int .i64 4] W (RcP o.a L1 o.ns W) from record_any (ns := o.ns) ((h.more hB).below hb) hb.size hc hL hl (ReV.ok64 ho) (by simp [ReV.ns])))
  obtain ⟨N, hN⟩ : ∃ N, (o.a :: L1).length = N := ⟨_, rfl⟩
  rw [hN] at HCA ⊢
  obtain ⟨a, k, t, cc, n⟩ := o
  obtain ⟨z, hz⟩ : ∃ z, (encs (ReV.ns ⟨a, k, t, cc, n⟩)).length = z := ⟨_, rfl⟩
  have hz50 : z ≤ 50 := by rw [← hz]; have := encs_len _ (ReV.ok64 ho); simp only [ReV.ns, List.length_cons, List.length_nil] at this ⊢; omega
  have HZ := Lib.hid hz
  obtain ⟨sk, hsk⟩ : ∃ sk, sgn k = sk := ⟨_, rfl⟩
  have hus : IntKind.u64.wrap sk = k := by rw [← hsk]; exact usgn k ho.2.1.1 ho.2.1.2
  have HSK := Lib.hid hsk
  clear hsk
  clear hz h hc hL hN
  go_enter Try.func18, Try.ntmps18
  go_upto_region 1 with fail
  have hbx : Blk (w.alloc (.cells #[.int .u8 0, .int .u64 0, .int .i64 0, .int .i64 0, .int .i64 0] 36)) w.heap.size 36 #[.int .u8 0, .int .u64 0, .int .i64 0, .int .i64 0, .int .i64 0] := Blk.made _ _ _
  have HX := Lib.hid hbx
  clear hbx
  go_wp2_with fail
  refine (HCA.out _ ((Below.refl _ _).alloc (Nat.le_refl _) _)).mono ?_
  rintro e w1 ⟨hb1, (⟨hq, rfl⟩ | ⟨hq, g, rfl, hg, hbk⟩)⟩
  · have HB1 := Lib.hid (((Below.refl w.heap.size w).alloc (Nat.le_refl _) (.cells #[.int .u8 0, .int .u64 0, .int .i64 0, .int .i64 0, .int .i64 0] 36)).trans (hb1.mono (by simp)))
    have HX1 := Lib.hid (HX.out.below_ hb1 HX.out.size)
    have HQ := Lib.hid hq
    clear hb1 hq
    have c0_ : w1.cell? ⟨w.heap.size, 0, none⟩ = some (.int .u8 0) := HX1.out.val rfl
    have f0_ := HX1.out.free 0
    have c1_ : w1.cell? ⟨w.heap.size, 1, none⟩ = some (.int .u64 0) := HX1.out.val rfl
    have f1_ := HX1.out.free 1
    have c2_ : w1.cell? ⟨w.heap.size, 2, none⟩ = some (.int .i64 0) := HX1.out.val rfl
    have f2_ := HX1.out.free 2
    have c3_ : w1.cell? ⟨w.heap.size, 3, none⟩ = some (.int .i64 0) := HX1.out.val rfl
    have f3_ := HX1.out.free 3
    have c4_ : w1.cell? ⟨w.heap.size, 4, none⟩ = some (.int .i64 0) := HX1.out.val rfl
    have f4_ := HX1.out.free 4
    go_wp2
    have hx2 := (((((HX1.out.set_ 0 (.int .u8 0)).set_ 1 (.int .u64 0)).set_ 2 (.int .i64 0)).set_ 3 (.int .i64 0)).set_ 4 (.int .i64 0))
    have hb2 := (((((HB1.out.setCell (p := ⟨w.heap.size, 0, none⟩) (Nat.le_refl _) (.int .u8 0)).setCell (p := ⟨w.heap.size, 1, none⟩) (Nat.le_refl _) (.int .u64 0)).setCell (p := ⟨w.heap.size, 2, none⟩) (Nat.le_refl _) (.int .i64 0)).setCell (p := ⟨w.heap.size, 3, none⟩) (Nat.le_refl _) (.int .i64 0)).setCell (p := ⟨w.heap.size, 4, none⟩) (Nat.le_refl _) (.int .i64 0))
    obtain ⟨W, hW⟩ : ∃ W, (((((w1.setCell ⟨w.heap.size, 0, none⟩ (.int .u8 0)).setCell ⟨w.heap.size, 1, none⟩ (.int .u64 0)).setCell ⟨w.heap.size, 2, none⟩ (.int .i64 0)).setCell ⟨w.heap.size, 3, none⟩ (.int .i64 0)).setCell ⟨w.heap.size, 4, none⟩ (.int .i64 0)) = W := ⟨_, rfl⟩
    rw [hW] at hx2 hb2 ⊢
    clear hW
    have d0_ : W.cell? ⟨w.heap.size, 0, none⟩ = some (.int .u8 0) := hx2.val rfl
    have d1_ : W.cell? ⟨w.heap.size, 1, none⟩ = some (.int .u64 0) := hx2.val rfl
    have d2_ : W.cell? ⟨w.heap.size, 2, none⟩ = some (.int .i64 0) := hx2.val rfl
    have d3_ : W.cell? ⟨w.heap.size, 3, none⟩ = some (.int .i64 0) := hx2.val rfl
    have d4_ : W.cell? ⟨w.heap.size, 4, none⟩ = some (.int .i64 0) := hx2.val rfl
    exact bodyPost_ret (v := .tuple #[.agg #[.int .u8 0, .int .u64 0, .int .i64 0, .int .i64 0, .int .i64 0], .int .i64 0, .int .i64 2]) (by simp [results, Try.results18, go_sem, d0_, d1_, d2_, d3_, d4_]) rfl ⟨hb2, .inl ⟨HQ.out, rfl⟩⟩
  · have HB1 := Lib.hid (((Below.refl w.heap.size w).alloc (Nat.le_refl _) (.cells #[.int .u8 0, .int .u64 0, .int .i64 0, .int .i64 0, .int .i64 0] 36)).trans (hb1.mono (by simp)))
    have HX1 := Lib.hid (HX.out.below_ hb1 HX.out.size)
    have HQ := Lib.hid hq
    have hgs := hbk.size
    have hgn : g ≠ w.heap.size := by have h : (w.alloc (.cells #[.int .u8 0, .int .u64 0, .int .i64 0, .int .i64 0, .int .i64 0] 36)).heap.size = w.heap.size + 1 := by simp
                                     omega
    have hgn2 : w.heap.size ≠ g := Ne.symm hgn
    have b0_ : w1.cell? ⟨g, 0, none⟩ = some (.int .i64 sk) := hbk.val (by simp [ReV.ns, HSK.out])
    have b1_ : w1.cell? ⟨g, 1, none⟩ = some (.int .i64 t) := hbk.val (by simp [ReV.ns, HSK.out])
    have b2_ : w1.cell? ⟨g, 2, none⟩ = some (.int .i64 cc) := hbk.val (by simp [ReV.ns, HSK.out])
    have b3_ : w1.cell? ⟨g, 3, none⟩ = some (.int .i64 n) := hbk.val (by simp [ReV.ns, HSK.out])
    clear hb1 hq hbk hgs
    have c0_ : w1.cell? ⟨w.heap.size, 0, none⟩ = some (.int .u8 0) := HX1.out.val rfl
    have f0_ := HX1.out.free 0
    have c1_ : w1.cell? ⟨w.heap.size, 1, none⟩ = some (.int .u64 0) := HX1.out.val rfl
    have f1_ := HX1.out.free 1
    have c2_ : w1.cell? ⟨w.heap.size, 2, none⟩ = some (.int .i64 0) := HX1.out.val rfl
    have f2_ := HX1.out.free 2
    have c3_ : w1.cell? ⟨w.heap.size, 3, none⟩ = some (.int .i64 0) := HX1.out.val rfl
    have f3_ := HX1.out.free 3
    have c4_ : w1.cell? ⟨w.heap.size, 4, none⟩ = some (.int .i64 0) := HX1.out.val rfl
    have f4_ := HX1.out.free 4
    rw [HZ.out, show (ReV.ns ⟨a, k, t, cc, n⟩).length = 4 from rfl]
    go_upto_region 4 with fail
    go_region_held3 (fun w' => w'.cell? ⟨g, 0, none⟩ = some (.int .i64 sk) ∧ w'.cell? ⟨g, 1, none⟩ = some (.int .i64 t) ∧ w'.cell? ⟨g, 2, none⟩ = some (.int .i64 cc) ∧ w'.cell? ⟨g, 3, none⟩ = some (.int .i64 n)) (repeat (first | with_reducible assumption | refine ⟨?_, ?_⟩ | with_reducible refine kdrew ?_ | with_reducible refine kalloc ?_ _ | with_reducible refine kset ?_ ?_)) (fail)
    go_wp2
    have hx2 := ((((((HX1.out.set_ 0 (.int .u8 a)).set_ 1 (.int .u64 k)).set_ 2 (.int .i64 t)).set_ 3 (.int .i64 cc)).set_ 4 (.int .i64 n))).drew_
    have hb2 := ((((((HB1.out.setCell (p := ⟨w.heap.size, 0, none⟩) (Nat.le_refl _) (.int .u8 a)).setCell (p := ⟨w.heap.size, 1, none⟩) (Nat.le_refl _) (.int .u64 k)).setCell (p := ⟨w.heap.size, 2, none⟩) (Nat.le_refl _) (.int .i64 t)).setCell (p := ⟨w.heap.size, 3, none⟩) (Nat.le_refl _) (.int .i64 cc)).setCell (p := ⟨w.heap.size, 4, none⟩) (Nat.le_refl _) (.int .i64 n))).drew
    obtain ⟨W, hW⟩ : ∃ W, ((((((w1.setCell ⟨w.heap.size, 0, none⟩ (.int .u8 a)).setCell ⟨w.heap.size, 1, none⟩ (.int .u64 k)).setCell ⟨w.heap.size, 2, none⟩ (.int .i64 t)).setCell ⟨w.heap.size, 3, none⟩ (.int .i64 cc)).setCell ⟨w.heap.size, 4, none⟩ (.int .i64 n))).drew = W := ⟨_, rfl⟩
    rw [hW] at hx2 hb2 ⊢
    clear hW
    have d0_ : W.cell? ⟨w.heap.size, 0, none⟩ = some (.int .u8 a) := hx2.val rfl
    have d1_ : W.cell? ⟨w.heap.size, 1, none⟩ = some (.int .u64 k) := hx2.val rfl
    have d2_ : W.cell? ⟨w.heap.size, 2, none⟩ = some (.int .i64 t) := hx2.val rfl
    have d3_ : W.cell? ⟨w.heap.size, 3, none⟩ = some (.int .i64 cc) := hx2.val rfl
    have d4_ : W.cell? ⟨w.heap.size, 4, none⟩ = some (.int .i64 n) := hx2.val rfl
    exact bodyPost_ret (v := .tuple #[.agg #[.int .u8 a, .int .u64 k, .int .i64 t, .int .i64 cc, .int .i64 n], .int .i64 (1 + (z : Int)), .int .i64 0]) (by simp [results, Try.results18, go_sem, d0_, d1_, d2_, d3_, d4_]) rfl ⟨hb2, .inr ⟨HQ.out, by rw [HZ.out]; push_cast; rfl⟩⟩
end Go.Proofs.Ytmnkmnnngfgbgaa
