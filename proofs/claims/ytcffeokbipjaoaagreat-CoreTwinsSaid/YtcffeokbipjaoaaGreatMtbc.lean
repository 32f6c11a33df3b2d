/- Texts of this claim, one behind the other: Refi. -/
import Derived.Test.YtcffeokbipjaoaaGreatMtau
namespace Go.Proofs.YtcffeokbipjaoaaGreat
open Go.ChangeShapes Go.WideShapes Go.ChangeAt Go.RowKit Kn
set_option linter.unusedVariables false
structure DivAt (w wr : World) (N d q r : Int) : Prop where
 below : Below w.heap.size w wr
 size : w.heap.size + 5 ≤ wr.heap.size
 n0 : wr.cell? ⟨w.heap.size, 0, none⟩ = some (.int .u64 (hi N))
 n1 : wr.cell? ⟨w.heap.size, 1, none⟩ = some (.int .u64 (lo N))
 z0 : wr.cell? ⟨w.heap.size + 1, 0, none⟩ = some (.int .u64 0)
 z1 : wr.cell? ⟨w.heap.size + 1, 1, none⟩ = some (.int .u64 0)
 q0 : wr.cell? ⟨w.heap.size + 1 + 1, 0, none⟩ = some (.int .u64 (hi q))
 q1 : wr.cell? ⟨w.heap.size + 1 + 1, 1, none⟩ = some (.int .u64 (lo q))
 r0 : wr.cell? ⟨w.heap.size + 1 + 1 + 1, 0, none⟩ = some (.int .u64 (hi r))
 r1 : wr.cell? ⟨w.heap.size + 1 + 1 + 1, 1, none⟩ = some (.int .u64 (lo r))
 d0 : wr.cell? ⟨w.heap.size + 1 + 1 + 1 + 1, 0, none⟩ = some (.int .u64 0)
 d1 : wr.cell? ⟨w.heap.size + 1 + 1 + 1 + 1, 1, none⟩ = some (.int .u64 d)
 f0 : wr.frozen? ⟨w.heap.size + 1, 0, none⟩ = false
 f1 : wr.frozen? ⟨w.heap.size + 1, 1, none⟩ = false
 f2 : wr.frozen? ⟨w.heap.size + 1 + 1, 0, none⟩ = false
 f3 : wr.frozen? ⟨w.heap.size + 1 + 1, 1, none⟩ = false
 f4 : wr.frozen? ⟨w.heap.size + 1 + 1 + 1, 0, none⟩ = false
 f5 : wr.frozen? ⟨w.heap.size + 1 + 1 + 1, 1, none⟩ = false
namespace DivAt
variable {w W w1 : World} {N d q r : Int}
theorem drew (h : DivAt w W N d q r) : DivAt w W.drew N d q r := ⟨h.below.drew, h.size, h.n0, h.n1, h.z0, h.z1, h.q0, h.q1, h.r0, h.r1, h.d0, h.d1, h.f0, h.f1, h.f2, h.f3, h.f4, h.f5⟩
theorem call (h : DivAt w W N d q r) (hb : Below W.heap.size W w1) : DivAt w w1 N d q r := by
 have hs := h.size
 exact ⟨h.below.trans (hb.mono (by omega)), Nat.le_trans hs hb.size, (hb.cell (p := ⟨w.heap.size, 0, none⟩) (by show w.heap.size < _; omega)).trans h.n0, (hb.cell (p := ⟨w.heap.size, 1, none⟩) (by show w.heap.size < _; omega)).trans h.n1, (hb.cell (p := ⟨w.heap.size + 1, 0, none⟩) (by show w.heap.size + 1 < _; omega)).trans h.z0, (hb.cell (p := ⟨w.heap.size + 1, 1, none⟩) (by show w.heap.size + 1 < _; omega)).trans h.z1, (hb.cell (p := ⟨w.heap.size + 1 + 1, 0, none⟩) (by show w.heap.size + 1 + 1 < _; omega)).trans h.q0, (hb.cell (p := ⟨w.heap.size + 1 + 1, 1, none⟩) (by show w.heap.size + 1 + 1 < _; omega)).trans h.q1, (hb.cell (p := ⟨w.heap.size + 1 + 1 + 1, 0, none⟩) (by show w.heap.size + 1 + 1 + 1 < _; omega)).trans h.r0, (hb.cell (p := ⟨w.heap.size + 1 + 1 + 1, 1, none⟩) (by show w.heap.size + 1 + 1 + 1 < _; omega)).trans h.r1, (hb.cell (p := ⟨w.heap.size + 1 + 1 + 1 + 1, 0, none⟩) (by show w.heap.size + 1 + 1 + 1 + 1 < _; omega)).trans h.d0, (hb.cell (p := ⟨w.heap.size + 1 + 1 + 1 + 1, 1, none⟩) (by show w.heap.size + 1 + 1 + 1 + 1 < _; omega)).trans h.d1, (hb.frozen (p := ⟨w.heap.size + 1, 0, none⟩) (by show w.heap.size + 1 < _; omega)).trans h.f0, (hb.frozen (p := ⟨w.heap.size + 1, 1, none⟩) (by show w.heap.size + 1 < _; omega)).trans h.f1, (hb.frozen (p := ⟨w.heap.size + 1 + 1, 0, none⟩) (by show w.heap.size + 1 + 1 < _; omega)).trans h.f2, (hb.frozen (p := ⟨w.heap.size + 1 + 1, 1, none⟩) (by show w.heap.size + 1 + 1 < _; omega)).trans h.f3, (hb.frozen (p := ⟨w.heap.size + 1 + 1 + 1, 0, none⟩) (by show w.heap.size + 1 + 1 + 1 < _; omega)).trans h.f4, (hb.frozen (p := ⟨w.heap.size + 1 + 1 + 1, 1, none⟩) (by show w.heap.size + 1 + 1 + 1 < _; omega)).trans h.f5⟩
theorem setR (h : DivAt w W N d q r) (x : Int) : DivAt w ((W.setCell ⟨w.heap.size + 1 + 1 + 1, 0, none⟩ (.int .u64 (hi x))).setCell ⟨w.heap.size + 1 + 1 + 1, 1, none⟩ (.int .u64 (lo x))) N d q x := by
 obtain ⟨hb, hsz, n0, n1, z0, z1, q0, q1, r0, r1, y0, y1, f0, f1, f2, f3, f4, f5⟩ := h
 exact ⟨(hb.setCell (p := ⟨w.heap.size + 1 + 1 + 1, 0, none⟩) (by dsimp only; omega) _).setCell (p := ⟨w.heap.size + 1 + 1 + 1, 1, none⟩) (by dsimp only; omega) _, by simpa [World.setCell] using hsz, by simp [go_sem, *], by simp [go_sem, *], by simp [go_sem, *], by simp [go_sem, *], by simp [go_sem, *], by simp [go_sem, *], by simp [go_sem, *], by simp [go_sem, *], by simp [go_sem, *], by simp [go_sem, *], by simp [go_sem, *], by simp [go_sem, *], by simp [go_sem, *], by simp [go_sem, *], by simp [go_sem, *], by simp [go_sem, *]⟩
end DivAt
end Go.Proofs.YtcffeokbipjaoaaGreat
