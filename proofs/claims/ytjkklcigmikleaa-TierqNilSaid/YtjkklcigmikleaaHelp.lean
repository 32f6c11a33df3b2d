/- What is known of a world goes on behind a call that leaves all that was there as it was: with a draw ahead of it, or none. No program. -/
import Derived.Below
namespace Go.Proofs.Ytjkklcigmikleaa
open Go.RowKit
theorem under0 {w a c : World} (h : Below w.heap.size w a) (hc : Below a.heap.size a c) : Below w.heap.size w c := h.trans (hc.mono h.size)
theorem underB {B : Nat} {w a c : World} (h : Below B w a) (hB : B ≤ a.heap.size) (hc : Below a.heap.size a c) : Below B w c := h.trans (hc.mono hB)
end Go.Proofs.Ytjkklcigmikleaa
