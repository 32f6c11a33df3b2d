/- The document's answers of layer 1: products by digits. -/
import Derived.Test.YtgocnliapkokbaaDoorRefc
import Derived.Test.YtgocnliapkokbaaDoorDigm
namespace Go.Proofs.YtgocnliapkokbaaDoor
open Go.ChangeShapes Go.WideShapes Go.ChangeAt Go.RowKit Kn
set_option linter.unusedVariables false
theorem rowIs_drewN {w : World} {b : Nat} {t : TypeId} {n : Nat} {f : Nat → Value} (h : w.rowIs b t n f) (k : Nat) : (w.drewN k).rowIs b t n f := h
theorem row_of_nine {w : World} {g : Nat} {f : Nat → Int} (h : w.rowIs g 3 9 (fun j => .int .i64 (f j))) : Row w g f := ⟨9, _, by omega, h, fun _ _ => rfl⟩
end Go.Proofs.YtgocnliapkokbaaDoor
