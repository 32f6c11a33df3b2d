/- The document's answers of layer 2: products. -/
import Derived.Test.YtgocnliapkokbaaDoorRefd
import Derived.Test.YtgocnliapkokbaaDoorRefe
namespace Go.Proofs.YtgocnliapkokbaaDoor
open Go.ChangeShapes Go.WideShapes Go.ChangeAt Go.RowKit Kn
set_option linter.unusedVariables false
theorem sgn_mul (a b : Int) : sgn (isNeg a != isNeg b) (mag a * mag b) = a * b := by
  cases h : negB a b
  · have h2 : (isNeg a != isNeg b) = false := h
    rw [h2, mul_pos a b h]; rfl
  · have h2 : (isNeg a != isNeg b) = true := h
    rw [h2, mul_neg a b h]; rfl
end Go.Proofs.YtgocnliapkokbaaDoor
