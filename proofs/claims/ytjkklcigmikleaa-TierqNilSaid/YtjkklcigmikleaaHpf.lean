/- A heap in memory: the key of one who is there. -/
import Derived.Test.YtjkklcigmikleaaHpe
namespace Go.Proofs.Ytjkklcigmikleaa
open Go.ChangeShapes Go.WideShapes Go.RowKit
set_option linter.unusedVariables false
section
variable {w w' : World} {p b n m c : Nat} {A : Option Addr} {E : Nat → En} {P : Nat → Int}
end
end Go.Proofs.Ytjkklcigmikleaa
