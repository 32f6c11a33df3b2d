/- bits.Div64 gives the quotient and the rest, wherever the divisor is above the upper half. -/
import Derived.Test.YtgocnliapkokbaaDoorShelf
import Derived.Test.YtgocnliapkokbaaDoorNums
import Derived.WalkKit
import Derived.ProofKit
import Derived.OpenShut
import Derived.Below
import Derived.BigQuiet
import Derived.Deep.QuietTactic
import Derived.Lib.Hide
import Derived.LoopTactic
namespace Go.Proofs.YtgocnliapkokbaaDoor
open Go.ChangeShapes Go.WideShapes Go.ChangeAt Go.RowKit
theorem wrap_id (x : Int) (h0 : 0 ≤ x) (h1 : x ≤ 18446744073709551615) : IntKind.u64.wrap x = x := by rw [IntKind.wrap_u64]; omega
theorem wrapsub (a b t : Int) (h : a = b + t) (t0 : 0 ≤ t) (t1 : t ≤ 18446744073709551615) : IntKind.u64.wrap (IntKind.u64.wrap a - IntKind.u64.wrap b) = t := by
  simp only [IntKind.wrap_u64]; omega
theorem wrapadd (a b : Int) : IntKind.u64.wrap (IntKind.u64.wrap a + b) = IntKind.u64.wrap (a + b) := by
  simp only [IntKind.wrap_u64]; omega
end Go.Proofs.YtgocnliapkokbaaDoor
