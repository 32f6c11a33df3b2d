/- What FrontNil's row says of the program, reckoned apart. -/
import Derived.ChangeArms
import Derived.Test.YtcffeokbipjaoaaGreatRows
import Derived.WalkKit
import Derived.ProofKit
import Derived.OpenShut
namespace Go.Proofs.YtcffeokbipjaoaaGreat.frontNil
open Go.ChangeShapes Go.WideShapes Go.ChangeAt Go.RowKit
theorem facts : joinedFacts Tryz.pinned.checked.prog 4 Tryz.f4 Rows.frontNilSpec Rows.frontNilRow = true := by kernel_rfl
end Go.Proofs.YtcffeokbipjaoaaGreat.frontNil
