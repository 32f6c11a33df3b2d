/- What CoreTwins's row says of the program, reckoned apart. -/
import Derived.ChangeArms
import Derived.Test.YtcffeokbipjaoaaGreatRows
import Derived.WalkKit
import Derived.ProofKit
import Derived.OpenShut
namespace Go.Proofs.YtcffeokbipjaoaaGreat.coreTwins
open Go.ChangeShapes Go.WideShapes Go.ChangeAt Go.RowKit
theorem facts : joinedFacts Tryz.pinned.checked.prog 3 Tryz.f3 Rows.coreTwinsSpec Rows.coreTwinsRow = true := by kernel_rfl
end Go.Proofs.YtcffeokbipjaoaaGreat.coreTwins
