/- No function of the shelf is called here. -/
import Derived.Test.YtgocnliapkokbaaDoorChecked
namespace Go.Proofs.YtgocnliapkokbaaDoor
end Go.Proofs.YtgocnliapkokbaaDoor
