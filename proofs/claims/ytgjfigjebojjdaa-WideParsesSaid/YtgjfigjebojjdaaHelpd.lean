/- A cell that may be written stays so. No program. -/
import Derived.Test.YtgjfigjebojjdaaHelpb
namespace Go.Proofs.Ytgjfigjebojjdaa
open Go.RowKit
theorem frz_later {w c : World} {a : Addr} {v : Value} (hb : Below w.heap.size w c) (hc : w.cell? a = some v) (h : w.frozen? a = false) : c.frozen? a = false := (hb.frozen (klt hc)).trans h
end Go.Proofs.Ytgjfigjebojjdaa
