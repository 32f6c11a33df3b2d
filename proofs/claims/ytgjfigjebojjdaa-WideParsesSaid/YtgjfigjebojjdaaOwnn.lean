/- A number as the document has it is the same number; a quotient by what is 0. -/
import Derived.Test.YtgjfigjebojjdaaWide
namespace Go.Proofs.Ytgjfigjebojjdaa
open Go.ChangeShapes Go.WideShapes Go.ChangeAt Go.RowKit Kn
set_option linter.unusedVariables false
set_option maxHeartbeats 400000 in
theorem own_any (h l : Int) (w : World) : Calls Try.prog 16 #[.agg #[.int .u64 h, .int .u64 l]] w fun e w' => e = .returned (.agg #[.int .u64 h, .int .u64 l]) ∧ Below w.heap.size w w' := by
  go_enter Try.func16, Try.ntmps16
  go_wp2
  refine bodyPost_ret (v := .agg #[.int .u64 h, .int .u64 l]) (by simp [results, Try.results16, go_sem]) rfl ⟨rfl, ((Below.refl _ _).alloc (Nat.le_refl _) _).alloc (by simp) _⟩
theorem wdiv_z (h l d : Int) (w : World) (hd : d = 0) : 
    Calls Try.prog 56 #[.agg #[.int .u64 h, .int .u64 l], .int .u64 d] w fun e w' => e = .returned (.tuple #[.agg #[.int .u64 0, .int .u64 0], .int .u64 0]) ∧ Below w.heap.size w w' := by
  subst hd; exact wdiv_zero h l w
end Go.Proofs.Ytgjfigjebojjdaa
