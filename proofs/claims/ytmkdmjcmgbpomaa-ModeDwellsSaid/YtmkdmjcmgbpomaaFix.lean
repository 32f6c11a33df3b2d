/- What the calls of package fix answer. -/
import Derived.Test.YtmkdmjcmgbpomaaWide
import Derived.Test.YtmkdmjcmgbpomaaSat
namespace Go.Proofs.Ytmkdmjcmgbpomaa
open Go.ChangeShapes Go.WideShapes Go.ChangeAt Go.RowKit Kn
set_option linter.unusedVariables false
set_option maxHeartbeats 400000 in
theorem fsub_any (a b : Int) (w : World) (a0 : -9223372036854775808 ≤ a) (a1 : a ≤ 9223372036854775807) (b0 : -9223372036854775808 ≤ b) (b1 : b ≤ 9223372036854775807) :
    Calls Try.prog 20 #[.int .i64 a, .int .i64 b] w fun e w' => e = .returned (.int .i64 (sat (a - b))) ∧ w = w' := by
  go_enter Try.func20, Try.ntmps20
  go_wp2
  all_goals (go_ret; exact ⟨ret_int (by unfold sat; omega), rfl⟩)
end Go.Proofs.Ytmkdmjcmgbpomaa
