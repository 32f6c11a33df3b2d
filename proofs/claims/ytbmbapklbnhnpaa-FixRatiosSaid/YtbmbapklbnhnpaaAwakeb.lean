/- The examples of layer 2 stand: 'awake' answers true. -/
import Derived.Test.YtbmbapklbnhnpaaFixb
namespace Go.Proofs.Ytbmbapklbnhnpaa
open Go.ChangeShapes Go.WideShapes Go.ChangeAt Go.RowKit Kn
set_option linter.unusedVariables false
set_option maxHeartbeats 400000 in
theorem awakeb (w : World) : Calls Try.prog 38 #[] w fun e w' => e = .returned (.bool true) ∧ Below w.heap.size w w' := by
  have e1 : quotN (-1) 3 = -1431655766 := by decide
  have e2 : sat (9223372036854775808) = 9223372036854775807 := by decide
  go_enter Try.func38, Try.ntmps38
  go_wp2_with (first
    | (go_at_call 52; refine (ratio_all _ _ _ (by omega) (by omega) (by omega) (by omega)).mono ?_; rintro e w1 ⟨rfl, hb1⟩; rw [e1])
    | (go_at_call 51; refine (qfloor_any _ _ (by omega) (by omega)).mono ?_; rintro e w2 ⟨rfl, rfl⟩)
    | (go_at_call 47; refine (fmul_any _ _ _ (by omega) (by omega) (by omega) (by omega)).mono ?_; rintro e w3 ⟨rfl, hb3⟩))
  go_ret
  exact ⟨rfl, hb1.trans (hb3.mono hb1.size)⟩
end Go.Proofs.Ytbmbapklbnhnpaa
