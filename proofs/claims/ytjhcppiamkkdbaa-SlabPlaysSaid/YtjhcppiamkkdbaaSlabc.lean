/- The example of layer 5 stands: 'awake' answers true. -/
import Derived.Test.YtjhcppiamkkdbaaSlabb
namespace Go.Proofs.Ytjhcppiamkkdbaa
open Go.RowKit
set_option linter.unusedVariables false
set_option maxHeartbeats 1000000 in
theorem awakes (w : World) : Calls Try.prog 4 #[] w fun e w' => e = .returned (.bool true) ∧ Below w.heap.size w w' := by
  go_enter Try.func4, Try.ntmps4
  go_wp2_with fail
  refine (slnew_yes 2 _ (by omega) (by omega)).mono ?_
  rintro e w1 ⟨p, c, f, rfl, hp, hc, hf, h1, hb⟩
  have H1 := Lib.hid h1; clear h1
  go_wp2_with fail
  refine (sltake_any (m := 1) (i := 0) 0 0 0 0 0 _ H1.out rfl (by omega) (by simp) (by simp)).mono ?_
  rintro e w2 ⟨rfl, h2, k2⟩
  have H2 := Lib.hid h2; clear h2
  go_wp2_with fail
  refine (sltake_any (m := 0) (i := 1) 0 0 0 0 0 _ H2.out rfl (by omega) (by simp) (by simp)).mono ?_
  rintro e w3 ⟨rfl, h3, k3⟩
  have H3 := Lib.hid h3; clear h3
  go_wp2_with fail
  refine (slfree_yes (i := 0) _ _ H3.out (by simp) (by simp) (by simp [aliveB]) (by simp) (by omega)).mono ?_
  rintro e w4 ⟨rfl, h4, k4⟩
  have H4 := Lib.hid h4; clear h4
  go_wp2_with fail
  refine (sltake_any (m := 0) (i := 0) 0 0 0 0 0 _ H4.out rfl (by omega) (by simp) (by simp)).mono ?_
  rintro e w5 ⟨rfl, h5, k5⟩
  clear h5
  go_wp2
  go_ret
  refine ⟨rfl, ?_⟩
  have k := ((k2.trans k3).trans k4).trans k5
  refine hb.trans (k.below (fun g hg => ?_) hb.size)
  omega
end Go.Proofs.Ytjhcppiamkkdbaa
