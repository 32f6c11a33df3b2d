/- A number without a sign, and back, as the program and the document reckon it. -/
import Derived.Test.YtmnkmnnngfgbgaaCla
import Derived.WalkKit
import Derived.IntWalk
namespace Go.Proofs.Ytmnkmnnngfgbgaa
open Go.RowKit Go.ChangeShapes Go.WideShapes Go.Deep
set_option linter.unusedVariables false
set_option linter.unusedSimpArgs false
theorem ret_eq {k : IntKind} {a b : Int} (h : a = b) : Ending.returned (.int k a) = .returned (.int k b) := by rw [h]
set_option maxHeartbeats 1000000 in
theorem unsigned_any (n : Int) (w : World) (h0 : -9223372036854775808 ≤ n) (h1 : n ≤ 9223372036854775807) :
    Calls Try.prog 28 #[.int .i64 n] w fun e w' => e = .returned (.int .u64 (unz n)) ∧ w = w' := by
  by_cases hn : n < 0
  · have hu : ((unz n : Nat) : Int) = 2 * (-1 - n) + 1 := by unfold unz; rw [if_pos hn]; omega
    have HU := Lib.hid hu
    clear hu
    go_enter Try.func28, Try.ntmps28
    go_wp2
    go_ret
    exact ⟨ret_eq (by rw [HU.out]), rfl⟩
  · have hu : ((unz n : Nat) : Int) = 2 * n := by unfold unz; rw [if_neg hn]; omega
    have HU := Lib.hid hu
    clear hu
    go_enter Try.func28, Try.ntmps28
    go_wp2
    go_ret
    exact ⟨ret_eq (by rw [HU.out]), rfl⟩
set_option maxHeartbeats 1000000 in
theorem plain_any (n : Int) (w : World) (h0 : -9223372036854775808 ≤ n) (h1 : n ≤ 9223372036854775807) :
    Calls Try.prog 21 #[.int .i64 n] w fun e w' => e = .returned (.int .u64 (unz n)) ∧ w = w' := by
  by_cases hn : n < 0
  · have hu : ((unz n : Nat) : Int) = 2 * (-(n + 1)) + 1 := by unfold unz; rw [if_pos hn]; omega
    have HU := Lib.hid hu
    clear hu
    go_enter Try.func21, Try.ntmps21
    go_wp2
    go_ret
    exact ⟨ret_eq (by rw [HU.out]), rfl⟩
  · have hu : ((unz n : Nat) : Int) = 2 * n := by unfold unz; rw [if_neg hn]; omega
    have HU := Lib.hid hu
    have hn2 : 0 ≤ n := by omega
    clear hu
    go_enter Try.func21, Try.ntmps21
    go_wp2
    go_ret
    exact ⟨ret_eq (by rw [HU.out]), rfl⟩
set_option maxHeartbeats 1000000 in
theorem signed_any (n : Int) (w : World) (h0 : -9223372036854775808 ≤ n) (h1 : n ≤ 9223372036854775807) :
    Calls Try.prog 24 #[.int .u64 (unz n)] w fun e w' => e = .returned (.int .i64 n) ∧ w = w' := by
  obtain ⟨u, hu⟩ : ∃ u : Int, (unz n : Int) = u := ⟨_, rfl⟩
  have hb : 0 ≤ u ∧ u ≤ 18446744073709551615 := by have := unz_lt h0 h1; omega
  obtain ⟨hb0, hb1⟩ := hb
  by_cases hn : n < 0
  · have hv : u = 2 * (-1 - n) + 1 := by rw [← hu]; unfold unz; rw [if_pos hn]; omega
    have HV := Lib.hid hv
    rw [hu]
    have hm : decide (u % 2 = 1) = true := decide_eq_true (by omega)
    have hm2 : u % 2 = 1 := by omega
    have hd : 0 ≤ u / 2 ∧ u / 2 ≤ 9223372036854775807 := by omega
    obtain ⟨hd0, hd1⟩ := hd
    have he : -1 - u / 2 = n := by omega
    have HE := Lib.hid he
    have hg : -9223372036854775808 ≤ -1 - u / 2 := by omega
    clear hv hu hm hm2 he
    have hm : (u % 2 == 1) = true := by rw [beq_iff_eq]; have := HV.out; omega
    go_enter Try.func24, Try.ntmps24
    go_wp2
    go_ret
    exact ⟨ret_eq HE.out, rfl⟩
  · have hv : u = 2 * n := by rw [← hu]; unfold unz; rw [if_neg hn]; omega
    have HV := Lib.hid hv
    rw [hu]
    have hd : 0 ≤ u / 2 ∧ u / 2 ≤ 9223372036854775807 := by omega
    obtain ⟨hd0, hd1⟩ := hd
    have he : u / 2 = n := by omega
    have HE := Lib.hid he
    clear hv hu he
    have hm : (u % 2 == 1) = false := by rw [beq_eq_false_iff_ne]; have := HV.out; omega
    go_enter Try.func24, Try.ntmps24
    go_wp2
    go_ret
    exact ⟨ret_eq HE.out, rfl⟩
end Go.Proofs.Ytmnkmnnngfgbgaa
