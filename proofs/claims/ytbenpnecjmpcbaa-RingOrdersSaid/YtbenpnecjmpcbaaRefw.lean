/- The document's ring: what was taken; a new one. -/
import Derived.Test.YtbenpnecjmpcbaaRefz
namespace Go.Proofs.Ytbenpnecjmpcbaa
open Go.RowKit
set_option linter.unusedVariables false
section
variable {w : World} {y po pl : Nat} {v nx : Int} {wl : Bool}
set_option maxHeartbeats 1000000 in
theorem yvalue0 (w : World) (hy : YAt w y 0 nx po pl v wl) :
    Calls Try.prog 31 #[.pointer (some ⟨y, 0, none⟩)] w fun e w' => e = .returned (.int .u64 0) ∧ w = w' := by
  have k0 : w.cell? ⟨y, 0, none⟩ = some (.int .i64 0) := hy.k0
  clear hy
  go_enter Try.func31, Try.ntmps31
  go_wp2
  go_ret
  exact ⟨rfl, rfl⟩
set_option maxHeartbeats 1000000 in
theorem yvalue2n (w : World) (hy : YAt w y 2 nx po pl v false) :
    Calls Try.prog 31 #[.pointer (some ⟨y, 0, none⟩)] w fun e w' => e = .returned (.int .u64 0) ∧ w = w' := by
  have k0 : w.cell? ⟨y, 0, none⟩ = some (.int .i64 2) := hy.k0
  have k5 : w.cell? ⟨y, 5, none⟩ = some (.bool false) := hy.wl5
  clear hy
  go_enter Try.func31, Try.ntmps31
  go_wp2
  go_ret
  exact ⟨rfl, rfl⟩
set_option maxHeartbeats 1000000 in
theorem yvalue2y (w : World) (hy : YAt w y 2 nx po pl v true) :
    Calls Try.prog 31 #[.pointer (some ⟨y, 0, none⟩)] w fun e w' => e = .returned (.int .u64 v) ∧ w = w' := by
  have k0 : w.cell? ⟨y, 0, none⟩ = some (.int .i64 2) := hy.k0
  have k4 : w.cell? ⟨y, 4, none⟩ = some (.int .u64 v) := hy.v4
  have k5 : w.cell? ⟨y, 5, none⟩ = some (.bool true) := hy.wl5
  clear hy
  go_enter Try.func31, Try.ntmps31
  go_wp2
  go_ret
  exact ⟨rfl, rfl⟩
end
end Go.Proofs.Ytbenpnecjmpcbaa
