/- A field by its name; its functions. -/
import Derived.Test.YtbajmmgdnegoiaaDoorBxs
import Derived.Test.YtbajmmgdnegoiaaDoorHelpb
import Derived.Test.YtbajmmgdnegoiaaDoorPair
import Derived.Test.YtbajmmgdnegoiaaDoorHelpc
import Derived.Test.YtbajmmgdnegoiaaDoorChecked
import Derived.Lib.Hide
import Derived.WalkKit
import Derived.ProofKit
import Derived.OpenShut
import Derived.Below
namespace Go.Proofs.YtbajmmgdnegoiaaDoor
open Go.ChangeShapes Go.WideShapes Go.ChangeAt Go.RowKit Kn
set_option linter.unusedVariables false
set_option linter.unusedSimpArgs false
theorem store_fn (a : Addr) (fn : Fn) (x y : Array Value) (w : World) : Sem.run Tryd.prog (store a (.func fn x y)) w = stored Tryd.prog w a (.func fn x y) .plain := run_store Tryd.prog w a _ _ rfl
set_option maxHeartbeats 2000000 in
theorem named_int (s : ByteArray) (p : Addr) (w : World) :
    Calls Tryd.prog 39 #[.string s, .pointer (some p)] w fun e w' => e = .returned (.agg #[.string s, .func (.func 47) #[] #[.pointer (some ⟨w.heap.size, 0, none⟩)], .func (.func 48) #[] #[.pointer (some ⟨w.heap.size, 0, none⟩)], .bool false]) ∧ Bxs w w' [(w.heap.size, 78, [.pointer (some p)])] := by
  have hst := store_fn
  go_enter Tryd.func39, Tryd.ntmps39
  go_wp2_with fail
  refine bodyPost_ret (v := .agg #[.string s, .func (.func 47) #[] #[.pointer (some ⟨w.heap.size, 0, none⟩)], .func (.func 48) #[] #[.pointer (some ⟨w.heap.size, 0, none⟩)], .bool false]) (by simp [results, Tryd.results39, go_sem, *]) rfl ⟨rfl, ?_⟩
  exact (((Bxs.nil_ w).alloc_ [.pointer (some p)] 78 rfl).alloc_ [.string s, .func (.func 47) #[] #[.pointer (some ⟨w.heap.size, 0, none⟩)], .func (.func 48) #[] #[.pointer (some ⟨w.heap.size, 0, none⟩)], .bool false] 67 (g := w.heap.size + 1) (by simp)).first_ 1
set_option maxHeartbeats 2000000 in
theorem fread_int (g : Nat) (p : Addr) (n : Int) (w : World) (hg : w.cell? ⟨g, 0, none⟩ = some (.pointer (some p))) (hp : w.cell? p = some (.int .i64 n)) :
    Calls Tryd.prog 47 #[.pointer (some ⟨g, 0, none⟩)] w fun e w' => e = .returned (.int .i64 n) ∧ w = w' := by
  go_enter Tryd.func47, Tryd.ntmps47
  go_wp2_with fail
  go_ret
  exact ⟨rfl, rfl⟩
set_option maxHeartbeats 2000000 in
theorem fwrite_int (g : Nat) (p : Addr) (n m : Int) (w : World) (hg : w.cell? ⟨g, 0, none⟩ = some (.pointer (some p))) (hp : w.cell? p = some (.int .i64 n)) (hz : w.frozen? p = false) :
    Calls Tryd.prog 48 #[.int .i64 m, .pointer (some ⟨g, 0, none⟩)] w fun e w' => e = .returned (.tuple #[]) ∧ w' = w.setCell p (.int .i64 m) := by
  go_enter Tryd.func48, Tryd.ntmps48
  go_wp2_with fail
  exact bodyPost_end (results_none rfl _ _ _) rfl ⟨rfl, rfl⟩
set_option maxHeartbeats 2000000 in
theorem named_i64 (s : ByteArray) (p : Addr) (w : World) :
    Calls Tryd.prog 40 #[.string s, .pointer (some p)] w fun e w' => e = .returned (.agg #[.string s, .func (.func 49) #[] #[.pointer (some ⟨w.heap.size, 0, none⟩)], .func (.func 50) #[] #[.pointer (some ⟨w.heap.size, 0, none⟩)], .bool false]) ∧ Bxs w w' [(w.heap.size, 80, [.pointer (some p)])] := by
  have hst := store_fn
  go_enter Tryd.func40, Tryd.ntmps40
  go_wp2_with fail
  refine bodyPost_ret (v := .agg #[.string s, .func (.func 49) #[] #[.pointer (some ⟨w.heap.size, 0, none⟩)], .func (.func 50) #[] #[.pointer (some ⟨w.heap.size, 0, none⟩)], .bool false]) (by simp [results, Tryd.results40, go_sem, *]) rfl ⟨rfl, ?_⟩
  exact (((Bxs.nil_ w).alloc_ [.pointer (some p)] 80 rfl).alloc_ [.string s, .func (.func 49) #[] #[.pointer (some ⟨w.heap.size, 0, none⟩)], .func (.func 50) #[] #[.pointer (some ⟨w.heap.size, 0, none⟩)], .bool false] 67 (g := w.heap.size + 1) (by simp)).first_ 1
set_option maxHeartbeats 2000000 in
theorem fread_i64 (g : Nat) (p : Addr) (n : Int) (w : World) (hg : w.cell? ⟨g, 0, none⟩ = some (.pointer (some p))) (hp : w.cell? p = some (.int .i64 n)) :
    Calls Tryd.prog 49 #[.pointer (some ⟨g, 0, none⟩)] w fun e w' => e = .returned (.int .i64 n) ∧ w = w' := by
  go_enter Tryd.func49, Tryd.ntmps49
  go_wp2_with fail
  go_ret
  exact ⟨rfl, rfl⟩
set_option maxHeartbeats 2000000 in
theorem fwrite_i64 (g : Nat) (p : Addr) (n m : Int) (w : World) (hg : w.cell? ⟨g, 0, none⟩ = some (.pointer (some p))) (hp : w.cell? p = some (.int .i64 n)) (hz : w.frozen? p = false) :
    Calls Tryd.prog 50 #[.int .i64 m, .pointer (some ⟨g, 0, none⟩)] w fun e w' => e = .returned (.tuple #[]) ∧ w' = w.setCell p (.int .i64 m) := by
  go_enter Tryd.func50, Tryd.ntmps50
  go_wp2_with fail
  exact bodyPost_end (results_none rfl _ _ _) rfl ⟨rfl, rfl⟩
set_option maxHeartbeats 2000000 in
theorem named_q (s : ByteArray) (p : Addr) (w : World) :
    Calls Tryd.prog 41 #[.string s, .pointer (some p)] w fun e w' => e = .returned (.agg #[.string s, .func (.func 51) #[] #[.pointer (some ⟨w.heap.size, 0, none⟩)], .func (.func 52) #[] #[.pointer (some ⟨w.heap.size, 0, none⟩)], .bool false]) ∧ Bxs w w' [(w.heap.size, 82, [.pointer (some p)])] := by
  have hst := store_fn
  go_enter Tryd.func41, Tryd.ntmps41
  go_wp2_with fail
  refine bodyPost_ret (v := .agg #[.string s, .func (.func 51) #[] #[.pointer (some ⟨w.heap.size, 0, none⟩)], .func (.func 52) #[] #[.pointer (some ⟨w.heap.size, 0, none⟩)], .bool false]) (by simp [results, Tryd.results41, go_sem, *]) rfl ⟨rfl, ?_⟩
  exact (((Bxs.nil_ w).alloc_ [.pointer (some p)] 82 rfl).alloc_ [.string s, .func (.func 51) #[] #[.pointer (some ⟨w.heap.size, 0, none⟩)], .func (.func 52) #[] #[.pointer (some ⟨w.heap.size, 0, none⟩)], .bool false] 67 (g := w.heap.size + 1) (by simp)).first_ 1
set_option maxHeartbeats 2000000 in
theorem fread_q (g : Nat) (p : Addr) (n : Int) (w : World) (hg : w.cell? ⟨g, 0, none⟩ = some (.pointer (some p))) (hp : w.cell? p = some (.int .i64 n)) :
    Calls Tryd.prog 51 #[.pointer (some ⟨g, 0, none⟩)] w fun e w' => e = .returned (.int .i64 n) ∧ w = w' := by
  go_enter Tryd.func51, Tryd.ntmps51
  go_wp2_with fail
  go_ret
  exact ⟨rfl, rfl⟩
set_option maxHeartbeats 2000000 in
theorem fwrite_q (g : Nat) (p : Addr) (n m : Int) (w : World) (hg : w.cell? ⟨g, 0, none⟩ = some (.pointer (some p))) (hp : w.cell? p = some (.int .i64 n)) (hz : w.frozen? p = false) :
    Calls Tryd.prog 52 #[.int .i64 m, .pointer (some ⟨g, 0, none⟩)] w fun e w' => e = .returned (.tuple #[]) ∧ w' = w.setCell p (.int .i64 m) := by
  go_enter Tryd.func52, Tryd.ntmps52
  go_wp2_with fail
  exact bodyPost_end (results_none rfl _ _ _) rfl ⟨rfl, rfl⟩
end Go.Proofs.YtbajmmgdnegoiaaDoor
