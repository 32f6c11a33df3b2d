/- slices.Collect of what an iterator gives: a slice of a block of its own. -/
import Derived.Test.YtjkklcigmikleaaAll
import Derived.Test.YtjkklcigmikleaaSli
namespace Go.Proofs.Ytjkklcigmikleaa
open Go.RowKit Go.Shelf
set_option linter.unusedVariables false
attribute [local go_sem] Oper.semAt_some
theorem ints_snoc (l : List Nat) (x : Nat) : ints (l ++ [x]) = ints l ++ [.int .i64 (x : Int)] := by simp [ints]
theorem ints_len (l : List Nat) : (ints l).length = l.length := by simp [ints]
theorem iinfoc : (Try.prog.info? 3).map (fun i => (i.zero, i.size, i.bytes)) = some (some (.int .i64 0), 1, 8) := by kernel_rfl
end Go.Proofs.Ytjkklcigmikleaa
