/- What the document's law, and its count, answer. -/
import Derived.Test.YtkmhdkhaoegbjaaCods
import Derived.Test.YtkmhdkhaoegbjaaRefd
import Derived.Test.YtkmhdkhaoegbjaaRefg
import Derived.Test.YtkmhdkhaoegbjaaRefq
namespace Go.Proofs.Ytkmhdkhaoegbjaa
open Go.ChangeShapes Go.WideShapes Go.ChangeAt Go.RowKit Kn
set_option linter.unusedVariables false
theorem lawR_Z (i n : Int) : lawR i n = lawZ i n := by
  unfold lawR lawZ
  by_cases h : i < 0
  · rw [if_pos (by omega), if_pos h]
  · by_cases h0 : i = 0
    · subst h0
      rw [if_pos (by omega), if_neg h]
      have a := law_le 0 n (by omega)
      have b := law0 0 n
      omega
    · rw [if_neg (by omega), if_neg h]
theorem rrlaw_z (i n : Int) (w : World) (i1 : i ≤ 9223372036854775807) (n0 : 0 ≤ n) (n1 : n ≤ 18446744073709551615) :
    Calls Try.prog 19 #[.int .i64 i, .int .u64 n] w fun e w' => e = .returned (.int .i64 (lawZ i n)) ∧ Below w.heap.size w w' := by
  rw [← lawR_Z]; exact rrlaw_any i n w i1 n0 n1
theorem rmore_any (n : Int) (w : World) (n0 : 0 ≤ n) (n1 : n ≤ 18446744073709551615) :
    Calls Try.prog 25 #[.int .u64 n] w fun e w' => e = .returned (.int .u64 (upC n)) ∧ w = w' := by
  by_cases h : n < 18446744073709551615
  · have e : upC n = n + 1 := by unfold upC; rw [if_pos h]
    have hne : ¬ n = 18446744073709551615 := by omega
    have hw : IntKind.u64.wrap (n + 1) = n + 1 := by simp only [IntKind.wrap, IntKind.bits, IntKind.signed]; simp; omega
    rw [e]; clear e
    go_enter Try.func25, Try.ntmps25
    go_wp2
    go_ret
    exact ⟨rfl, rfl⟩
  · have hn : n = 18446744073709551615 := by omega
    subst hn
    go_enter Try.func25, Try.ntmps25
    go_wp2
    go_ret
    exact ⟨rfl, rfl⟩
end Go.Proofs.Ytkmhdkhaoegbjaa
