/- Both slabs side by side: a handle more is told (append), in a walk. -/
import Derived.Test.YtjhcppiamkkdbaaSlu
namespace Go.Proofs.Ytjhcppiamkkdbaa
open Go.RowKit Go.Deep
set_option linter.unusedVariables false
theorem u64info : (Try.prog.info? 31).map (fun i => (i.zero, i.size, i.bytes)) = some (some (.int .u64 0), 1, 8) := by kernel_rfl
theorem wpList_tell {w0 w : World} {B : Nat} {x : Sn} {s : Sp} {r : Sr} {tv : Value} {ts : List Int} {ga : Nat} {ac : Array Value} {ops : Array Oper} {rest : List Oper} {o : Oper} {a : Act} {Q : Exit → Act → World → Prop} (hgd : o.guard = none) (p q : Operand)
    (ho : o.op = .call { callee := .builtin .append, args := #[p, q], argTypes := #[32, 32] }) {g : Nat} {z : Int} (hs : a.eval p = tv) (hx : a.eval q = .slice (some ⟨g, 0, none⟩) 1 1) (H : Sd w0 w B x s r tv ts ga ac) (hg : Blk w g 31 #[.int .u64 z]) (hl : ts.length ≤ 100000)
    (h : ∀ v' w', Sd w0 w' B x s r v' (ts ++ [z]) ga ac → wpList Try.prog ops Q rest (a.put o.dst v') w') : wpList Try.prog ops Q (o :: rest) a w := by
  obtain ⟨i, hi, hzz⟩ := Option.map_eq_some_iff.1 u64info
  simp only [Prod.mk.injEq] at hzz
  obtain ⟨hz0, hz1, hz2⟩ := hzz
  refine wpList_append_own_at w hgd p q 32 ho B 31 i (.int .u64 0) 1 8 Try.underlying32 hi hz0 hz1 hz2 rfl (by decide) tv ts.length (u64s ts) hs H.t ⟨g, 0, none⟩ 1 1 [.int .u64 z] hx rfl (fun j u hj => ?_) (fun u hu => by simp at hu; subst hu; rfl) (by unfold maxLen; omega) (by omega) (by have := H.a.size; have := H.ga0; omega) ?_
  · match j, hj with
    | 0, hj => simp at hj; subst hj; exact hg.val rfl
  · intro v' w' h1 h2 _ h3
    exact h v' w' (H.tell h2 h1)
end Go.Proofs.Ytjhcppiamkkdbaa
