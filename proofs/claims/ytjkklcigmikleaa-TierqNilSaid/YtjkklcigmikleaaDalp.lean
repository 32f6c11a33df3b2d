/- A row as a sequence, whose loop is asked of no others than its members. -/
import Derived.Test.YtjkklcigmikleaaDall
import Derived.Test.YtjkklcigmikleaaDli
import Derived.Test.YtjkklcigmikleaaRfn
namespace Go.Proofs.Ytjkklcigmikleaa
open Go.RowKit Go.Shelf
set_option linter.unusedVariables false
section
variable {p a b R M : Nat} {n : Nat → Nat} {A : Nat → Nat → Nat} {L : Nat → List Nat} {ub : Int}
theorem upto_cut (s : Nat → Nat) (N j : Nat) (h : j < N) : (upto s j ++ [s j]) <+: upto s N := by rw [← upto_succ]; exact upto_pre s h
theorem rows_way {k m r : Nat} (w : World) (h : RowsL w p a b R M L ub) (hr : r < R) (hm : 1 ≤ m) (hk : k + 1 + 1 + 1 < w.heap.size) (hA : AllAt w k (some ⟨p, 0, none⟩) (r : Int) 0 1) :
    SeqP Fence.wide m Try.prog 66 (allv k) encN (Same (Its p a b k)) (L r) w := by
  rw [← upto_front (L := L) r]
  intro l J Jx W hW hJ hJx hY h0
  have hJa : AbidesFrom W.heap.size J := fun s X Y row hs hg hr => hJ s X Y row hs hg (fun r e => by obtain ⟨a, o, b, c⟩ := hr r e; exact ⟨a, o, b, Obj.not_cells_of_walk c⟩)
  have hJxa : AbidesFrom W.heap.size Jx := fun s X Y row hs hg hr => hJx s X Y row hs hg (fun r e => by obtain ⟨a, o, b, c⟩ := hr r e; exact ⟨a, o, b, Obj.not_cells_of_walk c⟩)
  have hend : ∀ {e W'}, ((∃ v, e = Ending.returned v) ∧ ((∃ ys, ys = upto (away (lenL L) (getL L) r false) (lenL L r) ∧ J ys W') ∨ (∃ pre, pre <+: upto (away (lenL L) (getL L) r false) (lenL L r) ∧ Jx pre W'))) →
      (∃ v, e = Ending.returned v) ∧ (J (upto (away (lenL L) (getL L) r false) (lenL L r)) W' ∨ ∃ pre, pre <+: upto (away (lenL L) (getL L) r false) (lenL L r) ∧ Jx pre W') := by
    rintro e W' ⟨hv, ⟨ys, rfl, hj⟩ | hx⟩
    · exact ⟨hv, .inl hj⟩
    · exact ⟨hv, .inr hx⟩
  by_cases hn : lenL L r = 0
  · have hs := all_stops_none (n := m) (Kp := Same (Its p a b k)) (f := 0) (z0 := 0) w hm hk hA fun W hB => by
      have hl := RowsAt.lts h
      obtain ⟨E0, E1, C, V, B0, B1, U, h1, h2, h3⟩ := RowsAt.below h hB hl.1 hl.2.1 hl.2.2
      exact dat_none hr ((h2.cnt r hr).trans (by omega)) _ W h1
    refine (hs l J Jx W hW hJa hJxa (fun pre x W1 h hl => absurd hl (Nat.not_lt_zero _)) h0).mono ?_
    rintro e W' ⟨hv, (⟨ys, rfl, hj⟩ | ⟨pre, hF, _⟩)⟩
    · rw [hn]; exact ⟨hv, .inl hj⟩
    · exact hF.elim
  · have hl := RowsAt.lts h
    obtain ⟨E0, E1, C, V, B0, B1, U, h1, h2, h3⟩ := h
    have hC := h2.cnt r hr
    refine CallsIn.mono (all_way (n := m) (t := 1) (s := away (lenL L) (getL L) r false) (N := lenL L r) (z0 := E0 r) (o0 := true) w (fun h0 => ?_) (by simp; omega) hm (by omega) hk hA h1 ⟨fun j hj => ?_⟩ (fun W hB => ?_) l J Jx W hW hJa (fun j W1 hj h => ?_) h0) (fun e W' => hend)
    · have := h2.first r hr
      rw [this]; unfold fst; rw [if_pos h0]; rfl
    · have hx := h2.mem r hr j hj
      refine ⟨hx.1, ?_, ?_⟩
      · show 0 ≤ V (getL L r j); omega
      · have := h1.b1 hx.1
        rw [hx.2.2.2] at this
        exact this
    · exact dat_first hr (by omega) W (h1.below hB hl.1 hl.2.1 hl.2.2)
    · exact YieldAt.mono (hY _ _ W1 h (upto_cut _ _ _ hj)) fun e W2 hh => hh.2
end
end Go.Proofs.Ytjkklcigmikleaa
