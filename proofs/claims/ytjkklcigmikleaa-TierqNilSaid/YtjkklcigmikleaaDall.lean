/- Rows as sequences: who goes through a row, from either end. -/
import Derived.Test.YtjkklcigmikleaaCol
import Derived.Test.YtjkklcigmikleaaDout
namespace Go.Proofs.Ytjkklcigmikleaa
open Go.RowKit Go.Shelf
set_option linter.unusedVariables false
/-- Row r, from an end on: who stands at place j. -/
def away (n : Nat → Nat) (A : Nat → Nat → Nat) (r : Nat) (back : Bool) (j : Nat) : Nat := if back then A r (n r - 1 - j) else A r j
section
variable {p a b R M : Nat} {n : Nat → Nat} {A : Nat → Nat → Nat} {ub : Int}
theorem rows_stops {k m r : Nat} {back : Bool} (w : World) (h : RowsAt w p a b R M n A ub) (hr : r < R) (hm : 1 ≤ m) (hk : k + 1 + 1 + 1 < w.heap.size)
    (hA : AllAt w k (some ⟨p, 0, none⟩) (r : Int) (if back then 1 else 0) (if back then 0 else 1)) :
    SeqStopsK Fence.wide m Try.prog 66 (allv k) encN (Same (Its p a b k)) (fun ys => ys = upto (away n A r back) (n r)) (fun pre => pre <+: upto (away n A r back) (n r)) (n r) w := by
  by_cases hn : n r = 0
  · have hs := all_stops_none (n := m) (Kp := Same (Its p a b k)) (f := if back then 1 else 0) (z0 := 0) w hm hk hA fun W hB => by
      have hl := h.lts
      obtain ⟨E0, E1, C, V, B0, B1, U, h1, h2, h3⟩ := h.below hB hl.1 hl.2.1 hl.2.2
      exact dat_none hr ((h2.cnt r hr).trans (by omega)) _ W h1
    intro l J Jx W hW hJ hJx hY h0
    refine (hs l J Jx W hW hJ hJx (fun pre x W1 h hl => absurd hl (Nat.not_lt_zero _)) h0).mono ?_
    rintro e W' ⟨hv, (⟨ys, rfl, hj⟩ | ⟨pre, hF, _⟩)⟩
    · exact ⟨hv, .inl ⟨[], by rw [hn]; rfl, hj⟩⟩
    · exact hF.elim
  · have hl := h.lts
    obtain ⟨E0, E1, C, V, B0, B1, U, h1, h2, h3⟩ := h
    have hC := h2.cnt r hr
    cases back
    · refine all_stops (n := m) (t := 1) (z0 := E0 r) (o0 := true) w (fun h0 => ?_) (by simp; omega) hm (by omega) hk hA h1 ⟨fun j hj => ?_⟩ fun W hB => ?_
      · have := h2.first r hr
        rw [this]; unfold fst; rw [if_pos h0]; rfl
      · have hx := h2.mem r hr j hj
        refine ⟨hx.1, ?_, ?_⟩
        · show 0 ≤ V (A r j); omega
        · have := h1.b1 hx.1
          rw [hx.2.2.2] at this
          exact this
      · exact dat_first hr (by omega) W (h1.below hB hl.1 hl.2.1 hl.2.2)
    · refine all_stops (n := m) (t := 0) (z0 := E1 r) (o0 := true) w (fun h0 => ?_) (by simp; omega) hm (by omega) hk hA h1 ⟨fun j hj => ?_⟩ fun W hB => ?_
      · have := h2.last r hr
        rw [this]; unfold pv; rw [if_neg (by omega)]; rfl
      · have hx := h2.mem r hr (n r - 1 - j) (by omega)
        refine ⟨hx.1, ?_, ?_⟩
        · show 0 ≤ V (A r (n r - 1 - j)); omega
        · have := h1.b0 hx.1
          rw [hx.2.2.1] at this
          refine this.trans ?_
          unfold pv
          by_cases e : j + 1 < n r
          · rw [if_pos e, if_neg (by omega)]
            show _ = some (Value.int .i64 ((A r (n r - 1 - (j + 1)) : Nat) : Int))
            rw [show n r - 1 - j - 1 = n r - 1 - (j + 1) by omega]
          · rw [if_neg e, if_pos (by omega)]
      · exact dat_last hr (by omega) W (h1.below hB hl.1 hl.2.1 hl.2.2)
theorem rows_stops_out {k m : Nat} {r : Int} {back : Bool} {Kp : World → World → Prop} (w : World) (h : RowsAt w p a b R M n A ub) (hr : r < 0 ∨ (R : Int) ≤ r) (hm : 1 ≤ m) (hk : k + 1 + 1 + 1 < w.heap.size)
    (hA : AllAt w k (some ⟨p, 0, none⟩) r (if back then 1 else 0) (if back then 0 else 1)) :
    SeqStopsK Fence.wide m Try.prog 66 (allv k) encN Kp (fun ys => ys = []) (fun _ => False) 0 w :=
  all_stops_none (z0 := 0) w hm hk hA fun W hB => by
    have hl := h.lts
    obtain ⟨E0, E1, C, V, B0, B1, U, h1, h2, h3⟩ := h.below hB hl.1 hl.2.1 hl.2.2
    exact dat_out hr _ W h1
theorem nil_stops {k m : Nat} {r : Int} {back : Bool} {Kp : World → World → Prop} (w : World) (hm : 1 ≤ m) (hk : k + 1 + 1 + 1 < w.heap.size)
    (hA : AllAt w k none r (if back then 1 else 0) (if back then 0 else 1)) :
    SeqStopsK Fence.wide m Try.prog 66 (allv k) encN Kp (fun ys => ys = []) (fun _ => False) 0 w :=
  all_stops_none (z0 := 0) w hm hk hA fun W hB => dat_nil r _ W
end
end Go.Proofs.Ytjkklcigmikleaa
