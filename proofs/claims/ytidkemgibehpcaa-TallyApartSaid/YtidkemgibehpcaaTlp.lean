/- Two more logs beside a filled one: what an Add to one leaves of the others. -/
import Derived.Test.YtidkemgibehpcaaTlo
namespace Go.Proofs.Ytidkemgibehpcaa
open Go.RowKit
set_option linter.unusedVariables false
set_option linter.unusedSimpArgs false
section
variable {w w' : World} {b p p1 p2 : Nat} {r r1 r2 : Option Nat} {L L1 L2 S : List Oc}
theorem log_rebase {base : Nat} (h : LogAt base w p none []) (hb : LogAt base w p none [] → True) (b' : Nat) : LogAt b' w p none [] := by
  obtain ⟨v, hv, ho, hr⟩ := h.ex
  rcases ho.2 with ⟨rfl, _⟩ | ⟨g, cap, cur, rfl, _⟩
  · exact ⟨_, hv, OwO.nil_ _ _ _, rfl⟩
  · cases hr
theorem log_weak {b' : Nat} (h : LogAt b w p r L) (hb : b' ≤ b) : LogAt b' w p r L := by
  obtain ⟨v, h1, h2, h3⟩ := h.ex
  exact ⟨v, h1, own_le h2 hb, h3⟩
theorem log_other (h : LogAt b w p2 r2 L2) (hl : LogAt b w p1 r1 L1) (hp : p1 ≠ p2) (hr : ∀ g, r1 = some g → r2 ≠ some g) (hk : Kept (fun k => k = p1 ∨ r1 = some k) w w') : LogAt b w' p2 r2 L2 := by
  refine h.kept hk ?_ fun g hg => ?_
  · rintro (e | e)
    · exact hp e.symm
    · obtain ⟨cs, hc⟩ := (hl.row e).2
      obtain ⟨cs2, hc2⟩ := h.head
      exact hc.other hc2 (by decide) rfl
  · rintro (e | e)
    · obtain ⟨cs, hc⟩ := (h.row hg).2
      obtain ⟨cs2, hc2⟩ := hl.head
      exact hc.other hc2 (by decide) e
    · exact hr g e hg
theorem own_other {base : Nat} {v : Value} (h : OwO tT w base v S) (hv : ∀ g, v.ownBlock = some g → g < b) (hl : LogAt b w p1 r1 L1) (hk : Kept (fun k => k = p1 ∨ r1 = some k) w w') : OwO tT w' base v S := by
  refine OwO.kept h hk fun g hg => ?_
  rintro (e | e)
  · obtain ⟨cs, hc⟩ := (OwO.own_lt h hg).2
    obtain ⟨cs2, hc2⟩ := hl.head
    exact hc.other hc2 (by decide) e
  · have := (hl.row e).1
    have := hv g hg
    omega
theorem rows_apart (h2 : LogAt b w p2 r2 L2) (hr : ∀ g, r1 = some g → r2 ≠ some g) {r1' : Option Nat} (h : r1' = r1 ∨ ∃ g, r1' = some g ∧ w.heap.size ≤ g) : ∀ g, r1' = some g → r2 ≠ some g := by
  intro g hg e
  rcases h with rfl | ⟨g', e', hl⟩
  · exact hr g hg e
  · rw [e'] at hg
    injection hg with hg
    subst hg
    obtain ⟨cs, hc⟩ := (h2.row e).2
    have := hc.size
    omega
theorem rows_apart' (h1 : LogAt b w p1 r1 L1) (hr : ∀ g, r1 = some g → r2 ≠ some g) {r2' : Option Nat} (h : r2' = r2 ∨ ∃ g, r2' = some g ∧ w.heap.size ≤ g) : ∀ g, r1 = some g → r2' ≠ some g := by
  intro g hg e
  rcases h with rfl | ⟨g', e', hl⟩
  · exact hr g hg e
  · rw [e'] at e
    injection e with e
    subst e
    obtain ⟨cs, hc⟩ := (h1.row hg).2
    have := hc.size
    omega
theorem log_since0 (h : LogAt b w p r L) (hl : L.length ≤ 1000) : Calls Try.prog 18 #[.pointer (some ⟨p, 0, none⟩), .int .i64 0] w fun e w' => ∃ A' c', e = .returned (.slice A' L.length c') ∧ OwO tT w' w.heap.size (.slice A' L.length c') L ∧ Below w.heap.size w w' := by
  refine (tsince 0 w h hl).mono ?_
  rintro e w' ⟨v', rfl, ho, hb⟩
  obtain ⟨A', c', rfl, -⟩ := ho.rd
  exact ⟨A', c', rfl, ho, hb⟩
theorem log_count (h : LogAt b w p r L) (tier why : Int) (hS : L.filter (someB tier why) = S) (hl : L.length ≤ 1000) : Calls Try.prog 12 #[.pointer (some ⟨p, 0, none⟩), .int .i64 tier, .int .u8 why] w fun e w' => e = .returned (.int .i64 (S.length : Int)) ∧ Below w.heap.size w w' := by
  rw [← hS]
  exact tcount tier why w h hl
/-- Those of a prefix, and of the rest. -/
theorem take_min_snoc {n k : Nat} (h : n < L.length) : L.take (min (n + 1) k) = if n < k then L.take (min n k) ++ [L[n]!] else L.take (min n k) := by
  by_cases hk : n < k
  · rw [if_pos hk, Nat.min_eq_left (by omega), Nat.min_eq_left (by omega), take_snoc_ h]
  · rw [if_neg hk, Nat.min_eq_right (by omega), Nat.min_eq_right (by omega)]
theorem cnt_parts (k : Nat) (f : Oc → Bool) : (L.filter f).length = ((L.take k).filter f).length + ((L.drop k).filter f).length := by
  rw [← List.length_append, ← List.filter_append, List.take_append_drop]
end
end Go.Proofs.Ytidkemgibehpcaa
