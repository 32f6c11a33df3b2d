/- What layer 6's law on queues says of lists of members. -/
import Derived.Test.YtjkklcigmikleaaDeqd
import Derived.Test.YtjkklcigmikleaaSli
import Derived.Test.YtjkklcigmikleaaSeq
import Derived.Test.YtjkklcigmikleaaRow
namespace Go.Proofs.Ytjkklcigmikleaa
open Go.RowKit Go.ChangeShapes Go.WideShapes Go.Deep
set_option linter.unusedVariables false
def nf (l : List Nat) (j : Nat) : Nat := if j = 0 then 1 else if j = 1 then l.length else 0
def Af (l : List Nat) (j x : Nat) : Nat := if j = 1 then l.getD x 0 else 0
theorem nodup_le : ∀ (N : Nat) (l : List Nat), l.Nodup → (∀ x ∈ l, x < N) → l.length ≤ N := by
  intro N
  induction N with
  | zero =>
    intro l _ h
    match l, h with
    | [], _ => exact Nat.le_refl _
    | x :: r, h => exact absurd (h x List.mem_cons_self) (Nat.not_lt_zero _)
  | succ N ih =>
    intro l hn h
    have h2 := ih (l.erase N) (hn.erase N) (fun x hx => by
      have h3 := (hn.mem_erase_iff).1 hx
      have := h x h3.2
      omega)
    rw [List.length_erase] at h2
    split at h2 <;> omega
section
variable {p a b : Nat} {l : List Nat} {ub : Int}
theorem RowsAt.grown_ {R M base size l : Nat} {n : Nat → Nat} {A : Nat → Nat → Nat} {w w' : World} {e : TypeId} {v : Value} {xs : List Value} (h : RowsAt w p a b R M n A ub) (hg : w.grownBy w' v.ownBlock) (ho : w.ownsRow base e size v l xs) (h1 : e ≠ 104) (h2 : e ≠ 107) (h3 : e ≠ 109) : RowsAt w' p a b R M n A ub := by
  obtain ⟨E0, E1, C, W, B0, B1, U, ⟨a1, a2, a3, a4, a5, hd, ⟨cs, bc, cz, cc⟩, ⟨fs, bf, fz, ff⟩⟩, hr, hu⟩ := h
  exact ⟨E0, E1, C, W, B0, B1, U, ⟨a1, a2, a3, a4, a5, hd.grown_ hg ho h1, ⟨cs, bc.grown_ hg ho h2, cz, cc⟩, ⟨fs, bf.grown_ hg ho h3, fz, ff⟩⟩, hr, hu⟩
theorem nf_push (i : Nat) : (fun j => if j = 1 then nf l 1 + 1 else nf l j) = nf (l ++ [i]) := by
  funext j
  unfold nf
  by_cases e : j = 1
  · subst e; simp
  · simp [e]
theorem Af_push (i : Nat) : (fun j k => if j = 1 ∧ k = nf l 1 then i else Af l j k) = Af (l ++ [i]) := by
  funext j k
  unfold Af nf
  by_cases e : j = 1
  · subst e
    by_cases ek : k = l.length
    · simp [ek]
    · by_cases ek2 : k < l.length
      · simp [ek, List.getD_eq_getElem?_getD, List.getElem?_append_left ek2]
      · have : (l ++ [i]).length ≤ k := by simp; omega
        simp [ek, List.getD_eq_getElem?_getD, List.getElem?_eq_none this, List.getElem?_eq_none (show l.length ≤ k by omega)]
  · simp [e]
theorem nf_tail (m : Nat) (hm : m < l.length) : (fun j => if j = 1 then nf (l.drop m) 1 - 1 else nf (l.drop m) j) = nf (l.drop (m + 1)) := by
  funext j
  unfold nf
  by_cases e : j = 1
  · subst e; simp; omega
  · simp [e]
theorem Af_tail (m : Nat) : (fun j x => if j = 1 ∧ 0 ≤ x then Af (l.drop m) 1 (x + 1) else Af (l.drop m) j x) = Af (l.drop (m + 1)) := by
  funext j x
  unfold Af
  by_cases e : j = 1
  · subst e
    simp only [Nat.zero_le, and_self, if_true, List.getD_eq_getElem?_getD, List.getElem?_drop]
    rw [show m + (x + 1) = m + 1 + x by omega]
  · simp [e]
theorem nf_init (m : Nat) (hm : m < l.length) : (fun j => if j = 1 then nf (l.take (m + 1)) 1 - 1 else nf (l.take (m + 1)) j) = nf (l.take m) := by
  funext j
  unfold nf
  by_cases e : j = 1
  · subst e; simp; omega
  · simp [e]
theorem Af_init (m : Nat) (hm : m < l.length) : (fun j x => if j = 1 ∧ m ≤ x then Af (l.take (m + 1)) 1 (x + 1) else Af (l.take (m + 1)) j x) = Af (l.take m) := by
  funext j x
  unfold Af
  by_cases e : j = 1
  · subst e
    by_cases ex : m ≤ x
    · simp only [ex, and_self, if_true, List.getD_eq_getElem?_getD]
      rw [List.getElem?_eq_none (show (l.take (m + 1)).length ≤ x + 1 by simp; omega), List.getElem?_eq_none (show (l.take m).length ≤ x by simp; omega)]
    · simp only [ex, and_false, if_false, if_true, List.getD_eq_getElem?_getD]
      rw [List.getElem?_take_of_lt (by omega), List.getElem?_take_of_lt (by omega)]
  · simp [e]
theorem mem_place {i : Nat} (h : i ∈ l) : ∃ k, k < nf l 1 ∧ Af l 1 k = i := by
  obtain ⟨k, hk, rfl⟩ := List.getElem_of_mem h
  exact ⟨k, by unfold nf; simpa using hk, by unfold Af; simp [List.getD_eq_getElem?_getD, List.getElem?_eq_getElem hk]⟩
theorem not_place {i : Nat} (h : i ∉ l) (h0 : i ≠ 0) : ∀ r', r' < 3 → ∀ k, k < nf l r' → Af l r' k ≠ i := by
  intro r' hr' k hk
  unfold nf at hk
  unfold Af
  by_cases e : r' = 1
  · subst e
    simp only [if_true] at hk ⊢
    have hk' : k < l.length := by simpa using hk
    rw [List.getD_eq_getElem?_getD, List.getElem?_eq_getElem hk']
    intro c
    exact h (c ▸ List.getElem_mem hk')
  · simp only [e, if_false]; exact Ne.symm h0
end
section
variable {H : Type} {enc : TypeId × Value → H} {w : World}
end
theorem iinfo6 : (Try.prog.info? 3).map (fun i => (i.zero, i.size, i.bytes)) = some (some (.int .i64 0), 1, 8) := by kernel_rfl
theorem RowsAt.more {p a b R M : Nat} {n : Nat → Nat} {A : Nat → Nat → Nat} {ub ub' : Int} {w : World} (h : RowsAt w p a b R M n A ub) (hu : ub ≤ ub') : RowsAt w p a b R M n A ub' := by
  obtain ⟨E0, E1, C, W, B0, B1, U, h1, h2, h3⟩ := h
  exact ⟨E0, E1, C, W, B0, B1, U, h1, h2, fun i => by have := h3 i; omega⟩
end Go.Proofs.Ytjkklcigmikleaa
