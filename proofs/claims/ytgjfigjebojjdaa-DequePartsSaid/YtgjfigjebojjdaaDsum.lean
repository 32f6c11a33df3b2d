/- As many members are in rows as rows have members. Plain. -/
import Derived.Test.YtgjfigjebojjdaaDli
namespace Go.Proofs.Ytgjfigjebojjdaa
set_option linter.unusedVariables false
def sumL (L : Nat → List Nat) : Nat → Nat
  | 0 => 0
  | r + 1 => sumL L r + (L r).length
def innL (L : Nat → List Nat) (N : Nat) : Nat → Nat
  | 0 => 0
  | i + 1 => innL L N i + (if 0 ≤ whF L i N then 1 else 0)
def belowL (L : Nat → List Nat) (k : Nat) : Nat → Nat
  | 0 => 0
  | r + 1 => belowL L k r + (L r).countP (fun x => decide (x < k))
def cntL (L : Nat → List Nat) (k : Nat) : Nat → Nat
  | 0 => 0
  | r + 1 => cntL L k r + (L r).count k
theorem countP_step (l : List Nat) (k : Nat) : l.countP (fun x => decide (x < k + 1)) = l.countP (fun x => decide (x < k)) + l.count k := by
  induction l with
  | nil => rfl
  | cons x l ih =>
    simp only [List.countP_cons, List.count_cons, ih]
    by_cases h1 : x < k
    · have h2 : ¬ x = k := by omega
      have h3 : x < k + 1 := by omega
      simp [h1, h2, h3]; omega
    · by_cases h2 : x = k
      · subst h2; simp; omega
      · have h3 : ¬ x < k + 1 := by omega
        simp [h1, h2, h3]
theorem belowL_step (L : Nat → List Nat) (k : Nat) : ∀ N, belowL L (k + 1) N = belowL L k N + cntL L k N
  | 0 => rfl
  | N + 1 => by unfold belowL cntL; rw [belowL_step L k N, countP_step]; omega
theorem count_one {l : List Nat} {k : Nat} (hn : l.Nodup) (hk : k ∈ l) : l.count k = 1 := by
  have h1 := List.nodup_iff_count.1 hn k
  have h2 := List.count_pos_iff.2 hk
  omega
theorem cntL_eq {N M : Nat} {L : Nat → List Nat} (h : Lists N M L) (k : Nat) : ∀ n, n ≤ N → cntL L k n = if 0 ≤ whF L k n then 1 else 0
  | 0, _ => by unfold cntL whF; rfl
  | n + 1, hn => by
    have ih := cntL_eq h k n (by omega)
    unfold cntL whF
    by_cases e : k ∈ L n
    · rw [if_pos (show (L n).contains k = true by simpa using e), count_one (h.nd n (by omega)) e, ih, whF_none n (fun r hr hx => by have := h.ap r n (by omega) (by omega) k hx e; omega)]
      simp
    · rw [if_neg (show ¬ (L n).contains k = true by simpa using e), List.count_eq_zero_of_not_mem e, ih]
      rfl
theorem innL_eq {N M : Nat} {L : Nat → List Nat} (h : Lists N M L) : ∀ k, innL L N k = belowL L k N
  | 0 => by
    have : ∀ n, belowL L 0 n = 0 := fun n => by
      induction n with
      | zero => rfl
      | succ n ih => unfold belowL; rw [ih]; simp
    rw [this]; rfl
  | k + 1 => by unfold innL; rw [innL_eq h k, belowL_step, cntL_eq h k N (Nat.le_refl _)]
theorem below_all {N M : Nat} {L : Nat → List Nat} (h : Lists N M L) : ∀ n, n ≤ N → belowL L M n = sumL L n
  | 0, _ => rfl
  | n + 1, hn => by
    unfold belowL sumL
    rw [below_all h n (by omega), List.countP_eq_length.2]
    intro x hx
    simpa using h.lt n (by omega) x hx
/-- The rows' lengths together are as many as there are members that are in a row. -/
theorem Lists.parts {N M : Nat} {L : Nat → List Nat} (h : Lists N M L) : sumL L N = innL L N M := by rw [innL_eq h, below_all h N (Nat.le_refl _)]
theorem sumL_le {N M : Nat} {L : Nat → List Nat} (h : Lists N M L) : ∀ n, n ≤ N → sumL L n ≤ n * M
  | 0, _ => by simp [sumL]
  | n + 1, hn => by
    unfold sumL
    have := sumL_le h n (by omega)
    have := h.len (r := n) (by omega)
    rw [Nat.add_mul]; omega
theorem innL_le (L : Nat → List Nat) (N : Nat) : ∀ k, innL L N k ≤ k
  | 0 => Nat.le_refl _
  | k + 1 => by unfold innL; have := innL_le L N k; split <;> omega
end Go.Proofs.Ytgjfigjebojjdaa
