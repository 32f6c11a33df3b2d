/- Who is due: where a heap's walk goes. No program. -/
import Derived.Test.YtjkklcigmikleaaHpi
namespace Go.Proofs.Ytjkklcigmikleaa
set_option linter.unusedVariables false
/-- The places whose entries are due, from q down, in the order of the walk. -/
def dueI (m : Nat) (E : Nat → En) (key : Int) : Nat → Nat → List Nat
  | 0, _ => []
  | K + 1, q => if q < m ∧ (E q).k ≤ key then q :: (dueI m E key K (2 * q + 1) ++ dueI m E key K (2 * q + 2)) else []
section
variable {m : Nat} {E : Nat → En} {key : Int}
theorem dueI_sub : ∀ (K q j : Nat), j ∈ dueI m E key K q → j < m ∧ (E j).k ≤ key ∧ ∃ d, (j + 1) / 2 ^ d = q + 1
  | 0, _, _, h => by simp [dueI] at h
  | K + 1, q, j, h => by
    unfold dueI at h
    split at h
    · rename_i hc
      simp only [List.mem_cons, List.mem_append] at h
      rcases h with h | h | h
      · subst h; exact ⟨hc.1, hc.2, 0, by simp⟩
      · obtain ⟨h1, h2, d, hd⟩ := dueI_sub K _ _ h
        exact ⟨h1, h2, d + 1, by rw [Nat.pow_succ, ← Nat.div_div_eq_div_mul, hd]; omega⟩
      · obtain ⟨h1, h2, d, hd⟩ := dueI_sub K _ _ h
        exact ⟨h1, h2, d + 1, by rw [Nat.pow_succ, ← Nat.div_div_eq_div_mul, hd]; omega⟩
    · simp at h
theorem up_le {j d e a b : Nat} (h : (j + 1) / 2 ^ d = a) (k : (j + 1) / 2 ^ (d + e) = b) : b = a / 2 ^ e := by
  rw [Nat.pow_add, ← Nat.div_div_eq_div_mul, h] at k; exact k.symm
theorem half_le (a e : Nat) : a / 2 ^ (e + 1) ≤ a / 2 := by
  rw [Nat.pow_succ, Nat.mul_comm, ← Nat.div_div_eq_div_mul]
  exact Nat.div_le_self _ _
/-- Two that are not above one another have nothing below them in common. -/
theorem apart_ {j d e a b : Nat} (h : (j + 1) / 2 ^ d = a) (k : (j + 1) / 2 ^ e = b) (hab : a ≠ b) (h1 : a / 2 < b) (h2 : b / 2 < a) : False := by
  rcases Nat.lt_trichotomy d e with hl | hl | hl
  · obtain ⟨f, rfl⟩ : ∃ f, e = d + (f + 1) := ⟨e - d - 1, by omega⟩
    have := up_le h k
    have := half_le a f
    omega
  · subst hl; omega
  · obtain ⟨f, rfl⟩ : ∃ f, d = e + (f + 1) := ⟨d - e - 1, by omega⟩
    have := up_le k h
    have := half_le b f
    omega
theorem dueI_nodup : ∀ (K q : Nat), (dueI m E key K q).Nodup
  | 0, _ => by simp [dueI]
  | K + 1, q => by
    unfold dueI
    split
    · refine List.nodup_cons.2 ⟨fun h => ?_, List.nodup_append.2 ⟨dueI_nodup K _, dueI_nodup K _, fun x hx y hy e => ?_⟩⟩
      · rcases List.mem_append.1 h with h | h
        · obtain ⟨_, _, d, hd⟩ := dueI_sub K _ _ h
          have := Nat.div_le_self (q + 1) (2 ^ d)
          omega
        · obtain ⟨_, _, d, hd⟩ := dueI_sub K _ _ h
          have := Nat.div_le_self (q + 1) (2 ^ d)
          omega
      · subst e
        obtain ⟨_, _, d, hd⟩ := dueI_sub K _ _ hx
        obtain ⟨_, _, e, he⟩ := dueI_sub K _ _ hy
        exact apart_ hd he (by omega) (by omega) (by omega)
    · simp
theorem key_up (ho : Ord m E) : ∀ (d j q : Nat), j < m → (j + 1) / 2 ^ d = q + 1 → (E q).k ≤ (E j).k
  | 0, j, q, _, h => by simp at h; subst h; exact Int.le_refl _
  | d + 1, j, q, hj, h => by
    obtain ⟨r, hr⟩ : ∃ r, (j + 1) / 2 ^ d = r := ⟨_, rfl⟩
    rw [Nat.pow_succ, ← Nat.div_div_eq_div_mul, hr] at h
    have hrj : r ≤ j + 1 := by rw [← hr]; exact Nat.div_le_self _ _
    have h1 := key_up ho d j (r - 1) hj (by omega)
    have h2 := ho (r - 1) (by omega) (by omega)
    have h3 : (r - 1 - 1) / 2 = q := by omega
    rw [h3] at h2
    unfold ltE at h2
    omega
theorem dueI_all (ho : Ord m E) : ∀ (d K j q : Nat), j < m → (E j).k ≤ key → (j + 1) / 2 ^ d = q + 1 → m ≤ K + q → j ∈ dueI m E key K q
  | d, 0, j, q, hj, hk, h, hm => by
    have : (j + 1) / 2 ^ d ≤ j + 1 := Nat.div_le_self _ _
    omega
  | 0, K + 1, j, q, hj, hk, h, hm => by
    simp at h
    subst h
    unfold dueI
    rw [if_pos ⟨hj, hk⟩]
    simp
  | d + 1, K + 1, j, q, hj, hk, h, hm => by
    have hq := key_up ho (d + 1) j q hj h
    have hqj : q + 1 ≤ j + 1 := by rw [← h]; exact Nat.div_le_self _ _
    obtain ⟨r, hr⟩ : ∃ r, (j + 1) / 2 ^ d = r := ⟨_, rfl⟩
    rw [Nat.pow_succ, ← Nat.div_div_eq_div_mul, hr] at h
    unfold dueI
    rw [if_pos ⟨by omega, by omega⟩]
    rw [List.mem_cons, List.mem_append]
    by_cases he : r = 2 * q + 2
    · exact .inr (.inl (dueI_all ho d K j (2 * q + 1) hj hk (by omega) (by omega)))
    · exact .inr (.inr (dueI_all ho d K j (2 * q + 2) hj hk (by omega) (by omega)))
theorem nodup_len {l : List Nat} {m : Nat} (h : l.Nodup) (hm : ∀ j, j ∈ l → j < m) : l.length ≤ m := by
  refine pigeon m l.length (fun k => l.getD k 0) (fun k hk => ?_) (fun i j hi hj e => ?_)
  · rw [List.getD_eq_getElem?_getD, List.getElem?_eq_getElem hk]; exact hm _ (List.getElem_mem hk)
  · have e : l.getD i 0 = l.getD j 0 := e
    rw [List.getD_eq_getElem?_getD, List.getD_eq_getElem?_getD, List.getElem?_eq_getElem hi, List.getElem?_eq_getElem hj] at e
    exact (List.getElem_inj h).1 e
theorem dueI_len (K q : Nat) : (dueI m E key K q).length ≤ m := nodup_len (dueI_nodup K q) fun j hj => (dueI_sub K q j hj).1
/-- Just those that are due, each once. -/
theorem dueI_mem (ho : Ord m E) (j : Nat) : j ∈ dueI m E key m 0 ↔ j < m ∧ (E j).k ≤ key := by
  constructor
  · intro h; obtain ⟨h1, h2, _⟩ := dueI_sub _ _ _ h; exact ⟨h1, h2⟩
  · rintro ⟨h1, h2⟩
    have : ∃ d, (j + 1) / 2 ^ d = 1 := by
      have key : ∀ n, 0 < n → ∃ d, n / 2 ^ d = 1 := by
        intro n
        induction n using Nat.strongRecOn with
        | ind n ih =>
          intro h0
          by_cases h1 : n = 1
          · exact ⟨0, by simp [h1]⟩
          · obtain ⟨d, hd⟩ := ih (n / 2) (by omega) (by omega)
            exact ⟨d + 1, by rw [Nat.pow_succ, Nat.mul_comm, ← Nat.div_div_eq_div_mul]; exact hd⟩
      exact key _ (by omega)
    obtain ⟨d, hd⟩ := this
    exact dueI_all ho d m j 0 h1 h2 (by omega) (by omega)
end
end Go.Proofs.Ytjkklcigmikleaa
