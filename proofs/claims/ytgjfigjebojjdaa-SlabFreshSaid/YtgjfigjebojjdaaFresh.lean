/- Handles told once: what holds of a slab after so many takings. -/
import Derived.Test.YtgjfigjebojjdaaSlabd
import Derived.Test.YtgjfigjebojjdaaMap
import Derived.Test.YtgjfigjebojjdaaBlkb
namespace Go.Proofs.Ytgjfigjebojjdaa
open Go.RowKit
set_option linter.unusedVariables false
/-- i handles were told (L), those of G have gone, m of n cells are free (F). -/
structure Fresh (n m i : Nat) (H : Nat → Int) (T : Nat → Bool) (F : Nat → Nat) (L G : List Int) : Prop where
  free : ∀ j, j < m → F j < n
  cells : ∀ j, j < n → H j % 4294967296 = j ∧ 0 ≤ H j ∧ H j < 4294967296 * ((i : Int) + 1)
  told : ∀ h, h ∈ L → ∃ j, j < n ∧ h % 4294967296 = j ∧ h ≤ H j
  gone : ∀ h, h ∈ G → ∃ j, j < n ∧ h % 4294967296 = j ∧ 0 ≤ h ∧ h ≤ H j ∧ (h < H j ∨ T j = false)
  len : L.length = i
  count : i + m = G.length + n
theorem Fresh.start (n : Nat) (hn : n ≤ 1024) : Fresh n n 0 (fun i => (i : Int)) (fun _ => false) (fun j => n - 1 - j) [] [] :=
  ⟨fun j hj => by omega, fun j hj => by omega, fun h hh => by simp at hh, fun h hh => by simp at hh, rfl, by simp⟩
variable {n m i : Nat} {H : Nat → Int} {T : Nat → Bool} {F : Nat → Nat} {L G : List Int}
theorem Fresh.take (h : Fresh n (m + 1) i H T F L G) {j : Nat} (hj : F m = j) :
    Fresh n m (i + 1) (fun x => if x = j then H j + 4294967296 else H x) (fun x => if x = j then true else T x) F ((H j + 4294967296) :: L) G ∧ (H j + 4294967296) ∉ L := by
  have hjn : j < n := by have := h.free m (by omega); omega
  have hc := h.cells j hjn
  refine ⟨⟨fun x hx => h.free x (by omega), fun x hx => ?_, fun k hk => ?_, fun k hk => ?_, by simp [h.len], by have := h.count; omega⟩, fun hin => ?_⟩
  · have hx' := h.cells x hx
    by_cases e : x = j
    · subst e; simp only [if_true]; omega
    · simp only [e, if_false]; omega
  · rcases List.mem_cons.1 hk with e | e
    · exact ⟨j, hjn, by omega, by simp [e]⟩
    · obtain ⟨x, h1, h2, h3⟩ := h.told k e
      refine ⟨x, h1, h2, ?_⟩
      by_cases ex : x = j
      · subst ex; simp only [if_true]; omega
      · simp only [ex, if_false]; exact h3
  · obtain ⟨x, h1, h2, h3, h4, h5⟩ := h.gone k hk
    refine ⟨x, h1, h2, h3, ?_, ?_⟩
    · by_cases ex : x = j
      · subst ex; simp only [if_true]; omega
      · simp only [ex, if_false]; exact h4
    · by_cases ex : x = j
      · subst ex; simp only [if_true]; omega
      · simp only [ex, if_false]; exact h5
  · obtain ⟨x, h1, h2, h3⟩ := h.told _ hin
    have : x = j := by omega
    subst this
    omega
theorem Fresh.drop (h : Fresh n m i H T F L G) {j : Nat} (hj : j < n) : Fresh n (m + 1) i H (fun x => if x = j then false else T x) (fun x => if x = m then j else F x) L (G ++ [H j]) := by
  have hc := h.cells j hj
  refine ⟨fun x hx => ?_, h.cells, h.told, fun k hk => ?_, h.len, by have := h.count; simp; omega⟩
  · by_cases e : x = m
    · simp [e, hj]
    · simp only [e, if_false]; exact h.free x (by omega)
  · rcases List.mem_append.1 hk with e | e
    · obtain ⟨x, h1, h2, h3, h4, h5⟩ := h.gone k e
      refine ⟨x, h1, h2, h3, h4, ?_⟩
      by_cases ex : x = j
      · right; simp [ex]
      · simp only [ex, if_false]; exact h5
    · have e : k = H j := by simpa using e
      subst e
      exact ⟨j, hj, hc.1, hc.2.1, Int.le_refl _, .inr (by simp)⟩
theorem Fresh.stale (h : Fresh n m i H T F L G) (hi : i ≤ 1000) {k : Int} (hk : k ∈ G) : aliveB n H T k = false ∧ 0 ≤ k ∧ k ≤ 18446744073709551615 := by
  obtain ⟨x, h1, h2, h3, h4, h5⟩ := h.gone k hk
  have hc := h.cells x h1
  refine ⟨?_, h3, by omega⟩
  unfold aliveB
  rw [show (k % 4294967296).toNat = x by omega]
  rcases h5 with h5 | h5
  · rw [decide_eq_false (show ¬ H x = k by omega)]; simp
  · rw [h5]; simp
end Go.Proofs.Ytgjfigjebojjdaa
