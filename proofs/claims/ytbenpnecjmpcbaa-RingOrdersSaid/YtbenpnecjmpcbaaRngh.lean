/- A ring at rest is a queue: TryPush, TryPop. -/
import Derived.Test.YtbenpnecjmpcbaaRngg
namespace Go.Proofs.Ytbenpnecjmpcbaa
open Go.RowKit
set_option linter.unusedVariables false
/-- At rest the ring holds the list l. -/
structure Rest (n : Nat) (g : Rg) (l : List Int) : Prop where
  len : l.length ≤ n
  tail : g.T = g.H + l.length
  full : ∀ k, (hk : k < l.length) → g.S ((g.H + k) % n) = g.H + k + 1 ∧ g.V ((g.H + k) % n) = l[k]
  free : ∀ k, l.length ≤ k → k < n → g.S ((g.H + k) % n) = g.H + k
theorem mod_inj {n a b : Nat} (h : a % n = b % n) (hab : a ≤ b) (hl : b - a < n) : a = b := by
  have := Nat.sub_mod_eq_zero_of_mod_eq h.symm
  rw [Nat.mod_eq_of_lt hl] at this
  omega
theorem mod_ne {n H k k' : Nat} (hk : k < n) (hk' : k' < n) (hne : k ≠ k') : (H + k) % n ≠ (H + k') % n := by
  intro h
  rcases Nat.le_total k k' with hc | hc
  · have := mod_inj h (by omega) (by omega); omega
  · have := mod_inj h.symm (by omega) (by omega); omega
theorem Rest.push {n : Nat} {g : Rg} {l : List Int} (h : Rest n g l) (hl : l.length < n) (v : Int) {j : Nat} (hj : g.T % n = j) :
    Rest n { g with T := g.T + 1, S := fun i => if i = j then g.T + 1 else g.S i, V := fun i => if i = j then v else g.V i } (l ++ [v]) := by
  have hT := h.tail
  have hj' : (g.H + l.length) % n = j := by rw [← hT]; exact hj
  refine ⟨by simp; omega, by simp; omega, fun k hk => ?_, fun k hk hkn => ?_⟩
  · simp only [List.length_append, List.length_cons, List.length_nil] at hk
    by_cases e : k < l.length
    · have hne : (g.H + k) % n ≠ j := by rw [← hj']; exact mod_ne (by omega) (by omega) (by omega)
      simp only [hne, if_false]
      rw [List.getElem_append_left e]
      exact h.full k e
    · obtain rfl : k = l.length := by omega
      simp only [hj', if_true]
      rw [List.getElem_append_right (Nat.le_refl _)]
      exact ⟨by omega, by simp⟩
  · simp only [List.length_append, List.length_cons, List.length_nil] at hk
    have hne : (g.H + k) % n ≠ j := by rw [← hj']; exact mod_ne (by omega) (by omega) (by omega)
    simp only [hne, if_false]
    exact h.free k (by omega) hkn
theorem Rest.pop {n : Nat} {g : Rg} {x : Int} {l : List Int} (h : Rest n g (x :: l)) {j : Nat} (hj : g.H % n = j) :
    g.V j = x ∧ g.S j = g.H + 1 ∧ Rest n { g with H := g.H + 1, S := fun i => if i = j then g.H + n else g.S i } l := by
  have hT := h.tail
  have hlen := h.len
  simp only [List.length_cons] at hT hlen
  have h0 := h.full 0 (by simp)
  rw [Nat.add_zero, hj] at h0
  refine ⟨by simpa using h0.2, by omega, by simpa using Nat.le_of_succ_le hlen, by simp; omega, fun k hk => ?_, fun k hk hkn => ?_⟩
  · have e : g.H + 1 + k = g.H + (k + 1) := by omega
    have hne : (g.H + (k + 1)) % n ≠ j := by rw [← hj]; exact mod_ne (k' := 0) (by omega) (by omega) (by omega)
    simp only [e, hne, if_false]
    have := h.full (k + 1) (by simp; omega)
    exact ⟨by omega, by simpa using this.2⟩
  · have e : g.H + 1 + k = g.H + (k + 1) := by omega
    simp only [e]
    by_cases c : k + 1 = n
    · have : (g.H + (k + 1)) % n = j := by rw [c, Nat.add_mod_right, hj]
      simp only [this, if_true]
      omega
    · have hne : (g.H + (k + 1)) % n ≠ j := by rw [← hj]; exact mod_ne (k' := 0) (by omega) (by omega) (by omega)
      simp only [hne, if_false]
      exact h.free (k + 1) (by simp; omega) (by omega)
theorem kept_mine {w w1 w' : World} {r s : Nat} (hb : Below w.heap.size w w1) (hk : Kept (Mine w.heap.size r s) w1 w') : Kept (fun k => k = r ∨ k = s) w w' :=
  ⟨hk.os.trans hb.os, hk.tape.trans hb.tape, hk.output.trans hb.output, Nat.le_trans hb.size hk.size, fun k h1 h2 => (hk.block k (by have := hb.size; omega) (fun c => by
    rcases c with c | c
    · omega
    · exact h2 c)).trans (hb.block k h1)⟩
section
variable {r s n : Nat} {g : Rg} {l : List Int}
set_option maxHeartbeats 1000000 in
theorem rpush_yes {a : Nat} (v : Int) (w : World) (h : RingAt w r s n g) (ha : ActAt w a r ⟨2, 0, 0, v, 0, false, false⟩) (hq : Rest n g l) (hl : l.length < n) (hT : g.T ≤ 900000) {j : Nat} (hj : g.T % n = j) :
    Calls Try.prog 24 #[.pointer (some ⟨a, 0, none⟩)] w fun e w' => (∃ u, e = .returned u) ∧
      (RingAt w' r s n { g with T := g.T + 1, S := fun i => if i = j then g.T + 1 else g.S i, V := fun i => if i = j then v else g.V i } ∧ ActAt w' a r ⟨1, g.T, g.T, v, 0, true, false⟩ ∧ Kept (Mine a r s) w w') := by
  have hS : g.S j = g.T := by
    have := hq.free l.length (Nat.le_refl _) hl
    rw [← hq.tail, hj] at this
    exact this
  refine rfinish (fun x w' => (x = 2 ∧ RingAt w' r s n g ∧ ActAt w' a r ⟨2, 0, 0, v, 0, false, false⟩ ∧ Kept (Mine a r s) w w')
    ∨ (x = 3 ∧ RingAt w' r s n g ∧ ActAt w' a r ⟨3, g.T, 0, v, 0, true, false⟩ ∧ Kept (Mine a r s) w w')
    ∨ (x = 4 ∧ RingAt w' r s n g ∧ ActAt w' a r ⟨4, g.T, 0, v, 0, true, false⟩ ∧ Kept (Mine a r s) w w')
    ∨ (x = 6 ∧ RingAt w' r s n { g with T := g.T + 1 } ∧ ActAt w' a r ⟨6, g.T, g.T, v, 0, true, false⟩ ∧ Kept (Mine a r s) w w')) _ ?_ ?_ 2 w (.inl ⟨rfl, h, ha, Kept.refl _ _⟩)
  · rintro x w' (⟨rfl, _, h2, _⟩ | ⟨rfl, _, h2, _⟩ | ⟨rfl, _, h2, _⟩ | ⟨rfl, _, h2, _⟩) <;> exact h2.nx
  · rintro x w' (⟨rfl, h1, h2, h3⟩ | ⟨rfl, h1, h2, h3⟩ | ⟨rfl, h1, h2, h3⟩ | ⟨rfl, h1, h2, h3⟩)
    · exact (rstep2 w' h1 h2).mono fun e w2 ⟨he, r2, a2, k2⟩ => .inr ⟨he, a2.st, 3, by omega, by omega, .inr (.inl ⟨rfl, r2, a2, h3.trans k2⟩)⟩
    · refine (rstep3 w' h1 h2 hj hT (by omega)).mono fun e w2 ⟨he, r2, a2, k2⟩ => ?_
      have hE : lookE (g.S j) g.T 4 2 = 4 := by unfold lookE; rw [hS, if_neg (by omega), if_neg (by omega)]
      rw [hE] at he a2
      exact .inr ⟨he, a2.st, 4, by omega, by omega, .inr (.inr (.inl ⟨rfl, r2, a2, h3.trans k2⟩))⟩
    · exact (rstep4h w' h1 h2 hT rfl).mono fun e w2 ⟨he, r2, a2, k2⟩ => .inr ⟨he, a2.st, 6, by omega, by omega, .inr (.inr (.inr ⟨rfl, r2, a2, h3.trans k2⟩))⟩
    · exact (rstep6 w' h1 h2 hj hT).mono fun e w2 ⟨he, r2, a2, k2⟩ => .inl ⟨he, r2, a2, h3.trans k2⟩
set_option maxHeartbeats 1000000 in
theorem rpush_no {a : Nat} (v : Int) (w : World) (h : RingAt w r s n g) (ha : ActAt w a r ⟨2, 0, 0, v, 0, false, false⟩) (hq : Rest n g l) (hl : l.length = n) (hn : 2 ≤ n) (hT : g.T ≤ 900000) :
    Calls Try.prog 24 #[.pointer (some ⟨a, 0, none⟩)] w fun e w' => (∃ u, e = .returned u) ∧
      (RingAt w' r s n g ∧ ActAt w' a r ⟨0, g.T, 0, v, 0, true, false⟩ ∧ Kept (Mine a r s) w w') := by
  obtain ⟨j, hj⟩ : ∃ j, g.T % n = j := ⟨_, rfl⟩
  have ht := hq.tail
  have hS : g.S j = g.H + 1 := by
    have := (hq.full 0 (by omega)).1
    rw [← hj, ht, hl, Nat.add_mod_right]
    simpa using this
  refine rfinish (fun x w' => (x = 2 ∧ RingAt w' r s n g ∧ ActAt w' a r ⟨2, 0, 0, v, 0, false, false⟩ ∧ Kept (Mine a r s) w w')
    ∨ (x = 3 ∧ RingAt w' r s n g ∧ ActAt w' a r ⟨3, g.T, 0, v, 0, true, false⟩ ∧ Kept (Mine a r s) w w')) _ ?_ ?_ 2 w (.inl ⟨rfl, h, ha, Kept.refl _ _⟩)
  · rintro x w' (⟨rfl, _, h2, _⟩ | ⟨rfl, _, h2, _⟩) <;> exact h2.nx
  · rintro x w' (⟨rfl, h1, h2, h3⟩ | ⟨rfl, h1, h2, h3⟩)
    · exact (rstep2 w' h1 h2).mono fun e w2 ⟨he, r2, a2, k2⟩ => .inr ⟨he, a2.st, 3, by omega, by omega, .inr ⟨rfl, r2, a2, h3.trans k2⟩⟩
    · refine (rstep3 w' h1 h2 hj hT (by omega)).mono fun e w2 ⟨he, r2, a2, k2⟩ => ?_
      have hE : lookE (g.S j) g.T 4 2 = 0 := by unfold lookE; rw [hS, if_pos (by omega)]
      rw [hE] at he a2
      exact .inl ⟨he, r2, a2, h3.trans k2⟩
set_option maxHeartbeats 1000000 in
theorem rpop_yes {a : Nat} {x : Int} (w : World) (h : RingAt w r s n g) (ha : ActAt w a r ⟨7, 0, 0, 0, 0, false, false⟩) (hq : Rest n g (x :: l)) (hT : g.T ≤ 900000) {j : Nat} (hj : g.H % n = j) :
    Calls Try.prog 24 #[.pointer (some ⟨a, 0, none⟩)] w fun e w' => (∃ u, e = .returned u) ∧
      (RingAt w' r s n { g with H := g.H + 1, S := fun i => if i = j then g.H + n else g.S i } ∧ ActAt w' a r ⟨1, g.H, g.H, 0, x, true, false⟩ ∧ Kept (Mine a r s) w w') := by
  obtain ⟨hV, hS, _⟩ := hq.pop hj
  have ht := hq.tail
  refine rfinish (fun y w' => (y = 7 ∧ RingAt w' r s n g ∧ ActAt w' a r ⟨7, 0, 0, 0, 0, false, false⟩ ∧ Kept (Mine a r s) w w')
    ∨ (y = 8 ∧ RingAt w' r s n g ∧ ActAt w' a r ⟨8, g.H, 0, 0, 0, true, false⟩ ∧ Kept (Mine a r s) w w')
    ∨ (y = 9 ∧ RingAt w' r s n g ∧ ActAt w' a r ⟨9, g.H, 0, 0, 0, true, false⟩ ∧ Kept (Mine a r s) w w')
    ∨ (y = 10 ∧ RingAt w' r s n { g with H := g.H + 1 } ∧ ActAt w' a r ⟨10, g.H, g.H, 0, 0, true, false⟩ ∧ Kept (Mine a r s) w w')) _ ?_ ?_ 7 w (.inl ⟨rfl, h, ha, Kept.refl _ _⟩)
  · rintro y w' (⟨rfl, _, h2, _⟩ | ⟨rfl, _, h2, _⟩ | ⟨rfl, _, h2, _⟩ | ⟨rfl, _, h2, _⟩) <;> exact h2.nx
  · rintro y w' (⟨rfl, h1, h2, h3⟩ | ⟨rfl, h1, h2, h3⟩ | ⟨rfl, h1, h2, h3⟩ | ⟨rfl, h1, h2, h3⟩)
    · exact (rstep7 w' h1 h2).mono fun e w2 ⟨he, r2, a2, k2⟩ => .inr ⟨he, a2.st, 8, by omega, by omega, .inr (.inl ⟨rfl, r2, a2, h3.trans k2⟩)⟩
    · refine (rstep8 w' h1 h2 hj (by omega) (by omega)).mono fun e w2 ⟨he, r2, a2, k2⟩ => ?_
      have hE : lookE (g.S j) (g.H + 1) 9 7 = 9 := by unfold lookE; rw [hS, if_neg (by omega), if_neg (by omega)]
      rw [hE] at he a2
      exact .inr ⟨he, a2.st, 9, by omega, by omega, .inr (.inr (.inl ⟨rfl, r2, a2, h3.trans k2⟩))⟩
    · exact (rstep9h w' h1 h2 (by omega) rfl).mono fun e w2 ⟨he, r2, a2, k2⟩ => .inr ⟨he, a2.st, 10, by omega, by omega, .inr (.inr (.inr ⟨rfl, r2, a2, h3.trans k2⟩))⟩
    · refine (rstep10 w' h1 h2 hj (by omega)).mono fun e w2 ⟨he, r2, a2, k2⟩ => .inl ⟨he, r2, ?_, h3.trans k2⟩
      have a3 : ActAt w2 a r ⟨1, g.H, g.H, 0, g.V j, true, false⟩ := a2
      rw [hV] at a3
      exact a3
set_option maxHeartbeats 1000000 in
theorem rpop_no {a : Nat} (w : World) (h : RingAt w r s n g) (ha : ActAt w a r ⟨7, 0, 0, 0, 0, false, false⟩) (hq : Rest n g []) (hT : g.T ≤ 900000) :
    Calls Try.prog 24 #[.pointer (some ⟨a, 0, none⟩)] w fun e w' => (∃ u, e = .returned u) ∧
      (RingAt w' r s n g ∧ ActAt w' a r ⟨0, g.H, 0, 0, 0, true, false⟩ ∧ Kept (Mine a r s) w w') := by
  obtain ⟨j, hj⟩ : ∃ j, g.H % n = j := ⟨_, rfl⟩
  have ht := hq.tail
  simp at ht
  have hS : g.S j = g.H := by
    have := hq.free 0 (by simp) h.n0
    rw [Nat.add_zero, hj] at this
    exact this
  refine rfinish (fun y w' => (y = 7 ∧ RingAt w' r s n g ∧ ActAt w' a r ⟨7, 0, 0, 0, 0, false, false⟩ ∧ Kept (Mine a r s) w w')
    ∨ (y = 8 ∧ RingAt w' r s n g ∧ ActAt w' a r ⟨8, g.H, 0, 0, 0, true, false⟩ ∧ Kept (Mine a r s) w w')) _ ?_ ?_ 7 w (.inl ⟨rfl, h, ha, Kept.refl _ _⟩)
  · rintro y w' (⟨rfl, _, h2, _⟩ | ⟨rfl, _, h2, _⟩) <;> exact h2.nx
  · rintro y w' (⟨rfl, h1, h2, h3⟩ | ⟨rfl, h1, h2, h3⟩)
    · exact (rstep7 w' h1 h2).mono fun e w2 ⟨he, r2, a2, k2⟩ => .inr ⟨he, a2.st, 8, by omega, by omega, .inr ⟨rfl, r2, a2, h3.trans k2⟩⟩
    · refine (rstep8 w' h1 h2 hj (by omega) (by omega)).mono fun e w2 ⟨he, r2, a2, k2⟩ => ?_
      have hE : lookE (g.S j) (g.H + 1) 9 7 = 0 := by unfold lookE; rw [hS, if_pos (by omega)]
      rw [hE] at he a2
      exact .inl ⟨he, r2, a2, h3.trans k2⟩
end
end Go.Proofs.Ytbenpnecjmpcbaa
