/- A heap as the list of its entries in their order. No program. -/
import Derived.Test.YtjkklcigmikleaaHps
namespace Go.Proofs.Ytjkklcigmikleaa
open Go.RowKit
set_option linter.unusedVariables false
set_option linter.unusedSimpArgs false
/-- L is those of F, in their order. -/
structure AllL (n : Nat) (F : Nat → Option (Int × Int)) (L : List En) : Prop where
  up : L.Pairwise ltE
  mem : ∀ e, e ∈ L ↔ ∃ i : Nat, i < n ∧ e.m = (i : Int) ∧ F i = some (e.k, e.t)
open Classical in
noncomputable def insE (e : En) : List En → List En
  | [] => [e]
  | a :: l => if ltE e a then e :: a :: l else a :: insE e l
def remK (i : Int) (L : List En) : List En := L.filter fun e => !decide (e.m = i)
def dueE (key : Int) (L : List En) : List En := L.filter fun e => decide (e.k ≤ key)
def hasE (i : Int) (L : List En) : Bool := L.any fun e => decide (e.m = i)
section
variable {n m : Nat} {F : Nat → Option (Int × Int)} {L : List En} {E : Nat → En} {P : Nat → Int} {e : En}
theorem mem_ins {x : En} : x ∈ insE e L ↔ x = e ∨ x ∈ L := by
  induction L with
  | nil => simp [insE]
  | cons a l ih =>
    unfold insE
    split
    · simp
    · simp only [List.mem_cons, ih]
      constructor
      · rintro (h | h | h) <;> simp [h]
      · rintro (h | h | h) <;> simp [h]
theorem len_ins : (insE e L).length = L.length + 1 := by
  induction L with
  | nil => rfl
  | cons a l ih =>
    unfold insE
    split
    · rfl
    · simp [ih]
theorem sorted_ins (h : L.Pairwise ltE) (hm : ∀ a ∈ L, a.m ≠ e.m) : (insE e L).Pairwise ltE := by
  induction L with
  | nil => simp [insE]
  | cons a l ih =>
    rw [List.pairwise_cons] at h
    unfold insE
    split
    · rename_i hl
      refine List.Pairwise.cons (fun x hx => ?_) (List.Pairwise.cons h.1 h.2)
      rcases List.mem_cons.1 hx with rfl | hx
      · exact hl
      · exact ltE_trans hl (h.1 x hx)
    · rename_i hl
      refine List.Pairwise.cons (fun x hx => ?_) (ih h.2 fun b hb => hm b (List.mem_cons_of_mem _ hb))
      rcases mem_ins.1 hx with rfl | hx
      · exact ltE_total (Ne.symm (hm a (List.mem_cons_self ..))) hl
      · exact h.1 x hx
theorem hasE_iff {i : Int} : hasE i L = true ↔ ∃ e ∈ L, e.m = i := by unfold hasE; simp
theorem hasE_no {i : Int} : hasE i L = false ↔ ∀ e ∈ L, e.m ≠ i := by unfold hasE; simp
theorem AllL.has (h : AllL n F L) {i : Nat} (hi : i < n) : hasE (i : Int) L = true ↔ ∃ kt, F i = some kt := by
  rw [hasE_iff]
  constructor
  · rintro ⟨e, he, hm⟩
    obtain ⟨j, hj, ej, fj⟩ := (h.mem e).1 he
    have : j = i := by omega
    subst this
    exact ⟨_, fj⟩
  · rintro ⟨⟨k, t⟩, hF⟩
    exact ⟨⟨k, t, i⟩, (h.mem _).2 ⟨i, hi, rfl, hF⟩, rfl⟩
theorem AllL.none_ (h : AllL n F L) {i : Nat} (hi : i < n) (hh : hasE (i : Int) L = false) : F i = none := by
  cases hF : F i with
  | none => rfl
  | some kt => rw [(h.has hi).2 ⟨kt, hF⟩] at hh; cases hh
theorem AllL.some_ (h : AllL n F L) {i : Nat} (hi : i < n) (hh : hasE (i : Int) L = true) : ∃ kt, F i = some kt := (h.has hi).1 hh
theorem AllL.range (h : AllL n F L) : ∀ e ∈ L, 0 ≤ e.m ∧ e.m < (n : Int) := fun e he => by
  obtain ⟨i, hi, ei, _⟩ := (h.mem e).1 he
  omega
theorem AllL.ins (h : AllL n F L) {i : Nat} (hi : i < n) (hF : F i = none) (k t : Int) : AllL n (fun x => if x = i then some (k, t) else F x) (insE ⟨k, t, i⟩ L) := by
  have hno : ∀ a ∈ L, a.m ≠ (i : Int) := fun a ha e => by
    obtain ⟨j, hj, ej, fj⟩ := (h.mem a).1 ha
    have : j = i := by omega
    subst this
    rw [hF] at fj; cases fj
  refine ⟨sorted_ins h.up hno, fun e => ?_⟩
  rw [mem_ins]
  constructor
  · rintro (rfl | he)
    · exact ⟨i, hi, rfl, by simp⟩
    · obtain ⟨j, hj, ej, fj⟩ := (h.mem e).1 he
      have hji : j ≠ i := by intro x; subst x; exact hno e he ej
      exact ⟨j, hj, ej, by show (if j = i then _ else F j) = _; rw [if_neg hji]; exact fj⟩
  · rintro ⟨j, hj, ej, fj⟩
    have fj : (if j = i then some (k, t) else F j) = some (e.k, e.t) := fj
    by_cases hji : j = i
    · subst hji
      rw [if_pos rfl] at fj
      injection fj with fj
      injection fj with f1 f2
      left
      obtain ⟨a, b, c⟩ := e
      simp at f1 f2 ej
      simp [f1, f2, ej]
    · rw [if_neg hji] at fj
      exact .inr ((h.mem e).2 ⟨j, hj, ej, fj⟩)
theorem AllL.rem (h : AllL n F L) {i : Nat} (hi : i < n) : AllL n (fun x => if x = i then none else F x) (remK (i : Int) L) := by
  refine ⟨h.up.filter _, fun e => ?_⟩
  unfold remK
  rw [List.mem_filter, h.mem]
  constructor
  · rintro ⟨⟨j, hj, ej, fj⟩, hne⟩
    have hji : j ≠ i := by intro x; subst x; simp [ej] at hne
    exact ⟨j, hj, ej, by show (if j = i then _ else F j) = _; rw [if_neg hji]; exact fj⟩
  · rintro ⟨j, hj, ej, fj⟩
    have fj : (if j = i then none else F j) = some (e.k, e.t) := fj
    by_cases hji : j = i
    · rw [if_pos hji] at fj; cases fj
    · rw [if_neg hji] at fj
      exact ⟨⟨j, hj, ej, fj⟩, by simp; omega⟩
theorem AllL.due (h : AllL n F L) (key : Int) : DueL n F key (dueE key L) := by
  refine ⟨h.up.filter _, fun e => ?_⟩
  unfold dueE
  rw [List.mem_filter, h.mem]
  constructor
  · rintro ⟨⟨j, hj, ej, fj⟩, hk⟩
    exact ⟨j, hj, ej, fj, by simpa using hk⟩
  · rintro ⟨j, hj, ej, fj, hk⟩
    exact ⟨⟨j, hj, ej, fj⟩, by simpa using hk⟩
theorem AllL.empty (n : Nat) : AllL n (fun _ => none) [] := ⟨List.Pairwise.nil, fun e => by simp⟩
theorem up_nodup (h : L.Pairwise ltE) : L.Nodup := h.imp fun {a b} h e => by subst e; exact ltE_irrefl _ h
theorem AllL.len (h : AllL n F L) (hl : Links n m E P F) : L.length = m := by
  have h1 : ((List.range m).map E).Nodup := by
    rw [List.nodup_iff_pairwise_ne, List.pairwise_map]
    refine List.Pairwise.imp_of_mem ?_ (List.nodup_range)
    intro a b ha hb hne he
    exact hne (hl.one (List.mem_range.1 ha) (List.mem_range.1 hb) (by rw [he]))
  have hp : L.Perm ((List.range m).map E) := by
    rw [List.perm_ext_iff_of_nodup (up_nodup h.up) h1]
    intro e
    rw [h.mem, List.mem_map]
    constructor
    · rintro ⟨i, hi, ei, fi⟩
      obtain ⟨j, hj, pj, ej⟩ := hl.get hi fi
      exact ⟨j, List.mem_range.2 hj, by rw [ej, ← ei]⟩
    · rintro ⟨j, hj, rfl⟩
      obtain ⟨i, hi, ei, pi, fi⟩ := hl.tom j (List.mem_range.1 hj)
      exact ⟨i, hi, ei, fi⟩
  rw [hp.length_eq]; simp
theorem AllL.head {a : En} {l : List En} (h : AllL n F (a :: l)) (hl : Links n m E P F) (ho : Ord m E) (h0 : 0 < m) : E 0 = a := by
  obtain ⟨i, hi, ei, pi, fi⟩ := hl.tom 0 h0
  have h1 : E 0 ∈ a :: l := (h.mem _).2 ⟨i, hi, ei, fi⟩
  obtain ⟨j, hj, ej, fj⟩ := (h.mem a).1 (List.mem_cons_self ..)
  obtain ⟨q, hq, pq, eq⟩ := hl.get hj fj
  have ha : E q = a := by rw [eq, ← ej]
  rcases List.mem_cons.1 h1 with h2 | h2
  · exact h2
  · have := (List.pairwise_cons.1 h.up).1 _ h2
    rw [← ha] at this
    exact absurd this (ho.first q hq)
end
end Go.Proofs.Ytjkklcigmikleaa
