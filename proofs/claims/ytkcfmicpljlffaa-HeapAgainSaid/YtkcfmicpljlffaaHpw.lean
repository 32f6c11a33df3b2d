/- Rows of whole numbers that come in; a heap that is filled from them. -/
import Derived.Test.YtkcfmicpljlffaaHpv
import Derived.Test.YtkcfmicpljlffaaSeq
import Derived.Test.YtkcfmicpljlffaaRow
import Derived.ChangeArms
namespace Go.Proofs.Ytkcfmicpljlffaa
open Go.RowKit Go.ChangeShapes Go.WideShapes Go.Deep
set_option linter.unusedVariables false
set_option linter.unusedSimpArgs false
section
variable {H : Type} {enc : TypeId × Value → H} {w : World}
theorem open_ints_ {P : Program} {k : IntKind} {lo hi : Int} (hlh : lo ≤ 0 ∧ 0 ≤ hi) {t e : TypeId} {fuel : Nat} {A : Option Addr} {len cap : Nat} {x : DataW H × List MemPlace} (ht : P.underlying t = some (.slice e)) (he : P.underlying e = some (.int k)) (hC : P.cellsOf e = 1) (hw : ∀ a : Int, (Lit.int k a).wf = true → lo ≤ a ∧ a ≤ hi) (h : DataW.trod enc P w 0 (fun _ => true) true fuel t [.slice A len cap] = some x) :
    len ≤ cap ∧ cap ≤ maxLen ∧ ∃ K : Nat → Int, SeqAt w w.heap.size A len 1 (fun i => [.int k (K i)]) ∧ ∀ i, lo ≤ K i ∧ K i ≤ hi := by
  obtain ⟨h1, h2, row, hs, hr⟩ := open_seq ht hC (by omega) h
  have hq : ∀ i, ∃ b : Int, (lo ≤ b ∧ b ≤ hi) ∧ (i < len → row i = [.int k b]) := by
    intro i
    by_cases hi : i < len
    · obtain ⟨_, n, y, hy⟩ := hr i hi
      obtain ⟨c, hc, _, wc⟩ := DataW.trod_int he hy
      exact ⟨c, hw c wc, fun _ => hc⟩
    · exact ⟨0, hlh, fun h => absurd h hi⟩
  refine ⟨h1, h2, fun i => (hq i).choose, fun h0 => ?_, fun i => (hq i).choose_spec.1⟩
  obtain ⟨b, off, e, hb, hc⟩ := hs h0
  exact ⟨b, off, e, hb, fun i hi k hk => (hc i hi k hk).trans (by rw [(hq i).choose_spec.2 hi])⟩
theorem open_i64s {fuel : Nat} {A : Option Addr} {len cap : Nat} {x : DataW H × List MemPlace} (h : DataW.trod enc Try.prog w 0 (fun _ => true) true fuel 51 [.slice A len cap] = some x) :
    len ≤ cap ∧ cap ≤ maxLen ∧ ∃ K : Nat → Int, SeqAt w w.heap.size A len 1 (fun i => [.int .i64 (K i)]) ∧ ∀ i, -9223372036854775808 ≤ K i ∧ K i ≤ 9223372036854775807 :=
  open_ints_ (by decide) Try.underlying51 Try.underlying2 (by kernel_rfl) (fun a ha => wf_i64 ha) h
theorem open_u64s {fuel : Nat} {A : Option Addr} {len cap : Nat} {x : DataW H × List MemPlace} (h : DataW.trod enc Try.prog w 0 (fun _ => true) true fuel 52 [.slice A len cap] = some x) :
    len ≤ cap ∧ cap ≤ maxLen ∧ ∃ K : Nat → Int, SeqAt w w.heap.size A len 1 (fun i => [.int .u64 (K i)]) ∧ ∀ i, 0 ≤ K i ∧ K i ≤ 18446744073709551615 :=
  open_ints_ (by decide) Try.underlying52 Try.underlying32 (by kernel_rfl) (fun a ha => wf_u64 ha) h
theorem open_u8s {fuel : Nat} {A : Option Addr} {len cap : Nat} {x : DataW H × List MemPlace} (h : DataW.trod enc Try.prog w 0 (fun _ => true) true fuel 56 [.slice A len cap] = some x) :
    len ≤ cap ∧ cap ≤ maxLen ∧ ∃ K : Nat → Int, SeqAt w w.heap.size A len 1 (fun i => [.int .u8 (K i)]) ∧ ∀ i, 0 ≤ K i ∧ K i ≤ 255 :=
  open_ints_ (by decide) Try.underlying56 Try.underlying5 (by kernel_rfl) (fun a ha => wf_u8 ha) h
end
/-- The entries of the first k members. -/
noncomputable def buildE (K T : Nat → Int) : Nat → List En
  | 0 => []
  | k + 1 => insE ⟨K k, T k, k⟩ (buildE K T k)
section
variable {K T : Nat → Int} {L : List En} {a b : Int}
theorem build_len (k : Nat) : (buildE K T k).length = k := by
  induction k with
  | zero => rfl
  | succ k ih => show (insE _ _).length = _; rw [len_ins, ih]
theorem build_mem {e : En} (k : Nat) : e ∈ buildE K T k ↔ ∃ i, i < k ∧ e = ⟨K i, T i, i⟩ := by
  induction k with
  | zero => simp [buildE]
  | succ k ih =>
    show e ∈ insE _ _ ↔ _
    rw [mem_ins, ih]
    constructor
    · rintro (h | ⟨i, hi, h⟩)
      · exact ⟨k, by omega, h⟩
      · exact ⟨i, by omega, h⟩
    · rintro ⟨i, hi, h⟩
      by_cases hik : i = k
      · subst hik; exact .inl h
      · exact .inr ⟨i, by omega, h⟩
theorem build_no (k : Nat) : hasE (k : Int) (buildE K T k) = false := by
  rw [hasE_no]
  intro e he hm
  obtain ⟨i, hi, rfl⟩ := (build_mem k).1 he
  have hm : (i : Int) = (k : Int) := hm
  omega
theorem due_le (h : a ≤ b) : (dueE a L).length ≤ (dueE b L).length := by
  unfold dueE
  rw [← List.countP_eq_length_filter, ← List.countP_eq_length_filter]
  exact List.countP_mono_left fun e _ he => by simp at he ⊢; omega
theorem due_len : (dueE a L).length ≤ L.length := List.length_filter_le _ _
theorem due_nil_of (h : ∀ e ∈ L, a < e.k) : dueE a L = [] := by
  unfold dueE
  rw [List.filter_eq_nil_iff]
  intro e he
  have := h e he
  simp; omega
theorem due_all (h : ∀ e ∈ L, e.k ≤ a) : dueE a L = L := by
  unfold dueE
  rw [List.filter_eq_self]
  intro e he
  have := h e he
  simpa using this
theorem due_cons {x : En} : dueE a (x :: L) = if x.k ≤ a then x :: dueE a L else dueE a L := by
  unfold dueE
  rw [List.filter_cons]
  by_cases h : x.k ≤ a <;> simp [h]
/-- Who is due at a time is due later, too, and ahead of the others. -/
theorem due_take (hs : L.Pairwise ltE) (h : a ≤ b) : (dueE b L).take (dueE a L).length = dueE a L := by
  induction L with
  | nil => rfl
  | cons x l ih =>
    rw [List.pairwise_cons] at hs
    by_cases hx : x.k ≤ a
    · rw [due_cons, due_cons, if_pos hx, if_pos (by omega), List.length_cons, List.take_succ_cons, ih hs.2]
    · have hn : dueE a (x :: l) = [] := due_nil_of fun e he => by
        rcases List.mem_cons.1 he with rfl | he
        · omega
        · have := hs.1 e he
          unfold ltE at this
          omega
      rw [hn]; simp
theorem due_at (hs : L.Pairwise ltE) (i : Nat) (hi : i < L.length) : i < (dueE a L).length ↔ (L[i]!).k ≤ a := by
  induction L generalizing i with
  | nil => simp at hi
  | cons x l ih =>
    rw [List.pairwise_cons] at hs
    by_cases hx : x.k ≤ a
    · rw [due_cons, if_pos hx]
      cases i with
      | zero => simp [hx]
      | succ i => simpa using ih hs.2 i (by simpa using hi)
    · have hall : ∀ e ∈ x :: l, a < e.k := fun e he => by
        rcases List.mem_cons.1 he with rfl | he
        · omega
        · have := hs.1 e he
          unfold ltE at this
          omega
      rw [due_nil_of hall]
      have h1 : (x :: l)[i]! ∈ x :: l := by rw [getElem!_pos _ i hi]; exact List.getElem_mem hi
      have := hall _ h1
      exact ⟨fun h => absurd h (Nat.not_lt_zero i), fun h => by omega⟩
theorem own_take {w : World} {B k c j : Nat} {A : Option Addr} {l : List Int} (h : w.ownsRow B 3 1 (.slice A k c) k (intL l)) (hj : j ≤ k) : w.ownsRow B 3 1 (.slice A j c) j (intL (l.take j)) := by
  have hl := h.1
  rw [intL_len, Nat.mul_one] at hl
  refine ⟨by rw [intL_len, List.length_take]; omega, ?_⟩
  rcases h.2 with ⟨h0, h1⟩ | ⟨g, cap, cur, hv, hb, hg, h1, h2, h3, h4⟩
  · injection h0 with e1 e2 e3
    exact .inl ⟨by rw [e1, e3, show j = 0 from by omega], by omega⟩
  · injection hv with e1 e2 e3
    subst e1 e3
    refine .inr ⟨g, c, cur, rfl, hb, hg, by omega, h2, h3, ?_⟩
    unfold intL at h4 ⊢
    rw [List.map_take, ← h4, List.take_take, Nat.mul_one, Nat.mul_one, Nat.min_eq_left hj]
theorem own_le {w : World} {B B' k : Nat} {e : TypeId} {sz : Nat} {v : Value} {l : List Value} (h : w.ownsRow B e sz v k l) (hB : B' ≤ B) : w.ownsRow B' e sz v k l := by
  refine ⟨h.1, ?_⟩
  rcases h.2 with h0 | ⟨g, cap, cur, hv, hb, hg, h1, h2, h3, h4⟩
  · exact .inl h0
  · exact .inr ⟨g, cap, cur, hv, by omega, hg, h1, h2, h3, h4⟩
theorem below_drewN_ {B : Nat} {w w' : World} (h : RowKit.Below B w w') (n : Nat) : RowKit.Below B w (w'.drewN n) := ⟨h.os, h.tape, h.output, h.size, h.block⟩
theorem due_intL (L : List En) : (L.map fun e => Value.int .i64 e.m) = intL (L.map fun e => e.m) := by unfold intL; rw [List.map_map]; rfl
end
end Go.Proofs.Ytkcfmicpljlffaa
