/- The document's slab and the program's, side by side: plainly. -/
import Derived.Test.YtjhcppiamkkdbaaSlq
import Derived.Test.YtjhcppiamkkdbaaSlabb
namespace Go.Proofs.Ytjhcppiamkkdbaa
open Go.RowKit
set_option linter.unusedVariables false
set_option linter.unusedSimpArgs false
theorem col1_len : ∀ n : Nat, (col1 n).length = n * 5
  | 0 => rfl
  | n + 1 => by
    rw [col1_succ, List.length_append, col1_len n]
    show n * 5 + 5 = (n + 1) * 5
    omega
theorem col1_get : ∀ (n i k : Nat), i < n → k < 5 → (col1 n)[i * 5 + k]? = (reqRow ⟨0, 0, 0, 0, 0⟩)[k]?
  | 0, _, _, h, _ => absurd h (Nat.not_lt_zero _)
  | n + 1, i, k, h, hk => by
    have hl := col1_len n
    rw [col1_succ]
    by_cases c : i < n
    · rw [List.getElem?_append_left (by omega)]; exact col1_get n i k c hk
    · obtain rfl : i = n := by omega
      rw [List.getElem?_append_right (by omega), hl, Nat.add_sub_cancel_left]
      rfl
theorem own_cells {w : World} {base size n : Nat} {e : TypeId} {v : Value} {xs : List Value} (h : w.ownsRow base e size v n xs) (h0 : 0 < n) : ∃ g c cur, v = .slice (some ⟨g, 0, none⟩) n c ∧ base ≤ g ∧ Blk w g e cur ∧ n ≤ c ∧ c ≤ maxLen ∧ ∀ j, j < n * size → cur[j]? = xs[j]? := by
  rcases h.2 with ⟨_, h1⟩ | ⟨g, cap, cur, rfl, hb, hg, h1, h2, h3, h4⟩
  · omega
  · refine ⟨g, cap, cur, rfl, hb, hg, h1, h2, fun j hj => ?_⟩
    rw [← h4, List.getElem?_take_of_lt hj, Array.getElem?_toList]
/-- A new one. -/
theorem NewS.shut {w : World} {q n : Nat} {v1 v2 v3 v4 : Value} (h : NewS w q n v1 v2 v3 v4) (h0 : 0 < n) : ∃ g1 g2 g3 g4 c1 c2 c3 c4, RsB w q g1 g2 g3 g4 0 n c1 c2 c3 c4 (fun _ => ⟨0, 0, 0, 0, 0⟩) (fun _ => false) (fun _ => 0) (List.range n) ∧ q < g1 ∧ q < g2 ∧ q < g3 ∧ q < g4 := by
  obtain ⟨hd, r1, r2, r3, r4⟩ := h
  obtain ⟨g1, c1, cs1, rfl, l1, b1, n1, m1, d1⟩ := own_cells r1 h0
  obtain ⟨g2, c2, cs2, rfl, l2, b2, n2, m2, d2⟩ := own_cells r2 h0
  obtain ⟨g3, c3, cs3, rfl, l3, b3, n3, m3, d3⟩ := own_cells r3 h0
  obtain ⟨g4, c4, cs4, rfl, l4, b4, n4, m4, d4⟩ := own_cells r4 h0
  refine ⟨g1, g2, g3, g4, c1, c2, c3, c4, ⟨by rw [List.length_range]; exact hd, ⟨cs1, b1, fun i hi k hk => (d1 _ (by omega)).trans (col1_get n i k hi hk)⟩, ⟨cs2, b2, fun i hi => (d2 _ (by omega)).trans (by unfold col2; rw [List.getElem?_replicate, if_pos hi])⟩, ⟨cs3, b3, fun i hi => (d3 _ (by omega)).trans (by unfold col3; rw [List.getElem?_replicate, if_pos hi])⟩,
    ⟨cs4, b4, fun j hj => ?_⟩, by rw [List.length_range]; exact ⟨n4, m4⟩⟩, by omega, by omega, by omega, by omega⟩
  rw [List.length_range] at hj
  rw [Nat.zero_add, d4 _ (by omega)]
  unfold col4
  rw [List.getElem?_map, List.getElem?_range hj, List.getElem_range]
  rfl
theorem pigeon_ : ∀ (n m : Nat) (f : Nat → Nat), (∀ k, k < m → f k < n) → (∀ i j, i < m → j < m → f i = f j → i = j) → m ≤ n
  | 0, m, f, h, _ => by
    rcases Nat.eq_zero_or_pos m with e | e
    · omega
    · have := h 0 e; omega
  | n + 1, m, f, h, hi => by
    by_cases hex : ∃ k, k < m ∧ f k = n
    · obtain ⟨k0, hk0, e0⟩ := hex
      have := pigeon_ n (m - 1) (fun j => f (if j < k0 then j else j + 1)) (fun k hk => by
        have h1 : (if k < k0 then k else k + 1) < m := by split <;> omega
        have h2 := h _ h1
        have h3 : f (if k < k0 then k else k + 1) ≠ n := by
          intro e
          have := hi _ _ h1 hk0 (by rw [e, e0])
          split at this <;> omega
        show f (if k < k0 then k else k + 1) < n
        omega) (fun i j hi' hj' e => by
        have h1 : (if i < k0 then i else i + 1) < m := by split <;> omega
        have h2 : (if j < k0 then j else j + 1) < m := by split <;> omega
        have := hi _ _ h1 h2 e
        split at this <;> split at this <;> omega)
      omega
    · have := pigeon_ n m f (fun k hk => by
        have h1 := h k hk
        have h2 : f k ≠ n := fun e => hex ⟨k, hk, e⟩
        omega) hi
      omega
/-- The free cells of the program, from the top of its stack on. -/
def stackL (m : Nat) (F : Nat → Nat) : List Nat := (List.range m).map fun j => F (m - 1 - j)
theorem stackL_len (m : Nat) (F : Nat → Nat) : (stackL m F).length = m := by simp [stackL]
theorem stackL_succ (m : Nat) (F : Nat → Nat) : stackL (m + 1) F = F m :: stackL m F := by
  unfold stackL
  rw [List.range_succ_eq_map, List.map_cons, List.map_map]
  congr 1
  refine List.map_congr_left fun j hj => ?_
  show F (m + 1 - 1 - (j + 1)) = F (m - 1 - j)
  congr 1; omega
theorem stackL_congr {m : Nat} {F F' : Nat → Nat} (h : ∀ j, j < m → F j = F' j) : stackL m F = stackL m F' := by
  unfold stackL
  refine List.map_congr_left fun j hj => ?_
  have := List.mem_range.1 hj
  exact h _ (by omega)
/-- The program's slab and the document's hold the same. K: how often a cell was taken so far. -/
structure Tie (n K : Nat) (H : Nat → Int) (T : Nat → Bool) (R : Nat → Rq) (m : Nat) (F : Nat → Nat) (Q : Nat → Rq) (U : Nat → Int) (l : List Nat) : Prop where
  mn : m ≤ n
  hu : ∀ i, i < n → H i = U i * 4294967296 + (i : Int) ∧ 0 ≤ U i ∧ U i ≤ K
  qr : ∀ i, i < n → T i = true → Q i = R i
  fl : ∀ j, j < m → F j < n ∧ T (F j) = false
  fi : ∀ j j', j < m → j' < m → F j = F j' → j = j'
  ls : l = stackL m F
section
variable {n K m : Nat} {H U : Nat → Int} {T : Nat → Bool} {R Q : Nat → Rq} {F : Nat → Nat} {l : List Nat}
theorem Tie.new_ (n : Nat) (hn : n ≤ 1024) : Tie n 0 (fun i => i) (fun _ => false) (fun _ => ⟨0, 0, 0, 0, 0⟩) n (fun j => n - 1 - j) (fun _ => ⟨0, 0, 0, 0, 0⟩) (fun _ => 0) (List.range n) where
  mn := Nat.le_refl _
  hu i hi := by simp
  qr i hi h := by cases h
  fl j hj := ⟨by show n - 1 - j < n; omega, rfl⟩
  fi j j' hj hj' e := by have e : n - 1 - j = n - 1 - j' := e; omega
  ls := by
    unfold stackL
    refine (List.map_id' _).symm.trans (List.map_congr_left fun j hj => ?_)
    have := List.mem_range.1 hj
    show j = n - 1 - (n - 1 - j); omega
theorem Tie.take (h : Tie n K H T R (m + 1) F Q U l) {i : Nat} (hi : F m = i) (r : Rq) : l = i :: stackL m F ∧ i < n ∧ Tie n (K + 1) (fun j => if j = i then H i + 4294967296 else H j) (fun j => if j = i then true else T j) (fun j => if j = i then r else R j) m F (fun j => if j = i then r else Q j) (fun j => if j = i then U i + 1 else U j) (stackL m F) := by
  have hf := h.fl m (by omega)
  rw [hi] at hf
  refine ⟨by rw [h.ls, stackL_succ, hi], hf.1, ⟨by have := h.mn; omega, fun j hj => ?_, fun j hj ht => ?_, fun j hj => ?_, fun j j' hj hj' e => h.fi j j' (by omega) (by omega) e, rfl⟩⟩
  · have h1 := h.hu j hj
    show (if j = i then H i + 4294967296 else H j) = (if j = i then U i + 1 else U j) * 4294967296 + (j : Int) ∧ 0 ≤ (if j = i then U i + 1 else U j) ∧ (if j = i then U i + 1 else U j) ≤ _
    by_cases c : j = i
    · subst c; rw [if_pos rfl, if_pos rfl]; omega
    · rw [if_neg c, if_neg c]; omega
  · have ht' : (if j = i then true else T j) = true := ht
    show (if j = i then r else Q j) = (if j = i then r else R j)
    by_cases c : j = i
    · rw [if_pos c, if_pos c]
    · rw [if_neg c] at ht' ⊢; rw [if_neg c]; exact h.qr j hj ht'
  · have h1 := h.fl j (by omega)
    refine ⟨h1.1, ?_⟩
    show (if F j = i then true else T (F j)) = false
    rw [if_neg (fun e => by have := h.fi j m (by omega) (by omega) (e.trans hi.symm); omega)]
    exact h1.2
theorem onto_ {n : Nat} {F : Nat → Nat} (hb : ∀ j, j < n → F j < n) (hj : ∀ j j', j < n → j' < n → F j = F j' → j = j') (i : Nat) (hi : i < n) : ∃ j, j < n ∧ F j = i := by
  refine Classical.byContradiction fun c => ?_
  have hne : ∀ j, j < n → F j ≠ i := fun j h e => c ⟨j, h, e⟩
  have := pigeon_ n (n + 1) (fun k => if k = n then i else F k) (fun k hk => by
    by_cases d : k = n
    · simp only [d, if_pos]; exact hi
    · simp only [if_neg d]; exact hb k (by omega)) (fun a b ha hb' e => by
    by_cases d : a = n <;> by_cases d' : b = n
    · omega
    · simp only [d, if_pos, if_neg d'] at e; exact absurd e.symm (hne b (by omega))
    · simp only [d', if_pos, if_neg d] at e; exact absurd e (hne a (by omega))
    · simp only [if_neg d, if_neg d'] at e; exact hj a b (by omega) (by omega) e)
  omega
theorem Tie.room (h : Tie n K H T R m F Q U l) {i : Nat} (hi : i < n) (ht : T i = true) : m < n := by
  have h1 := h.mn
  rcases Nat.lt_or_ge m n with c | c
  · exact c
  · exfalso
    have e : m = n := by omega
    subst e
    obtain ⟨j, hj, hF⟩ := onto_ (fun j hj => (h.fl j hj).1) h.fi i hi
    have := (h.fl j hj).2
    rw [hF, ht] at this; cases this
theorem Tie.free (h : Tie n K H T R m F Q U l) {i : Nat} (hi : i < n) (ht : T i = true) : Tie n K H (fun j => if j = i then false else T j) (fun j => if j = i then ⟨0, 0, 0, 0, 0⟩ else R j) (m + 1) (fun j => if j = m then i else F j) Q U (i :: l) := by
  have hr := h.room hi ht
  have hfi : ∀ j, j < m → F j ≠ i := fun j hj e => by have := (h.fl j hj).2; rw [e, ht] at this; cases this
  refine ⟨by omega, h.hu, fun j hj htj => ?_, fun j hj => ?_, fun j j' hj hj' e => ?_, ?_⟩
  · have ht' : (if j = i then false else T j) = true := htj
    by_cases c : j = i
    · rw [if_pos c] at ht'; cases ht'
    · rw [if_neg c] at ht'
      show Q j = (if j = i then (⟨0, 0, 0, 0, 0⟩ : Rq) else R j)
      rw [if_neg c]; exact h.qr j hj ht'
  · show (if j = m then i else F j) < n ∧ (if (if j = m then i else F j) = i then false else T (if j = m then i else F j)) = false
    by_cases c : j = m
    · rw [if_pos c, if_pos rfl]; exact ⟨hi, rfl⟩
    · rw [if_neg c, if_neg (hfi j (by omega))]; exact h.fl j (by omega)
  · have e' : (if j = m then i else F j) = (if j' = m then i else F j') := e
    by_cases c : j = m <;> by_cases d : j' = m
    · omega
    · rw [if_pos c, if_neg d] at e'; exact absurd e'.symm (hfi j' (by omega))
    · rw [if_neg c, if_pos d] at e'; exact absurd e' (hfi j (by omega))
    · rw [if_neg c, if_neg d] at e'; exact h.fi j j' (by omega) (by omega) e'
  · rw [stackL_succ, if_pos rfl, h.ls]
    congr 1
    exact stackL_congr fun j hj => by rw [if_neg (by omega)]
/-- A handle lives here just if it does there. -/
theorem Tie.at_ (h : Tie n K H T R m F Q U l) (g : Int) (g0 : 0 ≤ g) : aliveB n H T g = true ∧ (∃ i : Nat, i < n ∧ T i = true ∧ (g % 4294967296).toNat = i ∧ atE n T U g = (i : Int)) ∨ aliveB n H T g = false ∧ atE n T U g = -1 := by
  obtain ⟨i, hi⟩ : ∃ i : Nat, g % 4294967296 = (i : Int) := ⟨(g % 4294967296).toNat, by omega⟩
  unfold aliveB atE
  rw [hi, Int.toNat_natCast]
  by_cases c : i < n
  · have hu := h.hu i c
    have e : H i = g ↔ U i = g / 4294967296 := by
      rw [hu.1]
      constructor
      · intro e; omega
      · intro e; omega
    cases ht : T i with
    | false => exact .inr ⟨by simp, by rw [if_neg (fun k => Bool.noConfusion k.2.1)]⟩
    | true =>
      by_cases d : H i = g
      · exact .inl ⟨by simp [c, d], i, c, ht, rfl, by rw [if_pos ⟨c, rfl, e.1 d⟩]⟩
      · exact .inr ⟨by simp [d], by rw [if_neg (fun k => d (e.2 k.2.2))]⟩
  · exact .inr ⟨by simp [c], by rw [if_neg (fun k => c k.1)]⟩
end
end Go.Proofs.Ytjhcppiamkkdbaa
