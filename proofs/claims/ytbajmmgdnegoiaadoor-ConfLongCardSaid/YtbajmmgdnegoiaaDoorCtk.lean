/- Lines one by one: what the document's Parse says. -/
import Derived.Test.YtbajmmgdnegoiaaDoorCtj
import Derived.Test.YtbajmmgdnegoiaaDoorCth
namespace Go.Proofs.YtbajmmgdnegoiaaDoor
open Go.ChangeShapes Go.WideShapes Go.ChangeAt Go.RowKit Kn
set_option linter.unusedVariables false
set_option linter.unusedSimpArgs false
def rlinesE : List (List UInt8) → (Nat → Bool) → (Nat → Int) → Int × (Nat → Int)
  | [], _, v => (0, v)
  | x :: r, sn, v => if (applyE (mkT x) sn v).1 = 0 then rlinesE r (applyE (mkT x) sn v).2.1 (applyE (mkT x) sn v).2.2 else ((applyE (mkT x) sn v).1, v)
theorem step_ne (p : List (List UInt8)) (hp : p ≠ []) (o : List (List UInt8)) (c : UInt8) : stepL (o ++ p) c = o ++ stepL p c ∧ stepL p c ≠ [] := by
  rcases List.eq_nil_or_concat p with e | ⟨q, x, e⟩
  · exact absurd e hp
  · rw [List.concat_eq_append] at e
    subst e
    rw [← List.append_assoc]
    by_cases hc : c = 10
    · subst hc
      rw [stepL_nl, stepL_nl]
      simp
    · rw [stepL_by _ _ _ hc, stepL_by _ _ _ hc]
      simp
theorem fold_front (l : List UInt8) : ∀ (o p : List (List UInt8)), p ≠ [] → l.foldl stepL (o ++ p) = o ++ l.foldl stepL p := by
  induction l with
  | nil => intro o p _; rfl
  | cons c l ih =>
    intro o p hp
    have h := step_ne p hp o c
    rw [List.foldl_cons, List.foldl_cons, h.1, ih o _ h.2]
theorem linesF_one (l : List UInt8) (h : (10 : UInt8) ∉ l) : linesF l = [l] := by
  have := fold_line l [] [] h
  simpa [linesF] using this
theorem linesF_cut (a b : List UInt8) (h : (10 : UInt8) ∉ a) : linesF (a ++ 10 :: b) = a :: linesF b := by
  have h1 := fold_line a [] [] h
  rw [List.nil_append, List.nil_append, List.nil_append] at h1
  unfold linesF
  rw [List.foldl_append, h1, List.foldl_cons]
  have h2 : stepL [a] 10 = [a] ++ [[]] := stepL_nl [] a
  rw [h2, fold_front b [a] [[]] (by simp)]
  rfl
theorem split_at (c : UInt8) : ∀ (l : List UInt8), c ∉ l ∨ ∃ a b, l = a ++ c :: b ∧ c ∉ a
  | [] => .inl (by simp)
  | x :: l => by
    by_cases e : x = c
    · exact .inr ⟨[], l, by rw [e]; rfl, by simp⟩
    · rcases split_at c l with h | ⟨a, b, h1, h2⟩
      · exact .inl (fun m => by rcases List.mem_cons.1 m with m | m; exact e m.symm; exact h m)
      · exact .inr ⟨x :: a, b, by rw [h1]; rfl, fun m => by rcases List.mem_cons.1 m with m | m; exact e m.symm; exact h2 m⟩
/-- The lines one by one say what the text says. -/
theorem lines_rows : ∀ (f : Nat) (l : List UInt8) (sn : Nat → Bool) (v : Nat → Int), l.length < f → linesE f (mkT l) sn v = rlinesE (linesF l) sn v
  | 0, l, _, _, h => absurd h (Nat.not_lt_zero _)
  | f + 1, l, sn, v, h => by
    rw [linesE]
    rcases split_at 10 l with hn | ⟨a, b, rfl, hn⟩
    · rw [cut_out l 10 hn, linesF_one l hn, rlinesE, rlinesE]
      simp
    · rw [cut_in a b 10 hn, linesF_cut a b hn, rlinesE]
      simp only [if_true]
      split
      · exact lines_rows f b _ _ (by simp at h; omega)
      · rfl
theorem lines_text (s : ByteArray) (sn : Nat → Bool) (v : Nat → Int) : linesE (s.size + 1) s sn v = rlinesE (linesF s.data.toList) sn v := by
  have := lines_rows (s.size + 1) s.data.toList sn v (by rw [lst_size]; omega)
  rwa [mkT_of] at this
/-- A line that is no note: its name, its number. -/
theorem apply_cut {x nm dg : List UInt8} (hn : noteL (mkT x) = false) (hx : x = nm ++ 32 :: dg) (h32 : (32 : UInt8) ∉ nm) (sn : Nat → Bool) (v : Nat → Int) :
    applyE (mkT x) sn v = match fidx (mkT nm), numR dg with
      | some i, some n => if sn i then (2, sn, v) else (0, setB sn i true, setI v i n)
      | _, _ => (9, sn, v) := by
  have e : numB (mkT dg) = numR dg := by rw [← numR_numB]; rfl
  unfold applyE
  rw [hn, hx, cut_in nm dg 32 h32]
  simp only [Bool.false_eq_true, if_false, e]
  cases fidx (mkT nm) <;> cases numR dg <;> rfl
theorem apply_whole {x : List UInt8} (hn : noteL (mkT x) = false) (h32 : (32 : UInt8) ∉ x) (sn : Nat → Bool) (v : Nat → Int) : applyE (mkT x) sn v = (9, sn, v) := by
  have e : numB (mkT []) = none := by rw [← numR_numB]; rfl
  unfold applyE
  rw [hn, cut_out x 32 h32]
  simp only [Bool.false_eq_true, if_false, e]
  cases fidx (mkT x) <;> rfl
/-- The last of the first k names that is nm; below 0: none is. -/
def whE (nm : ByteArray) : Nat → Int
  | 0 => -1
  | k + 1 => if fnm k = nm then (k : Int) else whE nm k
theorem wh_no {nm : ByteArray} (h : fidx nm = none) : ∀ k, k ≤ 16 → whE nm k = -1
  | 0, _ => rfl
  | k + 1, hk => by rw [whE, if_neg (fidx_none h k (by omega))]; exact wh_no h k (by omega)
theorem wh_yes {nm : ByteArray} {i : Nat} (h : fidx nm = some i) : ∀ k, k ≤ 16 → whE nm k = if i < k then (i : Int) else -1
  | 0, _ => by rw [if_neg (by omega)]; rfl
  | k + 1, hk => by
    have hi := fidx_some h
    rw [whE]
    by_cases e : fnm k = nm
    · have : k = i := fnm_ne k (by omega) i hi.1 (e.trans hi.2.symm)
      subst this
      rw [if_pos e, if_pos (by omega)]
    · rw [if_neg e, wh_yes h k (by omega)]
      have : i ≠ k := fun q => e (by rw [← q]; exact hi.2)
      by_cases q : i < k
      · rw [if_pos q, if_pos (by omega)]
      · rw [if_neg q, if_neg (by omega)]
/-- Where the first space is, or the end. -/
def spR (x : List UInt8) (k : Nat) : Prop := k ≤ x.length ∧ (32 : UInt8) ∉ x.take k
theorem sp_next {x : List UInt8} {k : Nat} (h : spR x k) (hk : k < x.length) (hc : x[k] ≠ 32) : spR x (k + 1) := by
  refine ⟨hk, ?_⟩
  rw [List.take_add_one, List.getElem?_eq_getElem hk]
  intro m
  rcases List.mem_append.1 m with m | m
  · exact h.2 m
  · simp at m; exact hc m.symm
theorem sp_cut {x : List UInt8} {k : Nat} (h : spR x k) (hk : k < x.length) (hc : x[k] = 32) : x = x.take k ++ 32 :: x.drop (k + 1) := by
  have h1 := (List.take_append_drop k x).symm
  rw [List.drop_eq_getElem_cons hk, hc] at h1
  exact h1
theorem lines_each (l : List UInt8) : ∀ x ∈ linesF l, x.length ≤ l.length := by
  have key : ∀ (n : Nat) (l : List UInt8), l.length = n → ∀ x ∈ linesF l, x.length ≤ l.length := by
    intro n
    induction n with
    | zero => intro l h x m; rw [List.length_eq_zero_iff.1 h] at m ⊢; simp [linesF] at m; simp [m]
    | succ n ih =>
      intro l h
      rcases List.eq_nil_or_concat l with e | ⟨a, c, e⟩
      · rw [e] at h; simp at h
      · rw [List.concat_eq_append] at e
        subst e
        rw [List.length_append] at h ⊢
        have h1 := ih a (by simpa using h)
        obtain ⟨o, y, e1, e2, e3⟩ := linesF_last a
        rw [linesF_snoc, e1]
        rw [e1] at h1
        intro x m
        by_cases hc : c = 10
        · subst hc
          rw [stepL_nl] at m
          rcases List.mem_append.1 m with m | m
          · have := h1 x m; omega
          · simp at m; simp [m]
        · rw [stepL_by _ _ _ hc] at m
          rcases List.mem_append.1 m with m | m
          · have := h1 x (List.mem_append.2 (.inl m)); omega
          · simp at m; subst m; simp; omega
  exact key _ l rfl
/-- The seen parts, as cells. -/
def seenL (sn : Nat → Bool) : List Value := (List.range 16).map fun i => .bool (sn i)
theorem seenL_at (sn : Nat → Bool) {i : Nat} (hi : i < 16) : (seenL sn).toArray[i]? = some (.bool (sn i)) := by
  unfold seenL
  rw [List.getElem?_toArray, List.getElem?_map, List.getElem?_range hi]
  rfl
theorem seenL_set (sn : Nat → Bool) (i : Nat) (b : Bool) : (seenL sn).toArray.setIfInBounds i (.bool b) = (seenL (setB sn i b)).toArray := by
  refine Array.ext_getElem? fun j => ?_
  rw [Array.getElem?_setIfInBounds]
  unfold seenL setB
  simp only [List.size_toArray, List.length_map, List.length_range, List.getElem?_toArray, List.getElem?_map]
  by_cases hj : j < 16
  · rw [List.getElem?_range hj]
    by_cases hi : i = j
    · subst hi; simp [hj]
    · rw [if_neg hi]; simp [Ne.symm hi]
  · rw [List.getElem?_eq_none (by simp; omega)]
    by_cases hi : i = j
    · subst hi; simp [hj]
    · rw [if_neg hi]; rfl
end Go.Proofs.YtbajmmgdnegoiaaDoor
