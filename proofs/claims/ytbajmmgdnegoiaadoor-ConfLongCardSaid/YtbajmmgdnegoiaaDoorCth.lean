/- Lines told in another order, one of them perhaps twice. -/
import Derived.Test.YtbajmmgdnegoiaaDoorCtg
import Derived.Test.YtbajmmgdnegoiaaDoorCtf
namespace Go.Proofs.YtbajmmgdnegoiaaDoor
open Go.ChangeShapes Go.WideShapes Go.ChangeAt Go.RowKit Kn
set_option linter.unusedVariables false
set_option linter.unusedSimpArgs false
theorem fold_line (l : List UInt8) : ∀ (o : List (List UInt8)) (x : List UInt8), (10 : UInt8) ∉ l → l.foldl stepL (o ++ [x]) = o ++ [x ++ l] := by
  induction l with
  | nil => intro o x _; simp
  | cons c l ih =>
    intro o x h
    rw [List.foldl_cons, stepL_by _ _ _ (fun e => h (by rw [e]; exact List.mem_cons_self)), ih o (x ++ [c]) (fun m => h (List.mem_cons_of_mem _ m))]
    simp
theorem fold_lines (v : Nat → Int) : ∀ (L : List Nat) (o : List (List UInt8)), (∀ i ∈ L, i < 16) → (linesL v L).foldl stepL (o ++ [[]]) = o ++ L.map (fun i => lineL i (v i)) ++ [[]]
  | [], o, _ => by simp [linesL]
  | i :: L, o, h => by
    unfold linesL
    rw [List.foldl_append, fold_line _ _ _ (line_no10 i (v i) (h i List.mem_cons_self)), List.foldl_cons, stepL_nl, fold_lines v L _ (fun j m => h j (List.mem_cons_of_mem _ m))]
    simp
theorem linesF_txt (v : Nat → Int) : linesF (txtK v 16).data.toList = (List.range 16).map (fun i => lineL i (v i)) ++ [[]] := by
  have h := fold_lines v (List.range 16) [] (fun i m => List.mem_range.1 m)
  unfold txtK linesF
  rw [mkT_list]
  rw [List.nil_append, List.nil_append] at h
  exact h
theorem txt_rows (v : Nat → Int) : (strs (linesF (txtK v 16).data.toList)).length = 17 ∧ ∀ i, i < 16 → (strs (linesF (txtK v 16).data.toList))[i]? = some (.string (mkT (lineL i (v i)))) := by
  rw [linesF_txt]
  refine ⟨by rw [strs_len]; simp, fun i hi => ?_⟩
  unfold strs
  rw [List.getElem?_map, List.getElem?_append_left (by simp; omega), List.getElem?_map, List.getElem?_range hi]
  rfl
/-- Which line stands where. -/
def swS (σ : Nat → Nat) (i j : Nat) : Nat → Nat := fun x => if x = j then σ i else if x = i then σ j else σ x
def RowS (V : Nat → Value) (σ : Nat → Nat) (cs : Array Value) : Prop := ∀ x, x < 16 → cs[x]? = some (V (σ x))
theorem sw1 {V : Nat → Value} {σ : Nat → Nat} {cs : Array Value} {i j : Nat} (hi : i < 16) (hj : j < 16) (hc : RowS V σ cs) : RowS V (swS σ i j) ((cs.setIfInBounds i (V (σ j))).setIfInBounds j (V (σ i))) := by
  intro x hx
  have hsi : i < cs.size := (Array.getElem?_eq_some_iff.1 (hc i hi)).1
  have hsj : j < cs.size := (Array.getElem?_eq_some_iff.1 (hc j hj)).1
  unfold swS
  by_cases h1 : x = j
  · subst h1; rw [if_pos rfl]; exact get_set_same (by simpa using hsj) _
  · rw [if_neg h1, get_set_far (Ne.symm h1)]
    by_cases h2 : x = i
    · subst h2; rw [if_pos rfl]; exact get_set_same hsi _
    · rw [if_neg h2, get_set_far (Ne.symm h2)]; exact hc x hx
theorem sw_inj {σ : Nat → Nat} {i j k : Nat} (hi : i < k) (hj : j < k) (h : ∀ a b, a < k → b < k → σ a = σ b → a = b) : ∀ a b, a < k → b < k → swS σ i j a = swS σ i j b → a = b := by
  intro a b ha hb e
  have key : ∀ x, x < k → ∃ y, y < k ∧ swS σ i j x = σ y ∧ (x = j ∧ y = i ∨ x ≠ j ∧ x = i ∧ y = j ∨ x ≠ j ∧ x ≠ i ∧ y = x) := by
    intro x hx
    unfold swS
    by_cases h1 : x = j
    · exact ⟨i, hi, by rw [if_pos h1], .inl ⟨h1, rfl⟩⟩
    · by_cases h2 : x = i
      · exact ⟨j, hj, by rw [if_neg h1, if_pos h2], .inr (.inl ⟨h1, h2, rfl⟩)⟩
      · exact ⟨x, hx, by rw [if_neg h1, if_neg h2], .inr (.inr ⟨h1, h2, rfl⟩)⟩
  obtain ⟨y, hy, ey, cy⟩ := key a ha
  obtain ⟨z, hz, ez, cz⟩ := key b hb
  have := h y z hy hz (by rw [← ey, ← ez, e])
  omega
theorem sw_rng {σ : Nat → Nat} {i j k : Nat} (hi : i < k) (hj : j < k) (h : ∀ a, a < k → σ a < k) : ∀ a, a < k → swS σ i j a < k := by
  intro a ha
  unfold swS
  split
  · exact h i hi
  · split
    · exact h j hj
    · exact h a ha
/-- As many as there are, each another one of n, are n at most. -/
theorem pigeon : ∀ (n m : Nat) (f : Nat → Nat), (∀ k, k < m → f k < n) → (∀ i j, i < m → j < m → f i = f j → i = j) → m ≤ n
  | 0, m, f, h, _ => by
    rcases Nat.eq_zero_or_pos m with e | e
    · omega
    · have := h 0 e; omega
  | n + 1, m, f, h, hi => by
    by_cases hex : ∃ k, k < m ∧ f k = n
    · obtain ⟨k0, hk0, e0⟩ := hex
      have := pigeon n (m - 1) (fun j => f (if j < k0 then j else j + 1)) (fun k hk => by
        have h1 : (if k < k0 then k else k + 1) < m := by split <;> omega
        have h2 := h _ h1
        have h3 : f (if k < k0 then k else k + 1) ≠ n := by
          intro e
          have := hi _ _ h1 hk0 (by rw [e, e0])
          split at this <;> omega
        show f (if k < k0 then k else k + 1) < n
        omega) (fun i j hi' hj' e => by
        have h1 : (if i < k0 then i else i + 1) < m := by split <;> omega
        have h2 : (if j < k0 then j else j + 1) < m := by split <;> omega
        have := hi _ _ h1 h2 e
        split at this <;> split at this <;> omega)
      omega
    · have := pigeon n m f (fun k hk => by
        have h1 := h k hk
        have h2 : f k ≠ n := fun e => hex ⟨k, hk, e⟩
        omega) hi
      omega
theorem pigeon16 (σ : Nat → Nat) (h : ∀ a, a < 16 → σ a < 16) (hi : ∀ a b, a < 16 → b < 16 → σ a = σ b → a = b) (i : Nat) (h16 : i < 16) : ∃ a, a < 16 ∧ σ a = i := by
  refine Classical.byContradiction fun hn => ?_
  have := pigeon 16 17 (fun k => if k = 16 then i else σ k) (fun k hk => by
    show (if k = 16 then i else σ k) < 16
    split
    · exact h16
    · exact h k (by omega)) (fun x y hx hy e => by
    have e2 : (if x = 16 then i else σ x) = (if y = 16 then i else σ y) := e
    split at e2 <;> split at e2
    · omega
    · exact absurd ⟨y, by omega, e2.symm⟩ hn
    · exact absurd ⟨x, by omega, e2⟩ hn
    · exact hi x y (by omega) (by omega) e2)
  omega
theorem nodup_map_on {σ : Nat → Nat} : ∀ {L : List Nat}, (∀ a ∈ L, ∀ b ∈ L, σ a = σ b → a = b) → L.Nodup → (L.map σ).Nodup
  | [], _, _ => List.nodup_nil
  | x :: L, h, hd => by
    have h2 := List.nodup_cons.1 hd
    rw [List.map_cons]
    refine List.nodup_cons.2 ⟨fun m => ?_, nodup_map_on (fun a ha b hb => h a (List.mem_cons_of_mem _ ha) b (List.mem_cons_of_mem _ hb)) h2.2⟩
    obtain ⟨a, ha, e⟩ := List.mem_map.1 m
    have := h a (List.mem_cons_of_mem _ ha) x List.mem_cons_self e
    exact h2.1 (this ▸ ha)
/-- The parts that are told, in their order. -/
def LL (σ : Nat → Nat) (ag : Bool) (d : Nat) : Nat → List Nat
  | 0 => []
  | k + 1 => LL σ ag d k ++ (if ag = true ∧ k = d then [σ k, σ k] else [σ k])
def NOTE : List UInt8 := [35, 32, 97, 32, 110, 111, 116, 101, 10, 10]
def ordT (v : Nat → Int) (σ : Nat → Nat) (ag : Bool) (d k : Nat) : ByteArray := mkT (NOTE ++ linesL v (LL σ ag d k))
theorem lines_app2 (v : Nat → Int) (L M : List Nat) : linesL v (L ++ M) = linesL v L ++ linesL v M := by
  induction L with
  | nil => simp [linesL]
  | cons a L ih => simp [linesL, ih]
theorem ord_once {v : Nat → Int} {σ : Nat → Nat} {ag : Bool} {d k : Nat} (h : ¬ (ag = true ∧ k = d)) : ordT v σ ag d k ++ (mkT (lineL (σ k) (v (σ k))) ++ ⟨#[10]⟩) = ordT v σ ag d (k + 1) := by
  unfold ordT
  rw [show (⟨#[10]⟩ : ByteArray) = mkT [10] from rfl, mkT_app, mkT_app, LL, if_neg h, lines_app2]
  congr 1
  first | done | simp [linesL]
theorem ord_twice {v : Nat → Int} {σ : Nat → Nat} {ag : Bool} {d k : Nat} (h : ag = true ∧ k = d) : ordT v σ ag d k ++ (mkT (lineL (σ k) (v (σ k))) ++ ⟨#[10]⟩) ++ (mkT (lineL (σ k) (v (σ k))) ++ ⟨#[10]⟩) = ordT v σ ag d (k + 1) := by
  unfold ordT
  rw [show (⟨#[10]⟩ : ByteArray) = mkT [10] from rfl, mkT_app, mkT_app, mkT_app, LL, if_pos h, lines_app2]
  congr 1
  first | done | simp [linesL]
theorem LL_no (σ : Nat → Nat) (d k : Nat) : LL σ false d k = (List.range k).map σ := by
  induction k with
  | zero => rfl
  | succ k ih => rw [LL, if_neg (by simp), ih, List.range_succ, List.map_append]; rfl
theorem LL_before (σ : Nat → Nat) (ag : Bool) (d : Nat) : ∀ k, k ≤ d → LL σ ag d k = (List.range k).map σ := by
  intro k
  induction k with
  | zero => intro _; rfl
  | succ k ih => intro h; rw [LL, if_neg (by omega), ih (by omega), List.range_succ, List.map_append]; rfl
theorem LL_yes (σ : Nat → Nat) (d : Nat) : ∀ k, d < k → ∃ tail, LL σ true d k = (List.range d).map σ ++ σ d :: σ d :: tail := by
  intro k
  induction k with
  | zero => intro h; omega
  | succ k ih =>
    intro h
    by_cases e : k = d
    · subst e
      refine ⟨[], ?_⟩
      rw [LL, if_pos ⟨rfl, rfl⟩, LL_before _ _ _ _ (Nat.le_refl _)]
    · obtain ⟨t, ht⟩ := ih (by omega)
      refine ⟨t ++ [σ k], ?_⟩
      rw [LL, if_neg (by simp [e]), ht]
      simp
theorem LL_len (σ : Nat → Nat) (ag : Bool) (d : Nat) : ∀ k, (LL σ ag d k).length ≤ 2 * k ∧ k ≤ (LL σ ag d k).length := by
  intro k
  induction k with
  | zero => exact ⟨by simp [LL], by simp⟩
  | succ k ih =>
    rw [LL, List.length_append]
    split <;> simp <;> omega
theorem LL_mem (σ : Nat → Nat) (ag : Bool) (d : Nat) (h : ∀ a, a < 16 → σ a < 16) : ∀ k, k ≤ 16 → ∀ i ∈ LL σ ag d k, i < 16 := by
  intro k
  induction k with
  | zero => intro _ i m; cases m
  | succ k ih =>
    intro hk i m
    rw [LL] at m
    rcases List.mem_append.1 m with m | m
    · exact ih (by omega) i m
    · have : i = σ k := by split at m <;> simp at m <;> exact m
      subst this
      exact h k (by omega)
theorem ord_len {v : Nat → Int} (hv : fits v) {σ : Nat → Nat} (h : ∀ a, a < 16 → σ a < 16) {ag : Bool} {d k : Nat} (hk : k ≤ 16) : (ordT v σ ag d k).size ≤ 5000 ∧ 10 + (LL σ ag d k).length ≤ (ordT v σ ag d k).size := by
  have h1 := lines_short v hv (LL σ ag d k) (LL_mem σ ag d h k hk)
  have h2 := LL_len σ ag d k
  have h3 : ∀ L, L.length ≤ (linesL v L).length := by
    intro L
    induction L with
    | nil => simp [linesL]
    | cons a L ih => simp [linesL]; omega
  have h4 := h3 (LL σ ag d k)
  unfold ordT
  rw [mkT_size, List.length_append]
  have h5 : NOTE.length = 10 := rfl
  omega
theorem ord_note (f : Nat) (l : List UInt8) (sn : Nat → Bool) (u : Nat → Int) : linesE (f + 1 + 1) (mkT (NOTE ++ l)) sn u = linesE f (mkT l) sn u := by
  have e : NOTE ++ l = [35, 32, 97, 32, 110, 111, 116, 101] ++ 10 :: ([] ++ 10 :: l) := rfl
  rw [e, note_step _ _ _ _ _ (by decide +kernel) (by decide), note_step _ _ _ _ _ (by decide +kernel) (by decide)]
/-- What is told in another order is read all the same. -/
theorem ord_back (c : Cf) (hc : c.ok) {σ : Nat → Nat} (hr : ∀ a, a < 16 → σ a < 16) (hi : ∀ a b, a < 16 → b < 16 → σ a = σ b → a = b) (d : Nat) :
    endE (linesE ((ordT (vOf c) σ false d 16).size + 1) (ordT (vOf c) σ false d 16) (fun _ => false) dfv) = validE c ∧ endV (linesE ((ordT (vOf c) σ false d 16).size + 1) (ordT (vOf c) σ false d 16) (fun _ => false) dfv) = if validE c = 0 then c else Cf.zero := by
  have hl := ord_len (vOf_fits hc) hr (ag := false) (d := d) (Nat.le_refl 16)
  have hn := LL_no σ d 16
  obtain ⟨f, hf⟩ : ∃ f, (ordT (vOf c) σ false d 16).size + 1 = f + 1 + 1 := ⟨(ordT (vOf c) σ false d 16).size - 1, by omega⟩
  rw [hf]
  have hl2 : (LL σ false d 16).length < f := by omega
  have hnd : (LL σ false d 16).Nodup := by
    rw [hn]
    exact nodup_map_on (fun a ha b hb e => hi a b (List.mem_range.1 ha) (List.mem_range.1 hb) e) List.nodup_range
  have h := lines_all (vOf c) (vOf_fits hc) (LL σ false d 16) f (fun _ => false) dfv hl2 (LL_mem σ false d hr 16 (Nat.le_refl _)) hnd (fun _ _ => rfl)
  have e3 : linesE (f + 1 + 1) (ordT (vOf c) σ false d 16) (fun _ => false) dfv = linesE f (mkT (linesL (vOf c) (LL σ false d 16))) (fun _ => false) dfv := ord_note f _ _ _
  rw [e3]
  refine ends_of h.1 fun i hi16 => ?_
  rw [h.2 i, if_pos ?_]
  rw [hn]
  -- an injective map of 16 numbers into 16 meets each
  have hsurj := pigeon16 σ hr hi i hi16
  obtain ⟨a, ha, e⟩ := hsurj
  exact List.mem_map.2 ⟨a, List.mem_range.2 ha, e⟩
theorem ord_again (c : Cf) (hc : c.ok) {σ : Nat → Nat} (hr : ∀ a, a < 16 → σ a < 16) (hi : ∀ a b, a < 16 → b < 16 → σ a = σ b → a = b) (d : Nat) (hd : d < 16) :
    endE (linesE ((ordT (vOf c) σ true d 16).size + 1) (ordT (vOf c) σ true d 16) (fun _ => false) dfv) = 2 := by
  have hl := ord_len (vOf_fits hc) hr (ag := true) (d := d) (Nat.le_refl 16)
  obtain ⟨t, ht⟩ := LL_yes σ d 16 hd
  obtain ⟨f, hf⟩ : ∃ f, (ordT (vOf c) σ true d 16).size + 1 = f + 1 + 1 := ⟨(ordT (vOf c) σ true d 16).size - 1, by omega⟩
  rw [hf]
  have hl2 : (LL σ true d 16).length < f := by omega
  have e3 : linesE (f + 1 + 1) (ordT (vOf c) σ true d 16) (fun _ => false) dfv = linesE f (mkT (linesL (vOf c) (LL σ true d 16))) (fun _ => false) dfv := ord_note f _ _ _
  rw [e3, ht]
  rw [ht, List.length_append] at hl2
  have h2 := lines_twice (vOf c) (vOf_fits hc) t (σ d) ((List.range d).map σ) f (fun _ => false) dfv (by simp at hl2 ⊢; omega)
    (fun i m => by obtain ⟨a, ha, rfl⟩ := List.mem_map.1 m; exact hr a (by have := List.mem_range.1 ha; omega)) (hr d hd)
    (fun m => by
      obtain ⟨a, ha, e⟩ := List.mem_map.1 m
      have h5 := List.mem_range.1 ha
      have := hi a d (by omega) hd e
      omega)
    (nodup_map_on (fun a ha b hb e => hi a b (by have := List.mem_range.1 ha; omega) (by have := List.mem_range.1 hb; omega) e) List.nodup_range) (fun _ _ => rfl) rfl
  unfold endE
  rw [h2]
  rfl
end Go.Proofs.YtbajmmgdnegoiaaDoor
