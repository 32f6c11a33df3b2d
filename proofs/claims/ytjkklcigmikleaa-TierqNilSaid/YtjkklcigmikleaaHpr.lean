/- The library's sort, of a row of entries that is ours. -/
import Derived.Test.YtjkklcigmikleaaHpq
namespace Go.Proofs.Ytjkklcigmikleaa
open Go.ChangeShapes Go.WideShapes Go.RowKit Go.Sort Go.Lib
set_option linter.unusedVariables false
set_option linter.unusedSimpArgs false
/-- Entries, cell by cell. -/
def flatL (L : List En) : List Value := L.flatMap entRow
theorem flatL_len (L : List En) : (flatL L).length = L.length * 3 := by
  unfold flatL
  induction L with
  | nil => rfl
  | cons a l ih => rw [List.flatMap_cons, List.length_append, ih, List.length_cons]; simp [entRow]; omega
theorem flatE_L (E : Nat → En) (l : List Nat) : flatE E l = flatL (l.map E) := by
  unfold flatE flatL
  rw [List.flatMap_map]
theorem flatL_get : ∀ (L : List En) (i j : Nat), i < L.length → j < 3 → (flatL L)[i * 3 + j]? = (entRow L[i]!)[j]?
  | [], i, j, hi, _ => by simp at hi
  | a :: L, 0, j, _, hj => by
    unfold flatL
    rw [List.flatMap_cons, List.getElem?_append_left (by simp [entRow]; omega)]
    simp
  | a :: L, i + 1, j, hi, hj => by
    have h := flatL_get L i j (by simpa using hi) hj
    unfold flatL at h ⊢
    rw [List.flatMap_cons, List.getElem?_append_right (by simp [entRow]; omega)]
    rw [show (i + 1) * 3 + j - (entRow a).length = i * 3 + j from by simp [entRow]; omega, h]
    simp
section
variable {w w' : World} {B k : Nat} {v : Value} {L : List En}
theorem flat_holds {g cap : Nat} {cur : Array Value} {L0 : List En} (hb : Blk w g 123 cur) (hx : ∀ i, i < L0.length * 3 → cur[i]? = (flatL L0)[i]?) : HoldsK entRow 3 w g 0 L0.toArray := by
  intro j hj
  rw [size_flatK] at hj
  have hj' : j < L0.length * 3 := by simpa using hj
  refine ⟨?_, hb.free _⟩
  rw [hb.at_, Nat.zero_add, hx j hj', get_flatK _ _ _ _ hj]
  have hd : j = (j / 3) * 3 + j % 3 := by omega
  have h := flatL_get L0 (j / 3) (j % 3) (by omega) (by omega)
  rw [← hd] at h
  rw [h]
  have hjd : j / 3 < L0.length := by omega
  have e1 : (L0.toArray)[j / 3]! = L0[j / 3]! := by simp [hjd]
  rw [e1]
  have : j % 3 < 3 := Nat.mod_lt _ (by decide)
  generalize j % 3 = r at this
  match r, this with
  | 0, _ => rfl
  | 1, _ => rfl
  | 2, _ => rfl
theorem map_block (w : World) (g : Nat) (f : Array Value → Array Value) {c : Array Value} {e : TypeId} (h : Blk w g e c) : Blk (mapBlock w g f) g e (f c) := by
  unfold Blk at h ⊢
  simp [mapBlock, Array.getElem?_modify, h, onCells]
theorem map_far (w : World) (g : Nat) (f : Array Value → Array Value) {i : Nat} (h : i ≠ g) : (mapBlock w g f).heap[i]? = w.heap[i]? := by
  simp [mapBlock, Array.getElem?_modify, Ne.symm h]
theorem sortW_block (w : World) (g n : Nat) (d : Array En) (os : Array Obj) {c : Array Value} {e : TypeId} (h : Blk w g e c) : ∃ c', c'.size = c.size ∧ Blk (sortWorldK entRow 3 w g 0 n d os) g e c' := by
  have h1 : Blk (Sort.ahead w n) g e c := h
  have h2 := map_block (Sort.ahead w n) g (putCells id 0 (flatK entRow 3 d)) h1
  refine ⟨putCells id 0 (flatK entRow 3 d) c, by simp [putCells], ?_⟩
  have h3 : (grow (mapBlock (Sort.ahead w n) g (putCells id 0 (flatK entRow 3 d))) os).heap[g]? = _ := heap_grow_old _ _ h2.size
  exact h3.trans h2
theorem sortW_below (w : World) (g n : Nat) (d : Array En) (os : Array Obj) (hB : B ≤ g) (hw : B ≤ w.heap.size) : RowKit.Below B w (sortWorldK entRow 3 w g 0 n d os) := by
  have hs : (mapBlock (Sort.ahead w n) g (putCells id 0 (flatK entRow 3 d))).heap.size = w.heap.size := by simp [mapBlock, Sort.ahead]
  refine ⟨rfl, rfl, rfl, ?_, fun i hi => ?_⟩
  · show w.heap.size ≤ (grow (mapBlock (Sort.ahead w n) g (putCells id 0 (flatK entRow 3 d))) os).heap.size
    rw [size_grow, hs]; omega
  · show (grow (mapBlock (Sort.ahead w n) g (putCells id 0 (flatK entRow 3 d))) os).heap[i]? = _
    rw [heap_grow_old _ _ (by rw [hs]; omega), map_far _ _ _ (by omega)]
    rfl
theorem hsort_own {L0 : List En} (w : World) (hw : B ≤ w.heap.size) (hk : k = L0.length) (hs : k ≤ 100000) (hown : w.ownsRow B 123 3 v k (flatL L0)) :
    Calls Try.prog 61 #[v, .func (.func 62) #[] #[]] w fun e w' => e = .returned (.tuple #[]) ∧ ∃ L, L.Perm L0 ∧ L.Pairwise (fun a b => ¬ ltE b a) ∧ w'.ownsRow B 123 3 v k (flatL L) ∧ RowKit.Below B w w' := by
  subst hk
  rcases hown.2 with ⟨rfl, h0⟩ | ⟨g, cap, cur, rfl, hg, hb, h1, h2, h3, h4⟩
  · obtain rfl : L0 = [] := by simpa using h0
    refine (hsort_nil w _).mono ?_
    rintro e w' ⟨rfl, rfl⟩
    exact ⟨rfl, [], List.Perm.refl _, List.Pairwise.nil, hown, RowKit.Below.refl _ _⟩
  · have hb' : Blk w g 123 cur := hb
    have hx : ∀ i, i < L0.length * 3 → cur[i]? = (flatL L0)[i]? := fun i hi => by rw [← h4, List.getElem?_take_of_lt hi, Array.getElem?_toList]
    have hH := flat_holds (cap := cap) hb' hx
    have hc := hsort w g cap L0.toArray hH hb'.size (by simpa using hs)
    rw [List.size_toArray] at hc
    refine hc.mono ?_
    rintro e w' ⟨rfl, d', n, os, hp, hso, rfl⟩
    obtain ⟨hds, _, hpe⟩ := hp
    have hd'l : d'.toList.length = L0.length := by simpa using hds
    have hds2 : d'.size = L0.length := by simpa using hds
    have hperm : d'.toList.Perm L0 := by
      have e1 : d'.extract 0 L0.length = d' := by rw [show L0.length = d'.size from by simpa using hds.symm]; simp
      have e2 : L0.toArray.extract 0 L0.length = L0.toArray := by rw [show L0.length = L0.toArray.size from by simp]; simp
      rw [e1, e2] at hpe
      simpa using hpe
    refine ⟨rfl, d'.toList, hperm, ?_, ?_, sortW_below w g n d' os hg hw⟩
    · rw [List.pairwise_iff_getElem]
      intro i j hi hj hij
      have hso' := hso i j (Nat.zero_le _) hij (by omega)
      have hi' : i < d'.size := by simpa using hi
      have hj' : j < d'.size := by simpa using hj
      rw [getElem!_pos d' i hi', getElem!_pos d' j hj'] at hso'
      unfold ltOf at hso'
      rw [decide_eq_false_iff_not, cmpE_neg] at hso'
      simpa using hso'
    · obtain ⟨c', hc', hb2⟩ := sortW_block w g n d' os hb'
      have hH2 := holdsK_sortWorldK_c entRow 3 w g 0 L0.toArray d' n os hH hb'.size (by simpa using hds)
      refine ⟨by rw [flatL_len, hd'l], .inr ⟨g, cap, c', rfl, hg, hb2, h1, h2, by rw [hc', h3], ?_⟩⟩
      apply List.ext_getElem?
      intro i
      by_cases hi : i < L0.length * 3
      · rw [List.getElem?_take_of_lt hi, Array.getElem?_toList]
        have hd : i = (i / 3) * 3 + i % 3 := by omega
        have h := (HoldsK.cell hH2 (i := i / 3) (c := i % 3) (by omega) (by omega)).1
        rw [hb2.at_, Nat.zero_add, ← hd] at h
        rw [h]
        have h5 := flatL_get d'.toList (i / 3) (i % 3) (by omega) (by omega)
        rw [← hd] at h5
        rw [h5]
        have hjd : i / 3 < d'.size := by omega
        have e1 : d'.toList[i / 3]! = d'[i / 3]! := by simp [hjd]
        rw [e1]
        have : i % 3 < 3 := Nat.mod_lt _ (by decide)
        generalize i % 3 = r at this
        match r, this with
        | 0, _ => rfl
        | 1, _ => rfl
        | 2, _ => rfl
      · rw [List.getElem?_eq_none (by rw [List.length_take]; omega), List.getElem?_eq_none (by rw [flatL_len, hd'l]; omega)]
/-- Element i of a row of entries that is ours. -/
theorem own_ent {i : Nat} (h : w.ownsRow B 123 3 v k (flatL L)) (hi : i < k) : ∃ g c, v = .slice (some ⟨g, 0, none⟩) k c ∧ B ≤ g ∧ g < w.heap.size ∧ w.cell? ⟨g, i * 3, none⟩ = some (.int .i64 (L[i]!).k) ∧ w.cell? ⟨g, i * 3 + 1, none⟩ = some (.int .u64 (L[i]!).t) ∧ w.cell? ⟨g, i * 3 + 2, none⟩ = some (.int .i64 (L[i]!).m) := by
  have hl := h.1
  rw [flatL_len] at hl
  rcases h.2 with ⟨_, h1⟩ | ⟨g, cap, cur, rfl, hb, hg, h1, h2, h3, h4⟩
  · omega
  · have hb' : Blk w g 123 cur := hg
    have hx : ∀ j, j < 3 → w.cell? ⟨g, i * 3 + j, none⟩ = (entRow L[i]!)[j]? := fun j hj => by
      rw [hb'.at_, ← flatL_get L i j (by omega) hj, ← h4, List.getElem?_take_of_lt (by omega), Array.getElem?_toList]
    exact ⟨g, cap, rfl, hb, hb'.size, hx 0 (by omega), hx 1 (by omega), hx 2 (by omega)⟩
end
end Go.Proofs.Ytjkklcigmikleaa
