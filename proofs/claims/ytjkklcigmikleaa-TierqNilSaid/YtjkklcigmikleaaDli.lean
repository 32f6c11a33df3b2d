/- Rows as lists of members: every call, right or not. -/
import Derived.Test.YtjkklcigmikleaaDall
import Derived.Test.YtjkklcigmikleaaDeqe
namespace Go.Proofs.Ytjkklcigmikleaa
open Go.RowKit Go.Shelf
set_option linter.unusedVariables false
/-- Rows as lists: members below M, nobody twice. -/
structure Lists (N M : Nat) (L : Nat → List Nat) : Prop where
  lt : ∀ r, r < N → ∀ x ∈ L r, x < M
  nd : ∀ r, r < N → (L r).Nodup
  ap : ∀ r r', r < N → r' < N → ∀ x, x ∈ L r → x ∈ L r' → r = r'
def lenL (L : Nat → List Nat) (r : Nat) : Nat := (L r).length
def getL (L : Nat → List Nat) (r k : Nat) : Nat := (L r).getD k 0
def RowsL (w : World) (p a b N M : Nat) (L : Nat → List Nat) (ub : Int) : Prop := RowsAt w p a b N M (lenL L) (getL L) ub
section
variable {N M : Nat} {L : Nat → List Nat}
theorem getL_eq {r k : Nat} (h : k < (L r).length) : getL L r k = (L r)[k] := by unfold getL; simp [List.getD_eq_getElem?_getD, h]
theorem getL_mem {r k : Nat} (h : k < lenL L r) : getL L r k ∈ L r := by rw [getL_eq h]; exact List.getElem_mem _
theorem mem_getL {r x : Nat} (h : x ∈ L r) : ∃ k, k < lenL L r ∧ getL L r k = x := by
  obtain ⟨k, hk, rfl⟩ := List.getElem_of_mem h
  exact ⟨k, hk, getL_eq hk⟩
theorem Lists.len (h : Lists N M L) {r : Nat} (hr : r < N) : (L r).length ≤ M := nodup_le M _ (h.nd r hr) (h.lt r hr)
def inB (N : Nat) (L : Nat → List Nat) (x : Nat) : Bool := (List.range N).any fun r => (L r).contains x
theorem inB_iff {x : Nat} : inB N L x = true ↔ ∃ r, r < N ∧ x ∈ L r := by
  unfold inB; rw [List.any_eq_true]
  constructor
  · rintro ⟨r, hr, hx⟩; exact ⟨r, List.mem_range.1 hr, by simpa using hx⟩
  · rintro ⟨r, hr, hx⟩; exact ⟨r, List.mem_range.2 hr, by simpa using hx⟩
theorem inB_not {x : Nat} (h : inB N L x = false) {r : Nat} (hr : r < N) : x ∉ L r := fun hx => by
  rw [inB_iff.2 ⟨r, hr, hx⟩] at h; cases h
def whF (L : Nat → List Nat) (x : Nat) : Nat → Int
  | 0 => -1
  | N + 1 => if (L N).contains x then (N : Int) else whF L x N
theorem whF_none {x : Nat} : ∀ N, (∀ r, r < N → x ∉ L r) → whF L x N = -1
  | 0, _ => rfl
  | N + 1, h => by
    unfold whF
    rw [if_neg (by have := h N (by omega); simpa using this)]
    exact whF_none N fun r hr => h r (by omega)
theorem whF_mem {x r : Nat} (hx : x ∈ L r) : ∀ N, (∀ r', r' < N → x ∈ L r' → r' = r) → r < N → whF L x N = (r : Int)
  | 0, _, hr => absurd hr (Nat.not_lt_zero _)
  | N + 1, h, hr => by
    unfold whF
    by_cases e : x ∈ L N
    · rw [if_pos (by simpa using e), h N (by omega) e]
    · rw [if_neg (by simpa using e)]
      have hne : r ≠ N := fun e2 => e (e2 ▸ hx)
      exact whF_mem hx N (fun r' hr' => h r' (by omega)) (by omega)
theorem Lists.whF (h : Lists N M L) {x r : Nat} (hr : r < N) (hx : x ∈ L r) : whF L x N = (r : Int) := whF_mem hx N (fun r' hr' hx' => h.ap r' r hr' hr x hx' hx) hr
theorem whF_cases (x : Nat) : ∀ N, (whF L x N = -1 ∧ ∀ r, r < N → x ∉ L r) ∨ ∃ r, r < N ∧ x ∈ L r ∧ whF L x N = (r : Int)
  | 0 => .inl ⟨rfl, fun r hr => absurd hr (Nat.not_lt_zero r)⟩
  | N + 1 => by
    unfold whF
    by_cases e : x ∈ L N
    · exact .inr ⟨N, by omega, e, by rw [if_pos (by simpa using e)]⟩
    · rw [if_neg (by simpa using e)]
      rcases whF_cases x N with ⟨h1, h2⟩ | ⟨r, h1, h2, h3⟩
      · refine .inl ⟨h1, fun r hr => ?_⟩
        by_cases er : r = N
        · rw [er]; exact e
        · exact h2 r (by omega)
      · exact .inr ⟨r, by omega, h2, h3⟩
def pushL (L : Nat → List Nat) (r i j : Nat) : List Nat := if j = r then L r ++ [i] else L j
theorem lenL_push (r i : Nat) : (fun j => if j = r then lenL L r + 1 else lenL L j) = lenL (pushL L r i) := by
  funext j; unfold lenL pushL; by_cases e : j = r <;> simp [e]
theorem getL_push (r i : Nat) : (fun j k => if j = r ∧ k = lenL L r then i else getL L j k) = getL (pushL L r i) := by
  funext j k; unfold lenL pushL getL
  by_cases e : j = r
  · subst e
    by_cases ek : k = (L j).length
    · simp [ek]
    · by_cases ek2 : k < (L j).length
      · simp [ek, List.getD_eq_getElem?_getD, List.getElem?_append_left ek2]
      · have : (L j ++ [i]).length ≤ k := by simp; omega
        simp [ek, List.getD_eq_getElem?_getD, List.getElem?_eq_none this, List.getElem?_eq_none (show (L j).length ≤ k by omega)]
  · simp [e]
def remL (N : Nat) (L : Nat → List Nat) (i j : Nat) : List Nat := if j < N then (L j).filter (fun x => x != i) else L j
theorem erase_filter : ∀ (l : List Nat) (k : Nat) (hk : k < l.length), l.Nodup → l.eraseIdx k = l.filter (fun x => x != l[k])
  | [], k, hk, _ => absurd hk (Nat.not_lt_zero k)
  | y :: l, 0, hk, hn => by
    have hy : y ∉ l := (List.nodup_cons.1 hn).1
    simp only [List.eraseIdx_zero, List.tail_cons, List.getElem_cons_zero, List.filter_cons, bne_self_eq_false, Bool.false_eq_true, if_false]
    rw [List.filter_eq_self.2]
    intro x hx
    simp only [bne_iff_ne, ne_eq]
    exact fun e => hy (e ▸ hx)
  | y :: l, k + 1, hk, hn => by
    obtain ⟨hy, hl⟩ := List.nodup_cons.1 hn
    have hk' : k < l.length := by simpa using hk
    have hne : y ≠ l[k] := fun e => hy (e ▸ List.getElem_mem hk')
    simp only [List.eraseIdx_cons_succ, List.getElem_cons_succ, List.filter_cons]
    rw [if_pos (by simpa using hne), erase_filter l k hk' hl]
theorem Lists.rem_row (h : Lists N M L) {r k : Nat} (hr : r < N) (hk : k < lenL L r) {i : Nat} (hi : getL L r k = i) : remL N L i r = (L r).eraseIdx k := by
  unfold remL; rw [if_pos hr, erase_filter _ k hk (h.nd r hr), ← getL_eq hk, hi]
theorem Lists.rem_far (h : Lists N M L) {r i j : Nat} (hr : r < N) (hi : i ∈ L r) (hj : j ≠ r) : remL N L i j = L j := by
  unfold remL
  by_cases e : j < N
  · rw [if_pos e, List.filter_eq_self]
    intro x hx
    simp only [bne_iff_ne, ne_eq]
    rintro rfl
    exact hj (h.ap j r e hr x hx hi)
  · rw [if_neg e]
theorem Lists.lenL_rem (h : Lists N M L) {r k i : Nat} (hr : r < N) (hk : k < lenL L r) (hi : getL L r k = i) : (fun j => if j = r then lenL L r - 1 else lenL L j) = lenL (remL N L i) := by
  funext j
  by_cases e : j = r
  · subst e; unfold lenL at hk ⊢; rw [h.rem_row hr hk hi, List.length_eraseIdx, if_pos hk, if_pos rfl]
  · unfold lenL; rw [h.rem_far hr (hi ▸ getL_mem hk) e]; simp [e]
theorem Lists.getL_rem (h : Lists N M L) {r k i : Nat} (hr : r < N) (hk : k < lenL L r) (hi : getL L r k = i) : (fun j x => if j = r ∧ k ≤ x then getL L r (x + 1) else getL L j x) = getL (remL N L i) := by
  funext j x
  by_cases e : j = r
  · subst e
    show _ = (remL N L i j).getD x 0
    rw [h.rem_row hr hk hi]
    unfold getL
    rw [List.getD_eq_getElem?_getD, List.getD_eq_getElem?_getD, List.getD_eq_getElem?_getD, List.getElem?_eraseIdx]
    by_cases ex : x < k
    · rw [if_neg (by omega), if_pos ex]
    · rw [if_pos ⟨rfl, by omega⟩, if_neg ex]
  · show _ = (remL N L i j).getD x 0
    rw [h.rem_far hr (hi ▸ getL_mem hk) e, if_neg (fun c => e c.1)]; rfl
/-- What Push answers. -/
def pushE (N M : Nat) (L : Nat → List Nat) (r i : Int) : Int := if r < 0 ∨ (N : Int) ≤ r then 1 else if i < 0 ∨ (M : Int) ≤ i then 1 else if inB N L i.toNat = true then 10 else 0
def pushQ (N M : Nat) (L : Nat → List Nat) (r i : Int) : Nat → List Nat := if pushE N M L r i = 0 then pushL L r.toNat i.toNat else L
def remE (N M : Nat) (L : Nat → List Nat) (i : Int) : Int := if i < 0 ∨ (M : Int) ≤ i then 1 else if inB N L i.toNat = true then 0 else 3
def remQ (N M : Nat) (L : Nat → List Nat) (i : Int) : Nat → List Nat := if remE N M L i = 0 then remL N L i.toNat else L
def whE (N M : Nat) (L : Nat → List Nat) (i : Int) : Int := if i < 0 ∨ (M : Int) ≤ i then -1 else whF L i.toNat N
def rowE (N : Nat) (L : Nat → List Nat) (r : Int) : List Nat := if r < 0 ∨ (N : Int) ≤ r then [] else L r.toNat
end
section
variable {p a b N M : Nat} {L : Nat → List Nat} {ub : Int}
theorem RowsL.lists {w : World} (h : RowsL w p a b N M L ub) : Lists N M L := by
  obtain ⟨E0, E1, C, W, B0, B1, U, h1, h2, h3⟩ := h
  refine ⟨fun r hr x hx => ?_, fun r hr => ?_, fun r r' hr hr' x hx hx' => ?_⟩
  · obtain ⟨k, hk, rfl⟩ := mem_getL hx
    exact (h2.mem r hr k hk).1
  · refine List.pairwise_iff_getElem.2 fun i j hi hj hij e => ?_
    have := h2.inj r hr i j hi hj (by rw [getL_eq hi, getL_eq hj]; exact e)
    omega
  · obtain ⟨k, hk, rfl⟩ := mem_getL hx
    obtain ⟨k', hk', e⟩ := mem_getL hx'
    exact (h2.one hr hr' hk hk' e.symm).1
theorem push_any (r i : Int) (w : World) (h : RowsL w p a b N M L ub) (hM : M ≤ 1024) (hu : ub ≤ 1000000) :
    Calls Try.prog 31 #[.pointer (some ⟨p, 0, none⟩), .int .i64 r, .int .i64 i] w fun e w' => e = .returned (.int .i64 (pushE N M L r i)) ∧
      RowsL w' p a b N M (pushQ N M L r i) (ub + 1) ∧ Kept (fun g => g = a ∨ g = b) w w' := by
  have hL := h.lists
  unfold pushQ pushE
  by_cases hr : r < 0 ∨ (N : Int) ≤ r
  · have h' := h
    obtain ⟨E0, E1, C, W, B0, B1, U, h1, h2, h3⟩ := h
    rw [if_pos hr, if_neg (by decide)]
    exact (push_outr hr w h1).mono fun e w' ⟨he, hw⟩ => ⟨he, hw ▸ RowsAt.more h' (by omega), hw ▸ Kept.refl _ _⟩
  obtain ⟨rn, rfl⟩ : ∃ k : Nat, r = (k : Int) := ⟨r.toNat, by omega⟩
  by_cases hi : i < 0 ∨ (M : Int) ≤ i
  · have h' := h
    obtain ⟨E0, E1, C, W, B0, B1, U, h1, h2, h3⟩ := h
    rw [if_neg hr, if_pos hi, if_neg (by decide)]
    exact (push_outm (r := rn) (by omega) hi w h1).mono fun e w' ⟨he, hw⟩ => ⟨he, hw ▸ RowsAt.more h' (by omega), hw ▸ Kept.refl _ _⟩
  obtain ⟨k, rfl⟩ : ∃ k : Nat, i = (k : Int) := ⟨i.toNat, by omega⟩
  rw [if_neg hr, if_neg hi]
  simp only [Int.toNat_natCast]
  by_cases hb : inB N L k = true
  · rw [if_pos hb, if_neg (by decide)]
    obtain ⟨r', hr', hx⟩ := inB_iff.1 hb
    obtain ⟨j, hj, hjk⟩ := mem_getL hx
    exact (rows_busy (r := rn) (r' := r') (k := j) (i := k) w h (by omega) (by omega) hr' hj hjk).mono fun e w' ⟨he, hw⟩ => ⟨he, hw ▸ RowsAt.more h (by omega), hw ▸ Kept.refl _ _⟩
  · have hb' : inB N L k = false := by simpa using hb
    rw [if_neg hb, if_pos rfl]
    have hlen := hL.len (r := rn) (by omega)
    refine (rows_push (r := rn) (i := k) w h (by omega) (by omega) (fun r' hr' j hj e => inB_not hb' hr' (e ▸ getL_mem hj)) (by omega) (by unfold lenL; omega)).mono fun e w' ⟨he, h2, hk⟩ => ⟨he, ?_, hk⟩
    rw [lenL_push rn k, getL_push rn k] at h2
    exact h2
theorem rem_any (i : Int) (w : World) (h : RowsL w p a b N M L ub) (hM : M ≤ 1024) :
    Calls Try.prog 40 #[.pointer (some ⟨p, 0, none⟩), .int .i64 i] w fun e w' => e = .returned (.int .i64 (remE N M L i)) ∧
      RowsL w' p a b N M (remQ N M L i) ub ∧ Kept (fun g => g = a ∨ g = b) w w' := by
  have hL := h.lists
  unfold remQ remE
  by_cases hi : i < 0 ∨ (M : Int) ≤ i
  · have h' := h
    obtain ⟨E0, E1, C, W, B0, B1, U, h1, h2, h3⟩ := h
    rw [if_pos hi, if_neg (by decide)]
    exact (rem_out hi w h1).mono fun e w' ⟨he, hw⟩ => ⟨he, hw ▸ h', hw ▸ Kept.refl _ _⟩
  obtain ⟨k, rfl⟩ : ∃ k : Nat, i = (k : Int) := ⟨i.toNat, by omega⟩
  rw [if_neg hi]
  simp only [Int.toNat_natCast]
  by_cases hb : inB N L k = true
  · rw [if_pos hb, if_pos rfl]
    obtain ⟨r, hr, hx⟩ := inB_iff.1 hb
    obtain ⟨j, hj, hjk⟩ := mem_getL hx
    have hlen := hL.len (r := r) hr
    refine (rows_rem (r := r) (k := j) w h hr hj (by unfold lenL; omega) hjk).mono fun e w' ⟨he, h2, hk⟩ => ⟨he, ?_, hk⟩
    rw [hL.lenL_rem hr hj hjk, hL.getL_rem hr hj hjk] at h2
    exact h2
  · have hb' : inB N L k = false := by simpa using hb
    rw [if_neg hb, if_neg (by decide)]
    have h' := h
    obtain ⟨E0, E1, C, W, B0, B1, U, h1, h2, h3⟩ := h
    have hW : W k = -1 := by
      rcases h2.out k (by omega) with c | ⟨r, j, c1, c2, c3, _⟩
      · exact c
      · exact absurd (c3 ▸ getL_mem c2) (inB_not hb' c1)
    exact (rem_none (i := k) (by omega) hW w h1).mono fun e w' ⟨he, hw⟩ => ⟨he, hw ▸ h', hw ▸ Kept.refl _ _⟩
theorem len_any (r : Int) (w : World) (h : RowsL w p a b N M L ub) :
    Calls Try.prog 52 #[.pointer (some ⟨p, 0, none⟩), .int .i64 r] w fun e w' => e = .returned (.int .i64 ((rowE N L r).length : Int)) ∧ w = w' := by
  unfold rowE
  by_cases hr : r < 0 ∨ (N : Int) ≤ r
  · obtain ⟨E0, E1, C, W, B0, B1, U, h1, h2, h3⟩ := h
    rw [if_pos hr]; exact dlen_out hr w h1
  obtain ⟨rn, rfl⟩ : ∃ k : Nat, r = (k : Int) := ⟨r.toNat, by omega⟩
  rw [if_neg hr]
  simp only [Int.toNat_natCast]
  exact rows_len (r := rn) w h (by omega)
def hdE (l : List Nat) : Nat := l.headD 0
def laE (l : List Nat) : Nat := l.getLastD 0
def neE (l : List Nat) : Bool := !l.isEmpty
theorem neE_pos {l : List Nat} (h : 0 < l.length) : neE l = true := by cases l with
  | nil => exact absurd h (Nat.not_lt_zero _)
  | cons x l => rfl
theorem neE_nil {l : List Nat} (h : ¬ 0 < l.length) : l = [] := by cases l with
  | nil => rfl
  | cons x l => simp at h
theorem hdE_eq {l : List Nat} (h : 0 < l.length) : hdE l = l[0] := by cases l with
  | nil => exact absurd h (Nat.not_lt_zero _)
  | cons x l => rfl
theorem laE_eq {l : List Nat} (h : 0 < l.length) : laE l = l[l.length - 1] := by
  unfold laE; rw [List.getLastD_eq_getLast?, List.getLast?_eq_getElem?]; simp [show l.length - 1 < l.length by omega]
theorem front_any (r : Int) (w : World) (h : RowsL w p a b N M L ub) :
    Calls Try.prog 47 #[.pointer (some ⟨p, 0, none⟩), .int .i64 r] w fun e w' => e = .returned (.tuple #[.int .i64 (hdE (rowE N L r) : Nat), .bool (neE (rowE N L r))]) ∧ w = w' := by
  unfold rowE
  by_cases hr : r < 0 ∨ (N : Int) ≤ r
  · obtain ⟨E0, E1, C, W, B0, B1, U, h1, h2, h3⟩ := h
    rw [if_pos hr]; exact dfront_out hr w h1
  obtain ⟨rn, rfl⟩ : ∃ k : Nat, r = (k : Int) := ⟨r.toNat, by omega⟩
  rw [if_neg hr]
  simp only [Int.toNat_natCast]
  by_cases hz : 0 < (L rn).length
  · refine (rows_front (r := rn) w h (by omega) hz).mono fun e w' ⟨he, hw⟩ => ⟨?_, hw⟩
    rw [he, getL_eq hz, neE_pos hz, hdE_eq hz]
  · have hz' := neE_nil hz
    obtain ⟨E0, E1, C, W, B0, B1, U, h1, h2, h3⟩ := h
    rw [hz']
    exact dfront_empty (r := rn) (by omega) ((h2.cnt rn (by omega)).trans (by unfold lenL; rw [hz']; rfl)) w h1
theorem back_any (r : Int) (w : World) (h : RowsL w p a b N M L ub) :
    Calls Try.prog 48 #[.pointer (some ⟨p, 0, none⟩), .int .i64 r] w fun e w' => e = .returned (.tuple #[.int .i64 (laE (rowE N L r) : Nat), .bool (neE (rowE N L r))]) ∧ w = w' := by
  unfold rowE
  by_cases hr : r < 0 ∨ (N : Int) ≤ r
  · obtain ⟨E0, E1, C, W, B0, B1, U, h1, h2, h3⟩ := h
    rw [if_pos hr]; exact dback_out hr w h1
  obtain ⟨rn, rfl⟩ : ∃ k : Nat, r = (k : Int) := ⟨r.toNat, by omega⟩
  rw [if_neg hr]
  simp only [Int.toNat_natCast]
  by_cases hz : 0 < (L rn).length
  · refine (rows_back (r := rn) w h (by omega) hz).mono fun e w' ⟨he, hw⟩ => ⟨?_, hw⟩
    rw [he, getL_eq (show lenL L rn - 1 < (L rn).length by unfold lenL; omega), neE_pos hz, laE_eq hz]; rfl
  · have hz' := neE_nil hz
    obtain ⟨E0, E1, C, W, B0, B1, U, h1, h2, h3⟩ := h
    rw [hz']
    exact dback_empty (r := rn) (by omega) ((h2.cnt rn (by omega)).trans (by unfold lenL; rw [hz']; rfl)) w h1
theorem upto_front (r : Nat) : upto (away (lenL L) (getL L) r false) (lenL L r) = L r := by
  unfold upto lenL
  refine List.ext_getElem (by simp) fun i h1 h2 => ?_
  rw [List.getElem_map, List.getElem_range]
  exact getL_eq h2
theorem upto_back (r : Nat) : upto (away (lenL L) (getL L) r true) (lenL L r) = (L r).reverse := by
  unfold upto lenL
  refine List.ext_getElem (by simp) fun i h1 h2 => ?_
  have h3 : i < (L r).length := by simpa using h2
  rw [List.getElem_map, List.getElem_range, List.getElem_reverse]
  unfold away
  rw [if_pos rfl]
  exact getL_eq (show (L r).length - 1 - i < (L r).length by omega)
def fromE (back : Bool) (l : List Nat) : List Nat := if back then l.reverse else l
end
end Go.Proofs.Ytjkklcigmikleaa
