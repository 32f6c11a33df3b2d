/- Texts of this claim, one behind the other: Deqe Dli Hpa Hpb Hpc Hpd. -/
import Derived.Test.YtcffeokbipjaoaaGreatProg
import Derived.WalkKit
import Derived.IntWalk
import Derived.Lib.Hide
import Derived.BigRegion
import Derived.Deep.RegionWith
import Derived.Deep.RegionHeld3
import Derived.Deep.DeepCutAuto
import Derived.WalkMore
import Derived.Deep.LoopGhost
import Derived.Deep.QuietTactic
import Derived.BigQuiet
import Derived.Test.YtcffeokbipjaoaaGreatMuaa
import Derived.Test.YtcffeokbipjaoaaGreatMuae
namespace Go.Proofs.YtcffeokbipjaoaaGreat
open Go.RowKit Go.ChangeShapes Go.WideShapes Go.Deep
set_option linter.unusedVariables false
theorem nodup_le : ∀ (N : Nat) (l : List Nat), l.Nodup → (∀ x ∈ l, x < N) → l.length ≤ N := by
 intro N
 induction N with
 | zero =>
   intro l _ h
   match l, h with
   | [], _ => exact Nat.le_refl _
   | x :: r, h => exact absurd (h x List.mem_cons_self) (Nat.not_lt_zero _)
 | succ N ih =>
   intro l hn h
   have h2 := ih (l.erase N) (hn.erase N) (fun x hx => by
     have h3 := (hn.mem_erase_iff).1 hx
     have := h x h3.2
     omega)
   rw [List.length_erase] at h2
   split at h2 <;> omega
section
variable {p a b : Nat} {l : List Nat} {ub : Int}
theorem RowsAt.grown_ {R M base size l : Nat} {n : Nat → Nat} {A : Nat → Nat → Nat} {w w' : World} {e : TypeId} {v : Value} {xs : List Value} (h : RowsAt w p a b R M n A ub) (hg : w.grownBy w' v.ownBlock) (ho : w.ownsRow base e size v l xs) (h1 : e ≠ 213) (h2 : e ≠ 216) (h3 : e ≠ 218) : RowsAt w' p a b R M n A ub := by
 obtain ⟨E0, E1, C, W, B0, B1, U, ⟨a1, a2, a3, a4, a5, hd, ⟨cs, bc, cz, cc⟩, ⟨fs, bf, fz, ff⟩⟩, hr, hu⟩ := h
 exact ⟨E0, E1, C, W, B0, B1, U, ⟨a1, a2, a3, a4, a5, hd.grown_ hg ho h1, ⟨cs, bc.grown_ hg ho h2, cz, cc⟩, ⟨fs, bf.grown_ hg ho h3, fz, ff⟩⟩, hr, hu⟩
end
section
variable {H : Type} {enc : TypeId × Value → H} {w : World}
end
theorem RowsAt.more {p a b R M : Nat} {n : Nat → Nat} {A : Nat → Nat → Nat} {ub ub' : Int} {w : World} (h : RowsAt w p a b R M n A ub) (hu : ub ≤ ub') : RowsAt w p a b R M n A ub' := by
 obtain ⟨E0, E1, C, W, B0, B1, U, h1, h2, h3⟩ := h
 exact ⟨E0, E1, C, W, B0, B1, U, h1, h2, fun i => by have := h3 i; omega⟩
end Go.Proofs.YtcffeokbipjaoaaGreat
namespace Go.Proofs.YtcffeokbipjaoaaGreat
open Go.RowKit Go.Shelf
set_option linter.unusedVariables false
structure Lists (N M : Nat) (L : Nat → List Nat) : Prop where
 lt : ∀ r, r < N → ∀ x ∈ L r, x < M
 nd : ∀ r, r < N → (L r).Nodup
 ap : ∀ r r', r < N → r' < N → ∀ x, x ∈ L r → x ∈ L r' → r = r'
def lenL (L : Nat → List Nat) (r : Nat) : Nat := (L r).length
def getL (L : Nat → List Nat) (r k : Nat) : Nat := (L r).getD k 0
def RowsL (w : World) (p a b N M : Nat) (L : Nat → List Nat) (ub : Int) : Prop := RowsAt w p a b N M (lenL L) (getL L) ub
section
variable {N M : Nat} {L : Nat → List Nat}
theorem getL_eq {r k : Nat} (h : k < (L r).length) : getL L r k = (L r)[k] := by unfold getL; simp [List.getD_eq_getElem?_getD, h]
theorem getL_mem {r k : Nat} (h : k < lenL L r) : getL L r k ∈ L r := by rw [getL_eq h]; exact List.getElem_mem _
theorem mem_getL {r x : Nat} (h : x ∈ L r) : ∃ k, k < lenL L r ∧ getL L r k = x := by
 obtain ⟨k, hk, rfl⟩ := List.getElem_of_mem h
 exact ⟨k, hk, getL_eq hk⟩
theorem Lists.len (h : Lists N M L) {r : Nat} (hr : r < N) : (L r).length ≤ M := nodup_le M _ (h.nd r hr) (h.lt r hr)
def inB (N : Nat) (L : Nat → List Nat) (x : Nat) : Bool := (List.range N).any fun r => (L r).contains x
theorem inB_iff {x : Nat} : inB N L x = true ↔ ∃ r, r < N ∧ x ∈ L r := by
 unfold inB; rw [List.any_eq_true]
 constructor
 · rintro ⟨r, hr, hx⟩; exact ⟨r, List.mem_range.1 hr, by simpa using hx⟩
 · rintro ⟨r, hr, hx⟩; exact ⟨r, List.mem_range.2 hr, by simpa using hx⟩
theorem inB_not {x : Nat} (h : inB N L x = false) {r : Nat} (hr : r < N) : x ∉ L r := fun hx => by
 rw [inB_iff.2 ⟨r, hr, hx⟩] at h; cases h
def pushL (L : Nat → List Nat) (r i j : Nat) : List Nat := if j = r then L r ++ [i] else L j
theorem lenL_push (r i : Nat) : (fun j => if j = r then lenL L r + 1 else lenL L j) = lenL (pushL L r i) := by
 funext j; unfold lenL pushL; by_cases e : j = r <;> simp [e]
theorem getL_push (r i : Nat) : (fun j k => if j = r ∧ k = lenL L r then i else getL L j k) = getL (pushL L r i) := by
 funext j k; unfold lenL pushL getL
 by_cases e : j = r
 · subst e
   by_cases ek : k = (L j).length
   · simp [ek]
   · by_cases ek2 : k < (L j).length
     · simp [ek, List.getD_eq_getElem?_getD, List.getElem?_append_left ek2]
     · have : (L j ++ [i]).length ≤ k := by simp; omega
       simp [ek, List.getD_eq_getElem?_getD, List.getElem?_eq_none this, List.getElem?_eq_none (show (L j).length ≤ k by omega)]
 · simp [e]
def remL (N : Nat) (L : Nat → List Nat) (i j : Nat) : List Nat := if j < N then (L j).filter (fun x => x != i) else L j
theorem erase_filter : ∀ (l : List Nat) (k : Nat) (hk : k < l.length), l.Nodup → l.eraseIdx k = l.filter (fun x => x != l[k])
 | [], k, hk, _ => absurd hk (Nat.not_lt_zero k)
 | y :: l, 0, hk, hn => by
   have hy : y ∉ l := (List.nodup_cons.1 hn).1
   simp only [List.eraseIdx_zero, List.tail_cons, List.getElem_cons_zero, List.filter_cons, bne_self_eq_false, Bool.false_eq_true, if_false]
   rw [List.filter_eq_self.2]
   intro x hx
   simp only [bne_iff_ne, ne_eq]
   exact fun e => hy (e ▸ hx)
 | y :: l, k + 1, hk, hn => by
   obtain ⟨hy, hl⟩ := List.nodup_cons.1 hn
   have hk' : k < l.length := by simpa using hk
   have hne : y ≠ l[k] := fun e => hy (e ▸ List.getElem_mem hk')
   simp only [List.eraseIdx_cons_succ, List.getElem_cons_succ, List.filter_cons]
   rw [if_pos (by simpa using hne), erase_filter l k hk' hl]
theorem Lists.rem_row (h : Lists N M L) {r k : Nat} (hr : r < N) (hk : k < lenL L r) {i : Nat} (hi : getL L r k = i) : remL N L i r = (L r).eraseIdx k := by
 unfold remL; rw [if_pos hr, erase_filter _ k hk (h.nd r hr), ← getL_eq hk, hi]
theorem Lists.rem_far (h : Lists N M L) {r i j : Nat} (hr : r < N) (hi : i ∈ L r) (hj : j ≠ r) : remL N L i j = L j := by
 unfold remL
 by_cases e : j < N
 · rw [if_pos e, List.filter_eq_self]
   intro x hx
   simp only [bne_iff_ne, ne_eq]
   rintro rfl
   exact hj (h.ap j r e hr x hx hi)
 · rw [if_neg e]
theorem Lists.lenL_rem (h : Lists N M L) {r k i : Nat} (hr : r < N) (hk : k < lenL L r) (hi : getL L r k = i) : (fun j => if j = r then lenL L r - 1 else lenL L j) = lenL (remL N L i) := by
 funext j
 by_cases e : j = r
 · subst e; unfold lenL at hk ⊢; rw [h.rem_row hr hk hi, List.length_eraseIdx, if_pos hk, if_pos rfl]
 · unfold lenL; rw [h.rem_far hr (hi ▸ getL_mem hk) e]; simp [e]
theorem Lists.getL_rem (h : Lists N M L) {r k i : Nat} (hr : r < N) (hk : k < lenL L r) (hi : getL L r k = i) : (fun j x => if j = r ∧ k ≤ x then getL L r (x + 1) else getL L j x) = getL (remL N L i) := by
 funext j x
 by_cases e : j = r
 · subst e
   show _ = (remL N L i j).getD x 0
   rw [h.rem_row hr hk hi]
   unfold getL
   rw [List.getD_eq_getElem?_getD, List.getD_eq_getElem?_getD, List.getD_eq_getElem?_getD, List.getElem?_eraseIdx]
   by_cases ex : x < k
   · rw [if_neg (by omega), if_pos ex]
   · rw [if_pos ⟨rfl, by omega⟩, if_neg ex]
 · show _ = (remL N L i j).getD x 0
   rw [h.rem_far hr (hi ▸ getL_mem hk) e, if_neg (fun c => e c.1)]; rfl
def pushE (N M : Nat) (L : Nat → List Nat) (r i : Int) : Int := if r < 0 ∨ (N : Int) ≤ r then 1 else if i < 0 ∨ (M : Int) ≤ i then 1 else if inB N L i.toNat = true then 10 else 0
def pushQ (N M : Nat) (L : Nat → List Nat) (r i : Int) : Nat → List Nat := if pushE N M L r i = 0 then pushL L r.toNat i.toNat else L
def remE (N M : Nat) (L : Nat → List Nat) (i : Int) : Int := if i < 0 ∨ (M : Int) ≤ i then 1 else if inB N L i.toNat = true then 0 else 3
def remQ (N M : Nat) (L : Nat → List Nat) (i : Int) : Nat → List Nat := if remE N M L i = 0 then remL N L i.toNat else L
def rowE (N : Nat) (L : Nat → List Nat) (r : Int) : List Nat := if r < 0 ∨ (N : Int) ≤ r then [] else L r.toNat
end
section
variable {p a b N M : Nat} {L : Nat → List Nat} {ub : Int}
theorem RowsL.lists {w : World} (h : RowsL w p a b N M L ub) : Lists N M L := by
 obtain ⟨E0, E1, C, W, B0, B1, U, h1, h2, h3⟩ := h
 refine ⟨fun r hr x hx => ?_, fun r hr => ?_, fun r r' hr hr' x hx hx' => ?_⟩
 · obtain ⟨k, hk, rfl⟩ := mem_getL hx
   exact (h2.mem r hr k hk).1
 · refine List.pairwise_iff_getElem.2 fun i j hi hj hij e => ?_
   have := h2.inj r hr i j hi hj (by rw [getL_eq hi, getL_eq hj]; exact e)
   omega
 · obtain ⟨k, hk, rfl⟩ := mem_getL hx
   obtain ⟨k', hk', e⟩ := mem_getL hx'
   exact (h2.one hr hr' hk hk' e.symm).1
theorem push_any (r i : Int) (w : World) (h : RowsL w p a b N M L ub) (hM : M ≤ 1024) (hu : ub ≤ 1000000) :
   Calls Tryz.prog 171 #[.pointer (some ⟨p, 0, none⟩), .int .i64 r, .int .i64 i] w fun e w' => e = .returned (.int .i64 (pushE N M L r i)) ∧
     RowsL w' p a b N M (pushQ N M L r i) (ub + 1) ∧ Kept (fun g => g = a ∨ g = b) w w' := by
 have hL := h.lists
 unfold pushQ pushE
 by_cases hr : r < 0 ∨ (N : Int) ≤ r
 · have h' := h
   obtain ⟨E0, E1, C, W, B0, B1, U, h1, h2, h3⟩ := h
   rw [if_pos hr, if_neg (by decide)]
   exact (push_outr hr w h1).mono fun e w' ⟨he, hw⟩ => ⟨he, hw ▸ RowsAt.more h' (by omega), hw ▸ Kept.refl _ _⟩
 obtain ⟨rn, rfl⟩ : ∃ k : Nat, r = (k : Int) := ⟨r.toNat, by omega⟩
 by_cases hi : i < 0 ∨ (M : Int) ≤ i
 · have h' := h
   obtain ⟨E0, E1, C, W, B0, B1, U, h1, h2, h3⟩ := h
   rw [if_neg hr, if_pos hi, if_neg (by decide)]
   exact (push_outm (r := rn) (by omega) hi w h1).mono fun e w' ⟨he, hw⟩ => ⟨he, hw ▸ RowsAt.more h' (by omega), hw ▸ Kept.refl _ _⟩
 obtain ⟨k, rfl⟩ : ∃ k : Nat, i = (k : Int) := ⟨i.toNat, by omega⟩
 rw [if_neg hr, if_neg hi]
 simp only [Int.toNat_natCast]
 by_cases hb : inB N L k = true
 · rw [if_pos hb, if_neg (by decide)]
   obtain ⟨r', hr', hx⟩ := inB_iff.1 hb
   obtain ⟨j, hj, hjk⟩ := mem_getL hx
   exact (rows_busy (r := rn) (r' := r') (k := j) (i := k) w h (by omega) (by omega) hr' hj hjk).mono fun e w' ⟨he, hw⟩ => ⟨he, hw ▸ RowsAt.more h (by omega), hw ▸ Kept.refl _ _⟩
 · have hb' : inB N L k = false := by simpa using hb
   rw [if_neg hb, if_pos rfl]
   have hlen := hL.len (r := rn) (by omega)
   refine (rows_push (r := rn) (i := k) w h (by omega) (by omega) (fun r' hr' j hj e => inB_not hb' hr' (e ▸ getL_mem hj)) (by omega) (by unfold lenL; omega)).mono fun e w' ⟨he, h2, hk⟩ => ⟨he, ?_, hk⟩
   rw [lenL_push rn k, getL_push rn k] at h2
   exact h2
theorem rem_any (i : Int) (w : World) (h : RowsL w p a b N M L ub) (hM : M ≤ 1024) :
   Calls Tryz.prog 165 #[.pointer (some ⟨p, 0, none⟩), .int .i64 i] w fun e w' => e = .returned (.int .i64 (remE N M L i)) ∧
     RowsL w' p a b N M (remQ N M L i) ub ∧ Kept (fun g => g = a ∨ g = b) w w' := by
 have hL := h.lists
 unfold remQ remE
 by_cases hi : i < 0 ∨ (M : Int) ≤ i
 · have h' := h
   obtain ⟨E0, E1, C, W, B0, B1, U, h1, h2, h3⟩ := h
   rw [if_pos hi, if_neg (by decide)]
   exact (rem_out hi w h1).mono fun e w' ⟨he, hw⟩ => ⟨he, hw ▸ h', hw ▸ Kept.refl _ _⟩
 obtain ⟨k, rfl⟩ : ∃ k : Nat, i = (k : Int) := ⟨i.toNat, by omega⟩
 rw [if_neg hi]
 simp only [Int.toNat_natCast]
 by_cases hb : inB N L k = true
 · rw [if_pos hb, if_pos rfl]
   obtain ⟨r, hr, hx⟩ := inB_iff.1 hb
   obtain ⟨j, hj, hjk⟩ := mem_getL hx
   have hlen := hL.len (r := r) hr
   refine (rows_rem (r := r) (k := j) w h hr hj (by unfold lenL; omega) hjk).mono fun e w' ⟨he, h2, hk⟩ => ⟨he, ?_, hk⟩
   rw [hL.lenL_rem hr hj hjk, hL.getL_rem hr hj hjk] at h2
   exact h2
 · have hb' : inB N L k = false := by simpa using hb
   rw [if_neg hb, if_neg (by decide)]
   have h' := h
   obtain ⟨E0, E1, C, W, B0, B1, U, h1, h2, h3⟩ := h
   have hW : W k = -1 := by
     rcases h2.out k (by omega) with c | ⟨r, j, c1, c2, c3, _⟩
     · exact c
     · exact absurd (c3 ▸ getL_mem c2) (inB_not hb' c1)
   exact (rem_none (i := k) (by omega) hW w h1).mono fun e w' ⟨he, hw⟩ => ⟨he, hw ▸ h', hw ▸ Kept.refl _ _⟩
theorem len_any (r : Int) (w : World) (h : RowsL w p a b N M L ub) :
   Calls Tryz.prog 193 #[.pointer (some ⟨p, 0, none⟩), .int .i64 r] w fun e w' => e = .returned (.int .i64 ((rowE N L r).length : Int)) ∧ w = w' := by
 unfold rowE
 by_cases hr : r < 0 ∨ (N : Int) ≤ r
 · obtain ⟨E0, E1, C, W, B0, B1, U, h1, h2, h3⟩ := h
   rw [if_pos hr]; exact dlen_out hr w h1
 obtain ⟨rn, rfl⟩ : ∃ k : Nat, r = (k : Int) := ⟨r.toNat, by omega⟩
 rw [if_neg hr]
 simp only [Int.toNat_natCast]
 exact rows_len (r := rn) w h (by omega)
def hdE (l : List Nat) : Nat := l.headD 0
def laE (l : List Nat) : Nat := l.getLastD 0
def neE (l : List Nat) : Bool := !l.isEmpty
theorem neE_pos {l : List Nat} (h : 0 < l.length) : neE l = true := by cases l with
 | nil => exact absurd h (Nat.not_lt_zero _)
 | cons x l => rfl
theorem neE_nil {l : List Nat} (h : ¬ 0 < l.length) : l = [] := by cases l with
 | nil => rfl
 | cons x l => simp at h
theorem laE_eq {l : List Nat} (h : 0 < l.length) : laE l = l[l.length - 1] := by
 unfold laE; rw [List.getLastD_eq_getLast?, List.getLast?_eq_getElem?]; simp [show l.length - 1 < l.length by omega]
theorem back_any (r : Int) (w : World) (h : RowsL w p a b N M L ub) :
   Calls Tryz.prog 210 #[.pointer (some ⟨p, 0, none⟩), .int .i64 r] w fun e w' => e = .returned (.tuple #[.int .i64 (laE (rowE N L r) : Nat), .bool (neE (rowE N L r))]) ∧ w = w' := by
 unfold rowE
 by_cases hr : r < 0 ∨ (N : Int) ≤ r
 · obtain ⟨E0, E1, C, W, B0, B1, U, h1, h2, h3⟩ := h
   rw [if_pos hr]; exact dback_out hr w h1
 obtain ⟨rn, rfl⟩ : ∃ k : Nat, r = (k : Int) := ⟨r.toNat, by omega⟩
 rw [if_neg hr]
 simp only [Int.toNat_natCast]
 by_cases hz : 0 < (L rn).length
 · refine (rows_back (r := rn) w h (by omega) hz).mono fun e w' ⟨he, hw⟩ => ⟨?_, hw⟩
   rw [he, getL_eq (show lenL L rn - 1 < (L rn).length by unfold lenL; omega), neE_pos hz, laE_eq hz]; rfl
 · have hz' := neE_nil hz
   obtain ⟨E0, E1, C, W, B0, B1, U, h1, h2, h3⟩ := h
   rw [hz']
   exact dback_empty (r := rn) (by omega) ((h2.cnt rn (by omega)).trans (by unfold lenL; rw [hz']; rfl)) w h1
theorem upto_front (r : Nat) : upto (away (lenL L) (getL L) r false) (lenL L r) = L r := by
 unfold upto lenL
 refine List.ext_getElem (by simp) fun i h1 h2 => ?_
 rw [List.getElem_map, List.getElem_range]
 exact getL_eq h2
end
end Go.Proofs.YtcffeokbipjaoaaGreat
namespace Go.Proofs.YtcffeokbipjaoaaGreat
open Go.ChangeShapes Go.WideShapes Go.RowKit
set_option linter.unusedVariables false
def cmp3 (a b : Int) : Int := if a < b then -1 else if b < a then 1 else 0
theorem nan1 (a : Int) (w : World) : Calls Tryz.prog 234 #[.int .i64 a] w fun e w' => e = .returned (.bool false) ∧ w = w' := by
 go_enter Tryz.func234, Tryz.ntmps234
 go_wp2
 go_ret
 exact ⟨rfl, rfl⟩
theorem nan2 (a : Int) (w : World) : Calls Tryz.prog 235 #[.int .u64 a] w fun e w' => e = .returned (.bool false) ∧ w = w' := by
 go_enter Tryz.func235, Tryz.ntmps235
 go_wp2
 go_ret
 exact ⟨rfl, rfl⟩
theorem nan3 (a : Int) (w : World) : Calls Tryz.prog 246 #[.int .i64 a] w fun e w' => e = .returned (.bool false) ∧ w = w' := by
 go_enter Tryz.func246, Tryz.ntmps246
 go_wp2
 go_ret
 exact ⟨rfl, rfl⟩
set_option maxHeartbeats 400000 in
theorem comp1 (a b : Int) (w : World) : Calls Tryz.prog 191 #[.int .i64 a, .int .i64 b] w fun e w' => e = .returned (.int .i64 (cmp3 a b)) ∧ w = w' := by
 rcases Int.lt_trichotomy a b with h | h | h
 · have e : cmp3 a b = -1 := by unfold cmp3; rw [if_pos h]
   rw [e]; clear e
   go_enter Tryz.func191, Tryz.ntmps191
   go_wp2_with (go_at_call 234; refine (nan1 _ _).mono ?_; rintro e w1 ⟨rfl, rfl⟩)
   go_ret
   exact ⟨rfl, rfl⟩
 · have e : cmp3 a b = 0 := by unfold cmp3; rw [if_neg (by omega), if_neg (by omega)]
   rw [e]; clear e
   subst h
   go_enter Tryz.func191, Tryz.ntmps191
   go_wp2_with (go_at_call 234; refine (nan1 _ _).mono ?_; rintro e w1 ⟨rfl, rfl⟩)
   go_ret
   exact ⟨rfl, rfl⟩
 · have e : cmp3 a b = 1 := by unfold cmp3; rw [if_neg (by omega), if_pos h]
   rw [e]; clear e
   go_enter Tryz.func191, Tryz.ntmps191
   go_wp2_with (go_at_call 234; refine (nan1 _ _).mono ?_; rintro e w1 ⟨rfl, rfl⟩)
   go_ret
   exact ⟨rfl, rfl⟩
set_option maxHeartbeats 400000 in
theorem comp2 (a b : Int) (w : World) : Calls Tryz.prog 192 #[.int .u64 a, .int .u64 b] w fun e w' => e = .returned (.int .i64 (cmp3 a b)) ∧ w = w' := by
 rcases Int.lt_trichotomy a b with h | h | h
 · have e : cmp3 a b = -1 := by unfold cmp3; rw [if_pos h]
   rw [e]; clear e
   go_enter Tryz.func192, Tryz.ntmps192
   go_wp2_with (go_at_call 235; refine (nan2 _ _).mono ?_; rintro e w1 ⟨rfl, rfl⟩)
   go_ret
   exact ⟨rfl, rfl⟩
 · have e : cmp3 a b = 0 := by unfold cmp3; rw [if_neg (by omega), if_neg (by omega)]
   rw [e]; clear e
   subst h
   go_enter Tryz.func192, Tryz.ntmps192
   go_wp2_with (go_at_call 235; refine (nan2 _ _).mono ?_; rintro e w1 ⟨rfl, rfl⟩)
   go_ret
   exact ⟨rfl, rfl⟩
 · have e : cmp3 a b = 1 := by unfold cmp3; rw [if_neg (by omega), if_pos h]
   rw [e]; clear e
   go_enter Tryz.func192, Tryz.ntmps192
   go_wp2_with (go_at_call 235; refine (nan2 _ _).mono ?_; rintro e w1 ⟨rfl, rfl⟩)
   go_ret
   exact ⟨rfl, rfl⟩
set_option maxHeartbeats 400000 in
theorem comp3 (a b : Int) (w : World) : Calls Tryz.prog 202 #[.int .i64 a, .int .i64 b] w fun e w' => e = .returned (.int .i64 (cmp3 a b)) ∧ w = w' := by
 rcases Int.lt_trichotomy a b with h | h | h
 · have e : cmp3 a b = -1 := by unfold cmp3; rw [if_pos h]
   rw [e]; clear e
   go_enter Tryz.func202, Tryz.ntmps202
   go_wp2_with (go_at_call 246; refine (nan3 _ _).mono ?_; rintro e w1 ⟨rfl, rfl⟩)
   go_ret
   exact ⟨rfl, rfl⟩
 · have e : cmp3 a b = 0 := by unfold cmp3; rw [if_neg (by omega), if_neg (by omega)]
   rw [e]; clear e
   subst h
   go_enter Tryz.func202, Tryz.ntmps202
   go_wp2_with (go_at_call 246; refine (nan3 _ _).mono ?_; rintro e w1 ⟨rfl, rfl⟩)
   go_ret
   exact ⟨rfl, rfl⟩
 · have e : cmp3 a b = 1 := by unfold cmp3; rw [if_neg (by omega), if_pos h]
   rw [e]; clear e
   go_enter Tryz.func202, Tryz.ntmps202
   go_wp2_with (go_at_call 246; refine (nan3 _ _).mono ?_; rintro e w1 ⟨rfl, rfl⟩)
   go_ret
   exact ⟨rfl, rfl⟩
def or3 (x y z : Int) : Int := if x = 0 then (if y = 0 then z else y) else x
set_option maxHeartbeats 1000000 in
theorem or_any {g : Nat} {T : TypeId} (c : Nat) (x y z : Int) (w : World) (h : Blk w g T #[.int .i64 x, .int .i64 y, .int .i64 z]) :
   Calls Tryz.prog 190 #[.slice (some ⟨g, 0, none⟩) 3 c] w fun e w' => e = .returned (.int .i64 (or3 x y z)) ∧ w = w' := by
 have c0 := h.val (i := 0) rfl
 have c1 := h.val (i := 1) rfl
 have c2 := h.val (i := 2) rfl
 clear h
 by_cases hx : x = 0
 · by_cases hy : y = 0
   · have e : or3 x y z = z := by unfold or3; rw [if_pos hx, if_pos hy]
     rw [e]; clear e
     subst hx hy
     go_enter Tryz.func190, Tryz.ntmps190
     go_wp2
     go_loopw [5, 8] (fun s5 s8 wr => ∃ k : Nat, k ≤ 3 ∧ s8 = .int .i64 k ∧ (k = 3 → z = 0) ∧ wr = w) (fun _ i _ => 3 - (intOf i).toNat)
     case atStart => exact ⟨0, by omega, rfl, (fun h => by omega), rfl⟩
     case round =>
       obtain ⟨k, hk, rfl, hz, rfl⟩ := hrel
       match k, hk with
       | 0, _ =>
         go_wp2
         go_roundw
         case rel => exact ⟨1, by omega, by go_num, (fun h => by omega), by trivial⟩
         case measure => simp [intOf]
       | 1, _ =>
         go_wp2
         go_roundw
         case rel => exact ⟨2, by omega, by go_num, (fun h => by omega), by trivial⟩
         case measure => simp [intOf]
       | 2, _ =>
         by_cases h0 : z = 0
         · go_wp2
           go_roundw
           case rel => exact ⟨3, by omega, by go_num, (fun _ => h0), by trivial⟩
           case measure => simp [intOf]
         · go_wp2
           go_ret
           exact ⟨rfl, rfl⟩
       | 3, _ =>
         have h0 := hz rfl
         subst h0
         go_wp2
         go_ret
         exact ⟨rfl, rfl⟩
   · have e : or3 x y z = y := by unfold or3; rw [if_pos hx, if_neg hy]
     rw [e]; clear e
     subst hx
     go_enter Tryz.func190, Tryz.ntmps190
     go_wp2
     go_loopw [5, 8] (fun s5 s8 wr => ∃ k : Nat, k ≤ 1 ∧ s8 = .int .i64 k ∧ wr = w) (fun _ i _ => 3 - (intOf i).toNat)
     case atStart => exact ⟨0, by omega, rfl, rfl⟩
     case round =>
       obtain ⟨k, hk, rfl, rfl⟩ := hrel
       match k, hk with
       | 0, _ =>
         go_wp2
         go_roundw
         case rel => exact ⟨1, by omega, by go_num, by trivial⟩
         case measure => simp [intOf]
       | 1, _ =>
         go_wp2
         go_ret
         exact ⟨rfl, rfl⟩
 · have e : or3 x y z = x := by unfold or3; rw [if_neg hx]
   rw [e]; clear e
   go_enter Tryz.func190, Tryz.ntmps190
   go_wp2
   go_loopw [5, 8] (fun s5 s8 wr => s8 = .int .i64 0 ∧ wr = w) (fun _ i _ => 3 - (intOf i).toNat)
   case atStart => exact ⟨rfl, rfl⟩
   case round =>
     obtain ⟨rfl, rfl⟩ := hrel
     go_wp2
     go_ret
     exact ⟨rfl, rfl⟩
structure En where
 k : Int
 t : Int
 m : Int
abbrev En.v (a : En) : Value := .agg #[.int .i64 a.k, .int .u64 a.t, .int .i64 a.m]
def cmpE (a b : En) : Int := or3 (cmp3 a.k b.k) (cmp3 a.t b.t) (cmp3 a.m b.m)
theorem wp_worldh {P : Program} {code : Code} {Q : Exit → Act → World → Prop} {a : Act} {w : World} (φ : World → Prop) (h : φ w) (k : ∀ wx, φ wx → Code.wp P code Q a wx) : Code.wp P code Q a w := k w h
set_option maxHeartbeats 1000000 in
theorem compare_any (a b : En) (w : World) :
   Calls Tryz.prog 161 #[a.v, b.v] w fun e w' => e = .returned (.int .i64 (cmpE a b)) ∧ Below w.heap.size w w' := by
 obtain ⟨ak, at_, am⟩ := a
 obtain ⟨bk, bt, bm⟩ := b
 have hc : cmpE ⟨ak, at_, am⟩ ⟨bk, bt, bm⟩ = or3 (cmp3 ak bk) (cmp3 at_ bt) (cmp3 am bm) := rfl
 rw [hc]; clear hc
 obtain ⟨x1, e1⟩ : ∃ x, cmp3 ak bk = x := ⟨_, rfl⟩
 obtain ⟨x2, e2⟩ : ∃ x, cmp3 at_ bt = x := ⟨_, rfl⟩
 obtain ⟨x3, e3⟩ : ∃ x, cmp3 am bm = x := ⟨_, rfl⟩
 rw [e1, e2, e3]
 obtain ⟨r, er⟩ : ∃ x, or3 x1 x2 x3 = x := ⟨_, rfl⟩
 rw [er]
 have E1 := Lib.hid e1
 have E2 := Lib.hid e2
 have E3 := Lib.hid e3
 have ER := Lib.hid er
 clear e1 e2 e3 er
 go_enter Tryz.func161, Tryz.ntmps161
 go_upto_region 1 with fail
 refine wp_worldh (fun wx => wx.cell? ⟨w.heap.size, 0, none⟩ = some (.int .i64 ak) ∧ wx.cell? ⟨w.heap.size, 1, none⟩ = some (.int .u64 at_) ∧ wx.cell? ⟨w.heap.size, 2, none⟩ = some (.int .i64 am) ∧ wx.cell? ⟨w.heap.size + 1, 0, none⟩ = some (.int .i64 bk) ∧ wx.cell? ⟨w.heap.size + 1, 1, none⟩ = some (.int .u64 bt) ∧ wx.cell? ⟨w.heap.size + 1, 2, none⟩ = some (.int .i64 bm) ∧ Below w.heap.size w wx) ⟨((Blk.made w _ _).alloc_ _).val (i := 0) rfl, ((Blk.made w _ _).alloc_ _).val (i := 1) rfl, ((Blk.made w _ _).alloc_ _).val (i := 2) rfl, (Blk.new_ (by simp)).val (i := 0) rfl, (Blk.new_ (by simp)).val (i := 1) rfl, (Blk.new_ (by simp)).val (i := 2) rfl, ((Below.refl _ _).alloc (Nat.le_refl _) _).alloc (by simp) _⟩ ?_
 rintro wx ⟨c0, c1, c2, c3, c4, c5, hb⟩
 have hz := hb.size
 (go_region_held3 (fun w' => w'.cell? ⟨w.heap.size, 0, none⟩ = some (.int .i64 ak) ∧ w'.cell? ⟨w.heap.size, 1, none⟩ = some (.int .u64 at_) ∧ w'.cell? ⟨w.heap.size, 2, none⟩ = some (.int .i64 am) ∧ w'.cell? ⟨w.heap.size + 1, 0, none⟩ = some (.int .i64 bk) ∧ w'.cell? ⟨w.heap.size + 1, 1, none⟩ = some (.int .u64 bt) ∧ w'.cell? ⟨w.heap.size + 1, 2, none⟩ = some (.int .i64 bm)) ((repeat (first | with_reducible assumption | refine ⟨?_, ?_⟩ | with_reducible refine kdrew ?_ | with_reducible refine kalloc ?_ _)))
   (first
     | (go_at_call 191; refine (comp1 _ _ _).mono ?_; rw [E1.out]; rintro e w1 ⟨rfl, rfl⟩)
     | (go_at_call 192; refine (comp2 _ _ _).mono ?_; rw [E2.out]; rintro e w1 ⟨rfl, rfl⟩)
     | (go_at_call 202; refine (comp3 _ _ _).mono ?_; rw [E3.out]; rintro e w1 ⟨rfl, rfl⟩)
     | (go_at_call 190; (first | refine (or_any _ _ _ _ _ (Blk.made _ _ _)).mono ?_ | refine (or_any _ _ _ _ _ (Blk.drew_ (Blk.made _ _ _))).mono ?_); rw [ER.out]; rintro e w1 ⟨rfl, rfl⟩)))
 all_goals
   go_wp2_with fail
   go_ret
   exact ⟨rfl, by repeat (first | with_reducible exact hb | with_reducible refine Below.drew ?_ | refine Below.alloc ?_ (by (try simp); (try omega)) _)⟩
end Go.Proofs.YtcffeokbipjaoaaGreat
namespace Go.Proofs.YtcffeokbipjaoaaGreat
open Go.ChangeShapes Go.WideShapes Go.RowKit
set_option linter.unusedVariables false
theorem hparent (a : Nat) (w : World) (h : 0 < a) (h1 : a ≤ 4096) : Calls Tryz.prog 249 #[.int .i64 (a : Int)] w fun e w' => e = .returned (.int .i64 (((a - 1) / 2 : Nat) : Int)) ∧ w = w' := by
 have e1 : IntKind.i64.wrap ((a : Int) - 1) = (a : Int) - 1 := by rw [IntKind.wrap_i64]; omega
 have e2 : ((a : Int) - 1).tdiv 2 = (((a - 1) / 2 : Nat) : Int) := by
   rw [Int.tdiv_eq_ediv_of_nonneg (by omega)]; omega
 have e3 : IntKind.i64.wrap ((((a - 1) / 2 : Nat)) : Int) = (((a - 1) / 2 : Nat) : Int) := by rw [IntKind.wrap_i64]; omega
 obtain ⟨q, hq⟩ : ∃ q : Nat, (a - 1) / 2 = q := ⟨_, rfl⟩
 rw [hq] at e2 e3 ⊢
 go_enter Tryz.func249, Tryz.ntmps249
 go_wp2
 go_ret
 exact ⟨rfl, rfl⟩
end Go.Proofs.YtcffeokbipjaoaaGreat
namespace Go.Proofs.YtcffeokbipjaoaaGreat
open Go.ChangeShapes Go.WideShapes Go.RowKit
set_option linter.unusedVariables false
def entRow (e : En) : List Value := [.int .i64 e.k, .int .u64 e.t, .int .i64 e.m]
structure HeapAt (w : World) (p b n : Nat) (A : Option Addr) (m c : Nat) (E : Nat → En) (P : Nat → Int) : Prop where
 head : Blk w p 226 #[.slice A m c, .slice (some ⟨b, 0, none⟩) n n]
 n0 : n ≤ 1024
 mn : m ≤ n
 mc : m ≤ c
 tree : 0 < c → ∃ a cs, A = some ⟨a, 0, none⟩ ∧ Blk w a 270 cs ∧ cs.size = c * 3 ∧ ∀ k, k < m → ∀ j, j < 3 → cs[k * 3 + j]? = (entRow (E k))[j]?
 place : ∃ cs, Blk w b 3 cs ∧ cs.size = n ∧ ∀ i, i < n → cs[i]? = some (.int .i64 (P i))
section
variable {w w' : World} {p b n m c : Nat} {A : Option Addr} {E : Nat → En} {P : Nat → Int}
theorem HeapAt.kept {own : Nat → Prop} (h : HeapAt w p b n A m c E P) (hk : Kept own w w') (ho : ∀ g t cs, Blk w g t cs → (t = 226 ∨ t = 270 ∨ t = 3) → (g = p ∨ g = b ∨ ∀ x, A = some x → x.block = g) → ¬ own g) : HeapAt w' p b n A m c E P := by
 obtain ⟨hd, h1, h2, h3, ht, ⟨ps, bp, pz, pc⟩⟩ := h
 refine ⟨hd.kept hk (ho _ _ _ hd (.inl rfl) (.inl rfl)), h1, h2, h3, fun h0 => ?_, ⟨ps, bp.kept hk (ho _ _ _ bp (.inr (.inr rfl)) (.inr (.inl rfl))), pz, pc⟩⟩
 obtain ⟨a, cs, e, ba, az, ac⟩ := ht h0
 exact ⟨a, cs, e, ba.kept hk (ho _ _ _ ba (.inr (.inl rfl)) (.inr (.inr fun x hx => by rw [e] at hx; injection hx with hx; rw [← hx]))), az, ac⟩
theorem HeapAt.below (h : HeapAt w p b n A m c E P) (hb : Below w.heap.size w w') : HeapAt w' p b n A m c E P := h.kept (own := fun _ => False) (Kept.of_below hb) fun _ _ _ _ _ _ => id
theorem HeapAt.p0 (h : HeapAt w p b n A m c E P) : w.cell? ⟨p, 0, none⟩ = some (.slice A m c) := h.head.val (i := 0) rfl
theorem HeapAt.p1 (h : HeapAt w p b n A m c E P) : w.cell? ⟨p, 1, none⟩ = some (.slice (some ⟨b, 0, none⟩) n n) := h.head.val (i := 1) rfl
theorem HeapAt.b0 (h : HeapAt w p b n A m c E P) {i : Nat} (hi : i < n) : w.cell? ⟨b, i, none⟩ = some (.int .i64 (P i)) := by obtain ⟨ps, bp, _, pc⟩ := h.place; exact bp.val (pc i hi)
theorem HeapAt.zb (h : HeapAt w p b n A m c E P) (i : Nat) : w.frozen? ⟨b, i, none⟩ = false := by obtain ⟨ps, bp, _, pc⟩ := h.place; exact bp.free i
theorem HeapAt.at_ (h : HeapAt w p b n A m c E P) (h0 : 0 < m) : ∃ a, A = some ⟨a, 0, none⟩ ∧ (∀ k, k < m → w.cell? ⟨a, k * 3, none⟩ = some (.int .i64 (E k).k) ∧ w.cell? ⟨a, k * 3 + 1, none⟩ = some (.int .u64 (E k).t) ∧ w.cell? ⟨a, k * 3 + 2, none⟩ = some (.int .i64 (E k).m)) ∧ (∀ k, w.frozen? ⟨a, k, none⟩ = false) := by
 obtain ⟨a, cs, e, ba, az, ac⟩ := h.tree (by have := h.mc; omega)
 exact ⟨a, e, fun k hk => ⟨ba.val (ac k hk 0 (by omega)), ba.val (ac k hk 1 (by omega)), ba.val (ac k hk 2 (by omega))⟩, ba.free⟩
theorem hlen_any (w : World) (h : HeapAt w p b n A m c E P) : Calls Tryz.prog 199 #[.pointer (some ⟨p, 0, none⟩)] w fun e w' => e = .returned (.int .i64 (m : Int)) ∧ w = w' := by
 have q0 := h.p0
 clear h
 go_enter Tryz.func199, Tryz.ntmps199
 go_wp2
 go_ret
 exact ⟨rfl, rfl⟩
theorem hmem_yes {i : Nat} (hi : i < n) (w : World) (h : HeapAt w p b n A m c E P) : Calls Tryz.prog 205 #[.pointer (some ⟨p, 0, none⟩), .int .i64 (i : Int)] w fun e w' => e = .returned (.bool true) ∧ w = w' := by
 have q1 := h.p1
 have i0 : (0 : Int) ≤ (i : Int) := by omega
 have i1 : (i : Int) < (n : Int) := by omega
 clear h
 go_enter Tryz.func205, Tryz.ntmps205
 go_wp2
 go_ret
 exact ⟨rfl, rfl⟩
end
end Go.Proofs.YtcffeokbipjaoaaGreat
namespace Go.Proofs.YtcffeokbipjaoaaGreat
open Go.ChangeShapes Go.WideShapes Go.RowKit
set_option linter.unusedVariables false
theorem later_ {w w' : World} {a : Addr} {v : Value} (hb : Below w.heap.size w w') (h : w.cell? a = some v) : w'.cell? a = some v := (hb.cell (klt h)).trans h
section
variable {w w' : World} {p b n m c : Nat} {A : Option Addr} {E : Nat → En} {P : Nat → Int}
theorem before_any {i j : Nat} (hi : i < m) (hj : j < m) (w : World) (h : HeapAt w p b n A m c E P) : Calls Tryz.prog 248 #[.pointer (some ⟨p, 0, none⟩), .int .i64 (i : Int), .int .i64 (j : Int)] w fun e w' => e = .returned (.bool (decide (cmpE (E i) (E j) < 0))) ∧ Below w.heap.size w w' := by
 have q0 := h.p0
 have hm := h.mn
 have hn := h.n0
 have hz := h.head.size
 obtain ⟨a, rfl, hc, hf⟩ := h.at_ (by omega)
 obtain ⟨c0, c1, c2⟩ := hc i hi
 obtain ⟨d0, d1, d2⟩ := hc j hj
 obtain ⟨⟨ik, it, im⟩, hei⟩ : ∃ e, E i = e := ⟨_, rfl⟩
 obtain ⟨⟨jk, jt, jm⟩, hej⟩ : ∃ e, E j = e := ⟨_, rfl⟩
 rw [hei] at c0 c1 c2 ⊢
 rw [hej] at d0 d1 d2 ⊢
 have i0 : (0 : Int) ≤ (i : Int) := by omega
 have i1 : (i : Int) < (m : Int) := by omega
 have j0 : (0 : Int) ≤ (j : Int) := by omega
 have j1 : (j : Int) < (m : Int) := by omega
 obtain ⟨r, hr⟩ : ∃ r, cmpE ⟨ik, it, im⟩ ⟨jk, jt, jm⟩ = r := ⟨_, rfl⟩
 rw [hr]
 have HR := Lib.hid hr
 have hb := Below.refl w.heap.size w
 clear h hc hei hej hr
 go_enter Tryz.func248, Tryz.ntmps248
 go_upto_region 1 with fail
 first | (go_region_held3 (fun w' => w'.cell? ⟨p, 0, none⟩ = some (.slice (some ⟨a, 0, none⟩) m c) ∧ w'.cell? ⟨a, i * 3, none⟩ = some (.int .i64 ik) ∧ w'.cell? ⟨a, i * 3 + 1, none⟩ = some (.int .u64 it) ∧ w'.cell? ⟨a, i * 3 + 2, none⟩ = some (.int .i64 im) ∧ w'.cell? ⟨a, j * 3, none⟩ = some (.int .i64 jk) ∧ w'.cell? ⟨a, j * 3 + 1, none⟩ = some (.int .u64 jt) ∧ w'.cell? ⟨a, j * 3 + 2, none⟩ = some (.int .i64 jm)) ((repeat (first | with_reducible assumption | refine ⟨?_, ?_⟩ | with_reducible refine kdrew ?_ | with_reducible refine later_ hbn ?_)))
   ((go_at_call 161; refine (compare_any ⟨ik, it, im⟩ ⟨jk, jt, jm⟩ _).mono ?_; rw [HR.out]; rintro e w1 ⟨rfl, hbn⟩))) | fail
 all_goals
   go_wp2_with fail
   go_ret
   exact ⟨rfl, by first | exact hbn | exact (Below.refl _ _).drew.trans hbn⟩
end
end Go.Proofs.YtcffeokbipjaoaaGreat
