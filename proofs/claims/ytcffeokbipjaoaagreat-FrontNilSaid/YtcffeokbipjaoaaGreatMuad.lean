/- Texts of this claim, one behind the other: Drep Deqc. -/
import Derived.Below
import Derived.Test.YtcffeokbipjaoaaGreatMuac
namespace Go.Proofs.YtcffeokbipjaoaaGreat
set_option linter.unusedVariables false
def pv (A : Nat → Nat) (k : Nat) : Int := if k = 0 then -1 else (A (k - 1) : Int)
def nx (A : Nat → Nat) (n k : Nat) : Int := if k + 1 < n then (A (k + 1) : Int) else -1
def fst (A : Nat → Nat) (n : Nat) : Int := if 0 < n then (A 0 : Int) else -1
structure Rep (R M : Nat) (n : Nat → Nat) (A : Nat → Nat → Nat) (E0 E1 C W B0 B1 : Nat → Int) : Prop where
 cnt : ∀ r, r < R → C r = (n r : Int)
 first : ∀ r, r < R → E0 r = fst (A r) (n r)
 last : ∀ r, r < R → E1 r = pv (A r) (n r)
 mem : ∀ r, r < R → ∀ k, k < n r → A r k < M ∧ W (A r k) = (r : Int) ∧ B0 (A r k) = pv (A r) k ∧ B1 (A r k) = nx (A r) (n r) k
 inj : ∀ r, r < R → ∀ k k', k < n r → k' < n r → A r k = A r k' → k = k'
 out : ∀ i, i < M → W i = -1 ∨ ∃ r k, r < R ∧ k < n r ∧ A r k = i ∧ W i = (r : Int)
section
variable {R M : Nat} {n : Nat → Nat} {A : Nat → Nat → Nat} {E0 E1 C W B0 B1 : Nat → Int}
theorem Rep.start (R M : Nat) : Rep R M (fun _ => 0) (fun _ _ => 0) (fun _ => -1) (fun _ => -1) (fun _ => 0) (fun _ => -1) (fun _ => 0) (fun _ => 0) :=
 ⟨fun _ _ => rfl, fun _ _ => rfl, fun _ _ => rfl, fun _ _ k hk => absurd hk (Nat.not_lt_zero k), fun _ _ k _ hk => absurd hk (Nat.not_lt_zero k), fun _ _ => .inl rfl⟩
theorem Rep.one (h : Rep R M n A E0 E1 C W B0 B1) {r r' k k' : Nat} (hr : r < R) (hr' : r' < R) (hk : k < n r) (hk' : k' < n r') (e : A r k = A r' k') : r = r' ∧ k = k' := by
 have a := (h.mem r hr k hk).2.1
 have b := (h.mem r' hr' k' hk').2.1
 rw [e] at a
 have : r = r' := by omega
 subst this
 exact ⟨rfl, h.inj r hr k k' hk hk' e⟩
theorem Rep.push (h : Rep R M n A E0 E1 C W B0 B1) {r i : Nat} (hr : r < R) (hi : i < M) (hW : W i = -1) {E0' E1' C' W' B0' B1' : Nat → Int}
   (he0 : ∀ j, j < R → E0' j = if j = r ∧ n r = 0 then (i : Int) else E0 j) (he1 : ∀ j, j < R → E1' j = if j = r then (i : Int) else E1 j) (hc : ∀ j, j < R → C' j = if j = r then C r + 1 else C j)
   (hw : ∀ j, W' j = if j = i then (r : Int) else W j) (hb0 : ∀ j, B0' j = if j = i then E1 r else B0 j) (hb1 : ∀ j, B1' j = if j = i then -1 else if (j : Int) = E1 r then (i : Int) else B1 j) :
   Rep R M (fun j => if j = r then n r + 1 else n j) (fun j k => if j = r ∧ k = n r then i else A j k) E0' E1' C' W' B0' B1' := by
 have hne : ∀ r', r' < R → ∀ k, k < n r' → A r' k ≠ i := fun r' hr' k hk e => by
   have := (h.mem r' hr' k hk).2.1
   rw [e, hW] at this
   omega
 have hlast := h.last r hr
 refine ⟨fun j hj => ?_, fun j hj => ?_, fun j hj => ?_, fun j hj k hk => ?_, fun j hj k k' hk hk' e => ?_, fun x hx => ?_⟩
 · rw [hc j hj]
   by_cases e : j = r
   · subst e; simp [h.cnt j hj]
   · simp [e, h.cnt j hj]
 · rw [he0 j hj]
   have hf := h.first j hj
   by_cases e : j = r
   · subst e
     by_cases e0 : n j = 0
     · simp [e0, fst]
     · have : 0 < n j := by omega
       have e2 : ¬ (0 = n j) := by omega
       simp [e0, fst, hf, this, e2]
   · simp [e, hf]
 · rw [he1 j hj]
   by_cases e : j = r
   · subst e; simp [pv]
   · simp only [e, if_false, false_and]; exact h.last j hj
 · by_cases e : j = r
   · subst e
     simp only [if_true] at hk
     by_cases ek : k = n j
     · subst ek
       simp only [and_self, if_true]
       refine ⟨hi, by rw [hw]; simp, ?_, ?_⟩
       · rw [hb0, if_pos rfl, hlast]
         unfold pv
         by_cases e0 : n j = 0
         · simp [e0]
         · have e2 : ¬ (n j - 1 = n j) := by omega
           simp [e0, e2]
       · rw [hb1, if_pos rfl]; unfold nx; simp
     · have hk' : k < n j := by omega
       have hm := h.mem j hj k hk'
       have hn := hne j hj k hk'
       simp only [ek, and_false, if_false, if_true]
       refine ⟨hm.1, by rw [hw, if_neg hn]; exact hm.2.1, ?_, ?_⟩
       · rw [hb0, if_neg hn, hm.2.2.1]
         unfold pv
         by_cases e0 : k = 0
         · simp [e0]
         · have e2 : ¬ (k - 1 = n j) := by omega
           simp [e0, e2]
       · rw [hb1, if_neg hn]
         by_cases el : k + 1 = n j
         · have e3 : (A j k : Int) = E1 j := by
             rw [hlast]; unfold pv
             rw [if_neg (by omega), show n j - 1 = k by omega]
           rw [if_pos e3]
           unfold nx
           simp [el]
         · have e3 : ¬ (A j k : Int) = E1 j := by
             rw [hlast]; unfold pv
             rw [if_neg (by omega)]
             intro c
             have := h.inj j hj k (n j - 1) hk' (by omega) (by omega)
             omega
           rw [if_neg e3, hm.2.2.2]
           unfold nx
           have e4 : k + 1 < n j := by omega
           have e5 : ¬ (k + 1 = n j) := by omega
           simp [e4, e5, hk']
   · simp only [e, if_false] at hk
     have hm := h.mem j hj k hk
     have hn := hne j hj k hk
     simp only [e, false_and, if_false]
     refine ⟨hm.1, by rw [hw, if_neg hn]; exact hm.2.1, by rw [hb0, if_neg hn]; exact hm.2.2.1, ?_⟩
     have e3 : ¬ (A j k : Int) = E1 r := by
       rw [hlast]; unfold pv
       by_cases e0 : n r = 0
       · rw [if_pos e0]; omega
       · rw [if_neg e0]
         intro c
         have := h.one hj hr hk (show n r - 1 < n r by omega) (by omega)
         exact e this.1
     rw [hb1, if_neg hn, if_neg e3]
     exact hm.2.2.2
 · by_cases ej : j = r
   · subst ej
     simp only [if_true] at hk hk'
     by_cases ek : k = n j
     · by_cases ek' : k' = n j
       · omega
       · simp only [ek, ek', and_self, and_false, if_true, if_false] at e
         exact absurd e.symm (hne j hj k' (by omega))
     · by_cases ek' : k' = n j
       · simp only [ek, ek', and_self, and_false, if_true, if_false] at e
         exact absurd e (hne j hj k (by omega))
       · simp only [ek, ek', and_false, if_false] at e
         exact h.inj j hj k k' (by omega) (by omega) e
   · simp only [ej, false_and, if_false] at hk hk' e
     exact h.inj j hj k k' hk hk' e
 · rw [hw]
   by_cases e : x = i
   · subst e
     right
     exact ⟨r, n r, hr, by simp, by simp, by simp⟩
   · rw [if_neg e]
     rcases h.out x hx with h1 | ⟨r', k, h1, h2, h3, h4⟩
     · exact .inl h1
     · right
       refine ⟨r', k, h1, ?_, ?_, h4⟩
       · by_cases e' : r' = r
         · subst e'; simp; omega
         · simp [e']; exact h2
       · by_cases e' : r' = r
         · subst e'
           have : ¬ k = n r' := by omega
           simp [this, h3]
         · simp [e', h3]
theorem Rep.remove (h : Rep R M n A E0 E1 C W B0 B1) {r k : Nat} (hr : r < R) (hk : k < n r) {E0' E1' C' W' B0' B1' : Nat → Int}
   (he0 : ∀ j, j < R → E0' j = if j = r ∧ k = 0 then nx (A r) (n r) k else E0 j) (he1 : ∀ j, j < R → E1' j = if j = r ∧ k + 1 = n r then pv (A r) k else E1 j) (hc : ∀ j, j < R → C' j = if j = r then C r - 1 else C j)
   (hw : ∀ j, W' j = if j = A r k then -1 else W j) (hb0 : ∀ j, B0' j = if (j : Int) = nx (A r) (n r) k then pv (A r) k else B0 j) (hb1 : ∀ j, B1' j = if (j : Int) = pv (A r) k then nx (A r) (n r) k else B1 j) :
   Rep R M (fun j => if j = r then n r - 1 else n j) (fun j x => if j = r ∧ k ≤ x then A r (x + 1) else A j x) E0' E1' C' W' B0' B1' := by
 have hne : ∀ r', r' < R → ∀ x, x < n r' → (r' ≠ r ∨ x ≠ k) → A r' x ≠ A r k := fun r' hr' x hx hor e => by
   have := h.one hr' hr hx hk e
   omega
 -- the neighbours are told by their places
 have hnx : ∀ r', r' < R → ∀ x, x < n r' → ((A r' x : Int) = nx (A r) (n r) k ↔ r' = r ∧ x = k + 1) := fun r' hr' x hx => by
   unfold nx
   by_cases e : k + 1 < n r
   · rw [if_pos e]
     constructor
     · intro c
       exact h.one hr' hr hx e (by omega)
     · rintro ⟨rfl, rfl⟩; rfl
   · rw [if_neg e]
     constructor
     · intro c; omega
     · rintro ⟨rfl, rfl⟩; omega
 have hpv : ∀ r', r' < R → ∀ x, x < n r' → ((A r' x : Int) = pv (A r) k ↔ r' = r ∧ x + 1 = k) := fun r' hr' x hx => by
   unfold pv
   by_cases e : k = 0
   · rw [if_pos e]
     constructor
     · intro c; omega
     · rintro ⟨_, c⟩; omega
   · rw [if_neg e]
     constructor
     · intro c
       have := h.one hr' hr hx (show k - 1 < n r by omega) (by omega)
       omega
     · rintro ⟨rfl, c⟩
       rw [show x = k - 1 by omega]
 refine ⟨fun j hj => ?_, fun j hj => ?_, fun j hj => ?_, fun j hj x hx => ?_, fun j hj x x' hx hx' e => ?_, fun i hi => ?_⟩
 · rw [hc j hj]
   by_cases e : j = r
   · subst e; simp [h.cnt j hj]; omega
   · simp [e, h.cnt j hj]
 · rw [he0 j hj]
   have hf := h.first j hj
   by_cases e : j = r
   · subst e
     by_cases e0 : k = 0
     · subst e0
       simp only [and_self, if_true, Nat.zero_le, fst, nx]
       by_cases e1 : 0 + 1 < n j
       · rw [if_pos e1, if_pos (by omega)]
       · rw [if_neg e1, if_neg (by omega)]
     · have e1 : ¬ k ≤ 0 := by omega
       simp only [e0, e1, and_false, if_false, if_true, hf, fst]
       rw [if_pos (by omega), if_pos (by omega)]
   · simp only [e, false_and, if_false]; exact hf
 · rw [he1 j hj]
   have hl := h.last j hj
   by_cases e : j = r
   · subst e
     by_cases e0 : k + 1 = n j
     · simp only [e0, and_self, if_true, pv]
       by_cases e1 : k = 0
       · rw [if_pos e1, if_pos (by omega)]
       · rw [if_neg e1, if_neg (by omega), if_neg (by omega)]
         rw [show n j - 1 - 1 = k - 1 by omega]
     · simp only [e0, and_false, if_false, if_true, hl, pv]
       rw [if_neg (by omega), if_neg (by omega)]
       have e2 : k ≤ n j - 1 - 1 := by omega
       simp only [e2, and_self, if_true, show n j - 1 - 1 + 1 = n j - 1 by omega]
   · simp only [e, false_and, if_false]; exact hl
 · by_cases e : j = r
   · subst e
     simp only [if_true] at hx
     by_cases ex : k ≤ x
     · -- from behind
       have hx1 : x + 1 < n j := by omega
       have hm := h.mem j hj (x + 1) hx1
       have hn := hne j hj (x + 1) hx1 (.inr (by omega))
       simp only [ex, and_self, if_true]
       refine ⟨hm.1, by rw [hw, if_neg hn]; exact hm.2.1, ?_, ?_⟩
       · rw [hb0]
         by_cases e1 : x = k
         · subst e1
           rw [if_pos ((hnx j hj (x + 1) hx1).2 ⟨rfl, rfl⟩)]
           unfold pv
           by_cases e0 : x = 0
           · rw [if_pos e0, if_pos e0]
           · rw [if_neg e0, if_neg e0]
             dsimp only
             rw [if_neg (by omega)]
         · rw [if_neg (fun c => by have := (hnx j hj (x + 1) hx1).1 c; omega), hm.2.2.1]
           unfold pv
           rw [if_neg (by omega), if_neg (by omega)]
           dsimp only
           rw [if_pos ⟨trivial, by omega⟩, show x + 1 - 1 = x by omega, show x - 1 + 1 = x by omega]
       · rw [hb1, if_neg (fun c => by have := (hpv j hj (x + 1) hx1).1 c; omega), hm.2.2.2]
         unfold nx
         by_cases e1 : x + 1 + 1 < n j
         · rw [if_pos e1, if_pos (by omega)]
           dsimp only
           rw [if_pos ⟨trivial, by omega⟩]
         · rw [if_neg e1, if_neg (by omega)]
     · have hx1 : x < n j := by omega
       have hm := h.mem j hj x hx1
       have hn := hne j hj x hx1 (.inr (by omega))
       simp only [ex, and_false, if_false, if_true]
       refine ⟨hm.1, by rw [hw, if_neg hn]; exact hm.2.1, ?_, ?_⟩
       · rw [hb0, if_neg (fun c => by have := (hnx j hj x hx1).1 c; omega), hm.2.2.1]
         unfold pv
         by_cases e0 : x = 0
         · rw [if_pos e0, if_pos e0]
         · rw [if_neg e0, if_neg e0]
           dsimp only
           rw [if_neg (by omega)]
       · rw [hb1]
         by_cases e1 : x + 1 = k
         · rw [if_pos ((hpv j hj x hx1).2 ⟨rfl, e1⟩)]
           unfold nx
           by_cases e2 : k + 1 < n j
           · rw [if_pos e2, if_pos (by omega)]
             dsimp only
             rw [if_pos ⟨trivial, by omega⟩, e1]
           · rw [if_neg e2, if_neg (by omega)]
         · rw [if_neg (fun c => by have := (hpv j hj x hx1).1 c; omega), hm.2.2.2]
           unfold nx
           rw [if_pos (by omega), if_pos (by omega)]
           dsimp only
           rw [if_neg (by omega)]
   · simp only [e, if_false] at hx
     have hm := h.mem j hj x hx
     have hn := hne j hj x hx (.inl e)
     simp only [e, false_and, if_false]
     refine ⟨hm.1, by rw [hw, if_neg hn]; exact hm.2.1, ?_, ?_⟩
     · rw [hb0, if_neg (fun c => by have := (hnx j hj x hx).1 c; omega)]; exact hm.2.2.1
     · rw [hb1, if_neg (fun c => by have := (hpv j hj x hx).1 c; omega)]; exact hm.2.2.2
 · by_cases ej : j = r
   · subst ej
     simp only [if_true, true_and] at hx hx' e
     have key : ∀ y, y < n j - 1 → ∃ z, z < n j ∧ z ≠ k ∧ (if k ≤ y then A j (y + 1) else A j y) = A j z ∧ ((k ≤ y ∧ z = y + 1) ∨ (y < k ∧ z = y)) := fun y hy => by
       by_cases c : k ≤ y
       · exact ⟨y + 1, by omega, by omega, by rw [if_pos c], .inl ⟨c, rfl⟩⟩
       · exact ⟨y, by omega, by omega, by rw [if_neg c], .inr ⟨by omega, rfl⟩⟩
     obtain ⟨z, hz, -, ez, oz⟩ := key x hx
     obtain ⟨z', hz', -, ez', oz'⟩ := key x' hx'
     rw [ez, ez'] at e
     have := h.inj j hj z z' hz hz' e
     omega
   · simp only [ej, false_and, if_false] at hx hx' e
     exact h.inj j hj x x' hx hx' e
 · rw [hw]
   by_cases e : i = A r k
   · exact .inl (if_pos e)
   · rw [if_neg e]
     rcases h.out i hi with h1 | ⟨r', x, h1, h2, h3, h4⟩
     · exact .inl h1
     · right
       by_cases er : r' = r
       · subst er
         by_cases ex : x < k
         · refine ⟨r', x, h1, by simp; omega, ?_, h4⟩
           have : ¬ k ≤ x := by omega
           simp [this, h3]
         · have hxk : x ≠ k := fun c => e (by rw [← h3, c])
           refine ⟨r', x - 1, h1, by simp; omega, ?_, h4⟩
           have c : k ≤ x - 1 := by omega
           simp only [c, and_self, if_true, show x - 1 + 1 = x by omega, h3]
       · exact ⟨r', x, h1, by simp [er, h2], by simp [er, h3], h4⟩
end
end Go.Proofs.YtcffeokbipjaoaaGreat
namespace Go.Proofs.YtcffeokbipjaoaaGreat
open Go.RowKit
set_option linter.unusedVariables false
section
variable {p a b R M : Nat} {E0 E1 C W B0 B1 U : Nat → Int}
set_option maxHeartbeats 1000000 in
theorem dlen_yes {r : Nat} (hr : r < R) (w : World) (h : DeqAt w p a b R M E0 E1 C W B0 B1 U) :
   Calls Tryz.prog 193 #[.pointer (some ⟨p, 0, none⟩), .int .i64 (r : Int)] w fun e w' => e = .returned (.int .i64 (C r)) ∧ w = w' := by
 have q0 := h.p0
 have n0 := h.r0
 have k2 := h.ct hr
 have H0 := Lib.hid h
 clear h
 go_enter Tryz.func193, Tryz.ntmps193
 go_wp2_with (go_at_call 211; refine (hasrow_yes hr _ H0.out).mono ?_; rintro e w1 ⟨rfl, rfl⟩)
 go_ret
 exact ⟨rfl, rfl⟩
set_option maxHeartbeats 1000000 in
theorem dat_none {r : Nat} (hr : r < R) (hc : C r = 0) (s : Int) (w : World) (h : DeqAt w p a b R M E0 E1 C W B0 B1 U) :
   Calls Tryz.prog 139 #[.pointer (some ⟨p, 0, none⟩), .int .i64 (r : Int), .int .i64 s] w fun e w' => e = .returned (.tuple #[.int .i64 0, .bool false]) ∧ w = w' := by
 have H0 := Lib.hid h
 have HC := Lib.hid hc
 clear h hc
 go_enter Tryz.func139, Tryz.ntmps139
 go_wp2_with (go_at_call 193; refine (dlen_yes hr _ H0.out).mono ?_; rintro e w1 ⟨rfl, rfl⟩; rw [HC.out])
 go_ret2
 exact ⟨rfl, rfl⟩
set_option maxHeartbeats 1000000 in
theorem dat_first {r : Nat} (hr : r < R) (hc : 0 < C r) (w : World) (h : DeqAt w p a b R M E0 E1 C W B0 B1 U) :
   Calls Tryz.prog 139 #[.pointer (some ⟨p, 0, none⟩), .int .i64 (r : Int), .int .i64 0] w fun e w' => e = .returned (.tuple #[.int .i64 (E0 r), .bool true]) ∧ w = w' := by
 have q0 := h.p0
 have n0 := h.r0
 have k0 := h.e0 hr
 have hz : (C r == 0) = false := beq_eq_false_iff_ne.2 (by omega)
 have H0 := Lib.hid h
 clear h
 go_enter Tryz.func139, Tryz.ntmps139
 go_wp2_with (go_at_call 193; refine (dlen_yes hr _ H0.out).mono ?_; rintro e w1 ⟨rfl, rfl⟩)
 go_ret2
 exact ⟨rfl, rfl⟩
set_option maxHeartbeats 1000000 in
theorem dat_last {r : Nat} (hr : r < R) (hc : 0 < C r) (w : World) (h : DeqAt w p a b R M E0 E1 C W B0 B1 U) :
   Calls Tryz.prog 139 #[.pointer (some ⟨p, 0, none⟩), .int .i64 (r : Int), .int .i64 1] w fun e w' => e = .returned (.tuple #[.int .i64 (E1 r), .bool true]) ∧ w = w' := by
 have q0 := h.p0
 have n0 := h.r0
 have k0 := h.e1 hr
 have hz : (C r == 0) = false := beq_eq_false_iff_ne.2 (by omega)
 have H0 := Lib.hid h
 clear h
 go_enter Tryz.func139, Tryz.ntmps139
 go_wp2_with (go_at_call 193; refine (dlen_yes hr _ H0.out).mono ?_; rintro e w1 ⟨rfl, rfl⟩)
 go_ret2
 exact ⟨rfl, rfl⟩
set_option maxHeartbeats 1000000 in
theorem dback_any {r : Nat} (hr : r < R) (hc : 0 < C r) (w : World) (h : DeqAt w p a b R M E0 E1 C W B0 B1 U) :
   Calls Tryz.prog 210 #[.pointer (some ⟨p, 0, none⟩), .int .i64 (r : Int)] w fun e w' => e = .returned (.tuple #[.int .i64 (E1 r), .bool true]) ∧ w = w' := by
 have H0 := Lib.hid h
 clear h
 go_enter Tryz.func210, Tryz.ntmps210
 go_wp2_with (go_at_call 139; refine (dat_last hr hc _ H0.out).mono ?_; rintro e w1 ⟨rfl, rfl⟩)
 go_ret2
 exact ⟨rfl, rfl⟩
end
theorem upto_one (k j : Nat) : (if j < k + 1 then (-1 : Int) else 0) = if j = k then -1 else if j < k then -1 else 0 := by
 by_cases e : j = k
 · rw [if_pos e, if_pos (by omega)]
 · by_cases e2 : j < k
   · rw [if_neg e, if_pos e2, if_pos (by omega)]
   · rw [if_neg e, if_neg e2, if_neg (by omega)]
theorem linfo : (Tryz.prog.info? 216).map (fun i => (i.zero, i.size, i.bytes)) = some (some (.agg #[.int .i64 0, .int .i64 0, .int .i64 0]), 3, 24) := by kernel_rfl
theorem meinfo : (Tryz.prog.info? 218).map (fun i => (i.zero, i.size, i.bytes)) = some (some (.agg #[.int .i64 0, .int .i64 0, .int .i64 0, .int .u64 0]), 4, 32) := by kernel_rfl
theorem run_lines (n : Nat) (hn : n ≤ 8) (w : World) :
   (Instr.makeSlice 210 (.int .i64 (n : Int)) (.int .i64 (n : Int))).run Tryz.prog w = .ok (.slice (some ⟨w.heap.size, 0, none⟩) n n) (w.alloc (.cells (madeCells #[.int .i64 0, .int .i64 0, .int .i64 0] (n * 3)) 216)) := by
 obtain ⟨i, hi, hzz⟩ := Option.map_eq_some_iff.1 linfo
 simp only [Prod.mk.injEq] at hzz
 obtain ⟨hz, hs, hb⟩ := hzz
 have h := run_make (P := Tryz.prog) w 210 216 i _ Tryz.underlying210 hi hz .i64 .i64 n n (by omega) (Int.le_refl _) (by rw [hb]; omega) (by omega)
 simp only [Int.toNat_natCast, hs] at h
 exact h
theorem run_mems (n : Nat) (hn : n ≤ 1024) (w : World) :
   (Instr.makeSlice 211 (.int .i64 (n : Int)) (.int .i64 (n : Int))).run Tryz.prog w = .ok (.slice (some ⟨w.heap.size, 0, none⟩) n n) (w.alloc (.cells (madeCells #[.int .i64 0, .int .i64 0, .int .i64 0, .int .u64 0] (n * 4)) 218)) := by
 obtain ⟨i, hi, hzz⟩ := Option.map_eq_some_iff.1 meinfo
 simp only [Prod.mk.injEq] at hzz
 obtain ⟨hz, hs, hb⟩ := hzz
 have h := run_make (P := Tryz.prog) w 211 218 i _ Tryz.underlying211 hi hz .i64 .i64 n n (by omega) (Int.le_refl _) (by rw [hb]; omega) (by omega)
 simp only [Int.toNat_natCast, hs] at h
 exact h
def DNew (R M : Nat) (w : World) (e : Ending) (w' : World) : Prop := ∃ p a b : Nat, e = .returned (.tuple #[.pointer (some ⟨p, 0, none⟩), .int .i64 0]) ∧ w.heap.size ≤ p ∧ w.heap.size ≤ a ∧ w.heap.size ≤ b ∧
     DeqAt w' p a b R M (fun _ => -1) (fun _ => -1) (fun _ => 0) (fun _ => -1) (fun _ => 0) (fun _ => 0) (fun _ => 0) ∧ Below w.heap.size w w'
set_option maxRecDepth 100000 in
set_option maxHeartbeats 2000000 in
theorem dnew_yes (R M : Nat) (w : World) (h0 : 1 ≤ R) (h1 : R ≤ 8) (h2 : 1 ≤ M) (h3 : M ≤ 1024) :
   Calls Tryz.prog 75 #[.int .i64 (R : Int), .int .i64 (M : Int)] w (DNew R M w) := by
 have hm1 := run_lines R h1
 have hm2 := run_mems M h3
 go_enter Tryz.func75, Tryz.ntmps75
 go_upto_region 3 with fail
 go_cut [6] (fun s4 wx => ∃ p c f : Nat, s4 = .pointer (some ⟨p, 0, none⟩) ∧ p ≠ c ∧ p ≠ f ∧ c ≠ f ∧ w.heap.size ≤ p ∧ w.heap.size ≤ c ∧ w.heap.size ≤ f ∧
   Blk wx p 213 #[.slice (some ⟨c, 0, none⟩) R R, .slice (some ⟨f, 0, none⟩) M M] ∧
   Blk wx c 216 (madeCells #[.int .i64 0, .int .i64 0, .int .i64 0] (R * 3)) ∧ Blk wx f 218 (madeCells #[.int .i64 0, .int .i64 0, .int .i64 0, .int .u64 0] (M * 4)) ∧ Below w.heap.size w wx)
 case first =>
   go_region
   all_goals (try go_wp2)
   all_goals go_meet
   all_goals (first
     | (refine ⟨w.heap.size + 1 + 1, w.heap.size, w.heap.size + 1, rfl, by omega, by omega, by omega, by omega, by omega, by omega, ?_, ?_, ?_, ?_⟩ <;> (repeat (first | with_reducible exact Below.refl _ _ | with_reducible apply Below.drew | refine Below.alloc ?_ (by (try simp); (try omega)) _ | (with_reducible refine Blk.new_ ?_; simp; done) | with_reducible refine Blk.drew_ ?_ | with_reducible refine Blk.alloc_ ?_ _)); done)
     | (refine ⟨w.heap.size + 1 + 1, w.heap.size + 1, w.heap.size, rfl, by omega, by omega, by omega, by omega, by omega, by omega, ?_, ?_, ?_, ?_⟩ <;> (repeat (first | with_reducible exact Below.refl _ _ | with_reducible apply Below.drew | refine Below.alloc ?_ (by (try simp); (try omega)) _ | (with_reducible refine Blk.new_ ?_; simp; done) | with_reducible refine Blk.drew_ ?_ | with_reducible refine Blk.alloc_ ?_ _)); done))
 case rest =>
   obtain ⟨p, c, f, rfl, hpc, hpf, hcf, hp, hc, hf, bp, bc, bf, hb⟩ := hcut
   have hs0 : DeqAt wc p c f R M (fun _ => 0) (fun _ => 0) (fun _ => 0) (fun _ => 0) (fun _ => 0) (fun _ => 0) (fun _ => 0) := by
     refine ⟨hpc, hpf, hcf, h1, h3, bp, ⟨_, bc, made_size _ _, fun i hi k hk => ?_⟩, ⟨_, bf, made_size _ _, fun i hi k hk => ?_⟩⟩
     · rw [made_at _ _ (by omega) (by decide)]
       have e : (i * 3 + k) % 3 = k := by omega
       match k, hk with
       | 0, _ | 1, _ | 2, _ => simp [lineRow, e]
     · rw [made_at _ _ (by omega) (by decide)]
       have e : (i * 4 + k) % 4 = k := by omega
       match k, hk with
       | 0, _ | 1, _ | 2, _ | 3, _ => simp [memRow, e]
   have q0 := hs0.p0
   have H0 := Lib.hid hs0
   clear bp bc bf hs0 hm1 hm2
   go_wp2
   go_loopw [34] (fun i wr => ∃ k : Nat, k ≤ R ∧ i = .int .i64 k ∧ DeqAt wr p c f R M (fun j => if j < k then -1 else 0) (fun j => if j < k then -1 else 0) (fun _ => 0) (fun _ => 0) (fun _ => 0) (fun _ => 0) (fun _ => 0) ∧ Below w.heap.size w wr) (fun i _ => R - (intOf i).toNat)
   case atStart => exact ⟨0, Nat.zero_le _, rfl, H0.out.congr (fun j hj => ⟨by simp, by simp, rfl⟩) (fun j hj => ⟨rfl, rfl, rfl, rfl⟩), hb⟩
   case round =>
     obtain ⟨k, hk, rfl, hs, hbr⟩ := hrel
     clear q0
     by_cases hlt : k < R
     · have q0 := hs.p0
       have k0 := hs.e0 hlt
       have k1 := hs.e1 hlt
       have z0 := hs.za (k * 3)
       have z1 := hs.za (k * 3 + 1)
       have HS := Lib.hid hs
       clear hs
       go_wp2
       go_roundw
       case rel => exact ⟨k + 1, by omega, by go_num, ((HS.out.setE0 hlt).setE1 hlt).congr (fun j hj => ⟨upto_one k j, upto_one k j, rfl⟩) (fun j hj => ⟨rfl, rfl, rfl, rfl⟩), (hbr.setCell hc _).setCell hc _⟩
       case measure => simp [intOf]; omega
     · have hke : k = R := by omega
       subst hke
       have q0 := hs.p0
       have q1 := hs.p1
       have HS := Lib.hid (hs.congr (E0' := fun _ => -1) (E1' := fun _ => -1) (fun j hj => ⟨by simp [hj], by simp [hj], rfl⟩) (fun j hj => ⟨rfl, rfl, rfl, rfl⟩))
       clear hs
       obtain ⟨wo, rfl⟩ : ∃ wo, wo = wr := ⟨wr, rfl⟩
       go_wp2
       go_loopw [51] (fun i wr => ∃ j : Nat, j ≤ M ∧ i = .int .i64 j ∧ DeqAt wr p c f k M (fun _ => -1) (fun _ => -1) (fun _ => 0) (fun x => if x < j then -1 else 0) (fun _ => 0) (fun _ => 0) (fun _ => 0) ∧ Below w.heap.size w wr) (fun i _ => M - (intOf i).toNat)
       case atStart => exact ⟨0, Nat.zero_le _, rfl, HS.out.congr (fun j hj => ⟨rfl, rfl, rfl⟩) (fun j hj => ⟨by simp, rfl, rfl, rfl⟩), hbr⟩
       case round =>
         obtain ⟨j, hj, rfl, hs, hbr2⟩ := hrel
         clear q0 q1
         by_cases hlt2 : j < M
         · have q1 := hs.p1
           have k0 := hs.mw hlt2
           have z0 := hs.zb (j * 4)
           have HS2 := Lib.hid hs
           clear hs
           go_wp2
           go_roundw
           case rel => exact ⟨j + 1, by omega, by go_num, (HS2.out.setW hlt2).congr (fun j hj => ⟨rfl, rfl, rfl⟩) (fun x hx => ⟨upto_one j x, rfl, rfl, rfl⟩), hbr2.setCell hf _⟩
           case measure => simp [intOf]; omega
         · have hje : j = M := by omega
           subst hje
           have HS2 := Lib.hid (hs.congr (W' := fun _ => -1) (fun j hj => ⟨rfl, rfl, rfl⟩) (fun x hx => ⟨by simp [hx], rfl, rfl, rfl⟩))
           clear hs
           go_wp2
           go_ret2
           exact ⟨p, c, f, rfl, hp, hc, hf, HS2.out, hbr2⟩
end Go.Proofs.YtcffeokbipjaoaaGreat
