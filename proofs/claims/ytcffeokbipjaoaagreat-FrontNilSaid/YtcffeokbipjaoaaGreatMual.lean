/- Texts of this claim, one behind the other: Bxs Tqb Tqc. -/
import Derived.Deep.RegionWith
import Derived.Deep.DeepCutAuto
import Derived.BigQuiet
import Derived.Deep.QuietTactic
import Derived.Test.YtcffeokbipjaoaaGreatMuaa
import Derived.Test.YtcffeokbipjaoaaGreatMuak
namespace Go.Proofs.YtcffeokbipjaoaaGreat
open Go.RowKit
abbrev Bx1 := Nat × TypeId × List Value
theorem bl3 {w : World} {g : Nat} {t : TypeId} {v0 v1 v2 : Value} (h : Blk w g t #[v0, v1, v2]) : w.cell? ⟨g, 0, none⟩ = some v0 ∧ w.cell? ⟨g, 1, none⟩ = some v1 ∧ w.cell? ⟨g, 2, none⟩ = some v2 ∧ (∀ k, w.frozen? ⟨g, k, none⟩ = false) ∧ g < w.heap.size :=
 ⟨h.val (i := 0) rfl, h.val (i := 1) rfl, h.val (i := 2) rfl, h.free, h.size⟩
theorem bl7 {w : World} {g : Nat} {t : TypeId} {v0 v1 v2 v3 v4 v5 v6 : Value} (h : Blk w g t #[v0, v1, v2, v3, v4, v5, v6]) : w.cell? ⟨g, 0, none⟩ = some v0 ∧ w.cell? ⟨g, 1, none⟩ = some v1 ∧ w.cell? ⟨g, 2, none⟩ = some v2 ∧ w.cell? ⟨g, 3, none⟩ = some v3 ∧ w.cell? ⟨g, 4, none⟩ = some v4 ∧ w.cell? ⟨g, 5, none⟩ = some v5 ∧ w.cell? ⟨g, 6, none⟩ = some v6 ∧ (∀ k, w.frozen? ⟨g, k, none⟩ = false) ∧ g < w.heap.size :=
 ⟨h.val (i := 0) rfl, h.val (i := 1) rfl, h.val (i := 2) rfl, h.val (i := 3) rfl, h.val (i := 4) rfl, h.val (i := 5) rfl, h.val (i := 6) rfl, h.free, h.size⟩
theorem bl16 {w : World} {g : Nat} {t : TypeId} {v0 v1 v2 v3 v4 v5 v6 v7 v8 v9 v10 v11 v12 v13 v14 v15 : Value} (h : Blk w g t #[v0, v1, v2, v3, v4, v5, v6, v7, v8, v9, v10, v11, v12, v13, v14, v15]) : w.cell? ⟨g, 0, none⟩ = some v0 ∧ w.cell? ⟨g, 1, none⟩ = some v1 ∧ w.cell? ⟨g, 2, none⟩ = some v2 ∧ w.cell? ⟨g, 3, none⟩ = some v3 ∧ w.cell? ⟨g, 4, none⟩ = some v4 ∧ w.cell? ⟨g, 5, none⟩ = some v5 ∧ w.cell? ⟨g, 6, none⟩ = some v6 ∧ w.cell? ⟨g, 7, none⟩ = some v7 ∧ w.cell? ⟨g, 8, none⟩ = some v8 ∧ w.cell? ⟨g, 9, none⟩ = some v9 ∧ w.cell? ⟨g, 10, none⟩ = some v10 ∧ w.cell? ⟨g, 11, none⟩ = some v11 ∧ w.cell? ⟨g, 12, none⟩ = some v12 ∧ w.cell? ⟨g, 13, none⟩ = some v13 ∧ w.cell? ⟨g, 14, none⟩ = some v14 ∧ w.cell? ⟨g, 15, none⟩ = some v15 ∧ (∀ k, w.frozen? ⟨g, k, none⟩ = false) ∧ g < w.heap.size :=
 ⟨h.val (i := 0) rfl, h.val (i := 1) rfl, h.val (i := 2) rfl, h.val (i := 3) rfl, h.val (i := 4) rfl, h.val (i := 5) rfl, h.val (i := 6) rfl, h.val (i := 7) rfl, h.val (i := 8) rfl, h.val (i := 9) rfl, h.val (i := 10) rfl, h.val (i := 11) rfl, h.val (i := 12) rfl, h.val (i := 13) rfl, h.val (i := 14) rfl, h.val (i := 15) rfl, h.free, h.size⟩
structure Bxs (v w : World) (L : List Bx1) : Prop where
 bl : ∀ (i g : Nat) (T : TypeId) (l : List Value), L[i]? = some (g, T, l) → Blk w g T l.toArray
 lo : ∀ (i g : Nat) (T : TypeId) (l : List Value), L[i]? = some (g, T, l) → v.heap.size ≤ g
 ne : ∀ (i j g : Nat) (T : TypeId) (l : List Value) (g' : Nat) (T' : TypeId) (l' : List Value), L[i]? = some (g, T, l) → L[j]? = some (g', T', l') → i ≠ j → g ≠ g'
 be : Below v.heap.size v w
section
variable {v w w' : World} {L : List Bx1}
theorem Bxs.nil_ (w : World) : Bxs w w [] := ⟨fun i g T l h => by simp at h, fun i g T l h => by simp at h, fun i j g T l g' T' l' h => by simp at h, Below.refl _ _⟩
theorem Bxs.under {B : Nat} (h : Below B w w') (h0 : Bxs v w L) (hB : w.heap.size ≤ B) : Below v.heap.size v w' := h0.be.trans (h.mono (Nat.le_trans h0.be.size hB))
theorem Bxs.below (h : Bxs v w L) (hb : Below w.heap.size w w') : Bxs v w' L :=
 ⟨fun i g T l hi => (h.bl i g T l hi).below_ hb (h.bl i g T l hi).size, h.lo, h.ne, h.be.trans (hb.mono h.be.size)⟩
theorem Bxs.drew_ (h : Bxs v w L) : Bxs v w.drew L := ⟨h.bl, h.lo, h.ne, h.be.drew⟩
theorem Bxs.drewN_ (h : Bxs v w L) (n : Nat) : Bxs v (w.drewN n) L := ⟨h.bl, h.lo, h.ne, ⟨h.be.os, h.be.tape, h.be.output, h.be.size, h.be.block⟩⟩
theorem Bxs.alloc_ (h : Bxs v w L) (l : List Value) (T : TypeId) {g : Nat} (hg : g = w.heap.size) : Bxs v (w.alloc (.cells l.toArray T)) (L ++ [(g, T, l)]) := by
 subst hg
 have key : ∀ i e, (L ++ [((w.heap.size, T, l) : Bx1)])[i]? = some e → L[i]? = some e ∨ i = L.length ∧ e = (w.heap.size, T, l) := by
   intro i e hi
   rcases Nat.lt_trichotomy i L.length with hl | hl | hl
   · exact .inl (by rwa [List.getElem?_append_left hl] at hi)
   · subst hl; exact .inr ⟨rfl, by simpa using hi.symm⟩
   · rw [List.getElem?_append_right (Nat.le_of_lt hl)] at hi
     obtain ⟨n, hn⟩ : ∃ n, i - L.length = n + 1 := ⟨i - L.length - 1, by omega⟩
     rw [hn] at hi
     simp at hi
 refine ⟨fun i g T' l' hi => ?_, fun i g T' l' hi => ?_, fun i j g T1 l1 g' T2 l2 hi hj hne => ?_, h.be.alloc h.be.size _⟩
 · rcases key i _ hi with hi | ⟨_, hi⟩
   · exact (h.bl i _ _ _ hi).alloc_ _
   · injection hi with h1 h2; injection h2 with h2 h3; subst h1 h2 h3; exact Blk.made w _ _
 · rcases key i _ hi with hi | ⟨_, hi⟩
   · exact h.lo i _ _ _ hi
   · injection hi with h1 h2; subst h1; exact h.be.size
 · rcases key i _ hi with hi | ⟨e1, hi⟩ <;> rcases key j _ hj with hj | ⟨e2, hj⟩
   · exact h.ne i j _ _ _ _ _ _ hi hj hne
   · injection hj with h1 h2; subst h1; exact Nat.ne_of_lt (h.bl i _ _ _ hi).size
   · injection hi with h1 h2; subst h1; exact Nat.ne_of_gt (h.bl j _ _ _ hj).size
   · omega
theorem Bxs.set_ (h : Bxs v w L) (i k : Nat) {g : Nat} {T : TypeId} {l : List Value} (hi : L[i]? = some (g, T, l)) (u : Value) : Bxs v (w.setCell ⟨g, k, none⟩ u) (L.set i (g, T, l.set k u)) := by
 have key : ∀ j e, (L.set i (g, T, l.set k u))[j]? = some e → (j ≠ i ∧ L[j]? = some e) ∨ j = i ∧ e = (g, T, l.set k u) := by
   intro j e hj
   by_cases hji : j = i
   · subst hji
     rw [List.getElem?_set_self (by rw [List.getElem?_eq_some_iff] at hi; exact hi.1)] at hj
     exact .inr ⟨rfl, by simpa using hj.symm⟩
   · rw [List.getElem?_set_ne (Ne.symm hji)] at hj
     exact .inl ⟨hji, hj⟩
 refine ⟨fun j g1 T1 l1 hj => ?_, fun j g1 T1 l1 hj => ?_, fun j j' g1 T1 l1 g2 T2 l2 hj hj' hne => ?_, h.be.setCell (h.lo i _ _ _ hi) _⟩
 · rcases key j _ hj with ⟨hne, hj⟩ | ⟨_, hj⟩
   · exact (h.bl j _ _ _ hj).far _ (h.ne j i _ _ _ _ _ _ hj hi hne)
   · injection hj with h1 h2; injection h2 with h2 h3; subst h1 h2 h3
     have := (h.bl i _ _ _ hi).set_ k u
     simpa using this
 · rcases key j _ hj with ⟨_, hj⟩ | ⟨_, hj⟩
   · exact h.lo j _ _ _ hj
   · injection hj with h1 h2; subst h1; exact h.lo i _ _ _ hi
 · rcases key j _ hj with ⟨n1, k1⟩ | ⟨e1, k1⟩ <;> rcases key j' _ hj' with ⟨n2, k2⟩ | ⟨e2, k2⟩
   · exact h.ne j j' _ _ _ _ _ _ k1 k2 hne
   · injection k2 with h1 h2; rw [h1]; exact h.ne j i _ _ _ _ _ _ k1 hi n1
   · injection k1 with h1 h2; rw [h1]; exact h.ne i j' _ _ _ _ _ _ hi k2 (Ne.symm n2)
   · omega
theorem Bxs.some_ (h : Bxs v w L) (L' : List Bx1) (f : Nat → Nat) (hf : ∀ i e, L'[i]? = some e → L[f i]? = some e) (hi : ∀ i j, i < L'.length → j < L'.length → f i = f j → i = j) : Bxs v w L' :=
 ⟨fun i g T l e => h.bl (f i) _ _ _ (hf i _ e), fun i g T l e => h.lo (f i) _ _ _ (hf i _ e), fun i j g T l g' T' l' e e' hne => h.ne (f i) (f j) _ _ _ _ _ _ (hf i _ e) (hf j _ e') fun he => hne (hi i j (by rw [List.getElem?_eq_some_iff] at e; exact e.1) (by rw [List.getElem?_eq_some_iff] at e'; exact e'.1) he), h.be⟩
end
theorem wp_worldx {P : Program} {code : Code} {Q : Exit → Act → World → Prop} {a : Act} {w : World} (φ : World → Prop) (h : φ w) (k : ∀ wx, φ wx → Code.wp P code Q a wx) : Code.wp P code Q a w := k w h
end Go.Proofs.YtcffeokbipjaoaaGreat
namespace Go.Proofs.YtcffeokbipjaoaaGreat
open Go.ChangeShapes Go.WideShapes Go.RowKit
set_option linter.unusedVariables false
set_option linter.unusedSimpArgs false
section
variable {q hs sp sc sf rp ra rb hp hb : Nat} {A : Option Addr} {N n m : Nat} {V H : Nat → Int} {T : Nat → Bool} {R : Nat → Rq} {F : Nat → Nat} {L : Nat → List Nat} {ub : Int} {D : List En}
theorem tlen (w : World) (h : TqAt w q hs sp sc sf rp ra rb hp hb A N n V H T R m F L ub D) : Calls Tryz.prog 87 #[.pointer (some ⟨q, 0, none⟩)] w fun e w' => e = .returned (.int .i64 ((n : Int) - m)) ∧ Below w.heap.size w w' := by
 have q1 := h.q1
 have HS := Lib.hid h.slab
 clear h
 go_enter Tryz.func87, Tryz.ntmps87
 go_wp2_with (go_at_call 137; refine (sllen_any _ HS.out).mono ?_; rintro e w1 ⟨k, rfl, rfl⟩)
 go_ret
 exact ⟨rfl, below_drewN_ (Below.refl _ _) _⟩
theorem tcount (r : Int) (w : World) (h : TqAt w q hs sp sc sf rp ra rb hp hb A N n V H T R m F L ub D) : Calls Tryz.prog 173 #[.pointer (some ⟨q, 0, none⟩), .int .i64 r] w fun e w' => e = .returned (.int .i64 ((rowE N L r).length : Int)) ∧ w = w' := by
 have q2 := h.q2
 have HR := Lib.hid h.rows
 clear h
 go_enter Tryz.func173, Tryz.ntmps173
 go_wp2_with (go_at_call 193; refine (len_any r _ HR.out).mono ?_; rintro e w1 ⟨rfl, rfl⟩)
 go_ret
 exact ⟨rfl, rfl⟩
theorem ttier (w : World) (h : TqAt w q hs sp sc sf rp ra rb hp hb A N n V H T R m F L ub D) : Calls Tryz.prog 90 #[.pointer (some ⟨q, 0, none⟩)] w fun e w' => e = .returned (.int .i64 (N : Int)) ∧ w = w' := by
 have q0 := h.q0
 clear h
 go_enter Tryz.func90, Tryz.ntmps90
 go_wp2
 go_ret
 exact ⟨rfl, rfl⟩
theorem tget_yes (g : Int) (w : World) (h : TqAt w q hs sp sc sf rp ra rb hp hb A N n V H T R m F L ub D) (h0 : 0 ≤ g) (h1 : g ≤ 18446744073709551615) (ha : aliveB n H T g = true) {i : Nat} (hi : (g % 4294967296).toNat = i) : Calls Tryz.prog 162 #[.pointer (some ⟨q, 0, none⟩), .int .u64 g] w fun e w' => e = .returned (.tuple #[rqv (R i), .int .i64 0]) ∧ Below w.heap.size w w' := by
 have HQ := Lib.hid h
 have HA := Lib.hid ha
 have HI := Lib.hid hi
 clear h ha hi
 go_enter Tryz.func162, Tryz.ntmps162
 go_upto_region 3 with fail
 refine wp_worldx (fun wx => Bxs w wx [(w.heap.size, 107, [.int .u64 0, .int .i64 0, .int .i64 0, .int .i64 0, .int .i64 0])]) ((Bxs.nil_ w).alloc_ _ _ (by simp)) ?_
 rintro x1 bx
 have hx := HQ.out.below bx.be
 have q1 := hx.q1
 have HS := Lib.hid hx.slab
 have BX := Lib.hid bx
 clear bx hx
 go_wp2_with (go_at_call 92; refine (slget_yes _ _ HS.out h0 h1 HA.out HI.out).mono ?_; rintro e w1 ⟨he, hbw⟩; have he : e = .returned (.tuple #[.agg #[.int .u64 (R i).a, .int .i64 (R i).b, .int .i64 (R i).c, .int .i64 (R i).d, .int .i64 (R i).e], .int .i64 0]) := he; subst he; have BY := Lib.hid (BX.out.below hbw); clear hbw q1; have p0 := (BY.out.bl 0 _ _ _ rfl).val (i := 0) rfl; have p1 := (BY.out.bl 0 _ _ _ rfl).val (i := 1) rfl; have p2 := (BY.out.bl 0 _ _ _ rfl).val (i := 2) rfl; have p3 := (BY.out.bl 0 _ _ _ rfl).val (i := 3) rfl; have p4 := (BY.out.bl 0 _ _ _ rfl).val (i := 4) rfl; have z0 : ∀ k, w1.frozen? ⟨w.heap.size, k, none⟩ = false := (BY.out.bl 0 _ _ _ rfl).free; have y0 : w.heap.size < w1.heap.size := (BY.out.bl 0 _ _ _ rfl).size)
 refine bodyPost_ret (v := .tuple #[rqv (R i), .int .i64 0]) (by simp [results, Tryz.results162, go_sem, rqv, *]) rfl ⟨rfl, ?_⟩
 repeat (first | with_reducible exact BY.out.be | refine Below.setCell ?_ (by simp) _)
theorem thand_no (p : Value) (i : Int) (w : World) : Calls Tryz.prog 209 #[p, .int .i64 i, .bool false] w fun e w' => e = .returned (.tuple #[.int .u64 0, .bool false]) ∧ w = w' := by
 go_enter Tryz.func209, Tryz.ntmps209
 go_wp2
 go_ret2
 exact ⟨rfl, rfl⟩
theorem thand_yes {i : Nat} (hi : i < n) (w : World) (h : TqAt w q hs sp sc sf rp ra rb hp hb A N n V H T R m F L ub D) : Calls Tryz.prog 209 #[.pointer (some ⟨q, 0, none⟩), .int .i64 (i : Int), .bool true] w fun e w' => e = .returned (.tuple #[.int .u64 (V i), .bool true]) ∧ w = w' := by
 have q4 := h.q4
 have h0 := h.h0 hi
 have n0 := h.slab.n0
 clear h
 go_enter Tryz.func209, Tryz.ntmps209
 go_wp2
 go_ret2
 exact ⟨rfl, rfl⟩
theorem rowE_lt {w : World} (h : TqAt w q hs sp sc sf rp ra rb hp hb A N n V H T R m F L ub D) (r : Int) : ∀ x ∈ rowE N L r, x < n := by
 intro x hx
 unfold rowE at hx
 by_cases hr : r < 0 ∨ (N : Int) ≤ r
 · rw [if_pos hr] at hx; cases hx
 · rw [if_neg hr] at hx; exact h.rows.lists.lt _ (by omega) x hx
theorem laE_lt {w : World} (h : TqAt w q hs sp sc sf rp ra rb hp hb A N n V H T R m F L ub D) (r : Int) (hn : neE (rowE N L r) = true) : laE (rowE N L r) < n := by
 have h2 := rowE_lt h r
 revert h2 hn
 generalize rowE N L r = l
 intro hn h2
 have h0 : 0 < l.length := by cases l with
   | nil => cases hn
   | cons x l => simp
 rw [laE_eq h0]
 exact h2 _ (List.getElem_mem _)
theorem ttail (r : Int) (w : World) (h : TqAt w q hs sp sc sf rp ra rb hp hb A N n V H T R m F L ub D) : Calls Tryz.prog 169 #[.pointer (some ⟨q, 0, none⟩), .int .i64 r] w fun e w' => e = .returned (.tuple #[.int .u64 (if neE (rowE N L r) = true then V (laE (rowE N L r)) else 0), .bool (neE (rowE N L r))]) ∧ w = w' := by
 have q2 := h.q2
 have HQ := Lib.hid h
 have hl := laE_lt h r
 cases hn : neE (rowE N L r) with
 | false =>
   have HN := Lib.hid hn
   clear h hn hl
   go_enter Tryz.func169, Tryz.ntmps169
   go_wp2_with (first
     | (go_at_call 210; refine (back_any r _ HQ.out.rows).mono ?_; rintro e w1 ⟨rfl, rfl⟩; rw [HN.out])
     | (go_at_call 209; refine (thand_no _ _ _).mono ?_; rintro e w1 ⟨rfl, rfl⟩))
   go_ret2
   exact ⟨rfl, rfl⟩
 | true =>
   have HN := Lib.hid hn
   have HL := Lib.hid (hl hn)
   clear h hn hl
   go_enter Tryz.func169, Tryz.ntmps169
   go_wp2_with (first
     | (go_at_call 210; refine (back_any r _ HQ.out.rows).mono ?_; rintro e w1 ⟨rfl, rfl⟩; rw [HN.out])
     | (go_at_call 209; refine (thand_yes HL.out _ HQ.out).mono ?_; rintro e w1 ⟨rfl, rfl⟩))
   go_ret2
   exact ⟨by simp, rfl⟩
end
end Go.Proofs.YtcffeokbipjaoaaGreat
namespace Go.Proofs.YtcffeokbipjaoaaGreat
open Go.ChangeShapes Go.WideShapes Go.RowKit
set_option linter.unusedVariables false
set_option linter.unusedSimpArgs false
def tOwn (hs sp sc sf ra rb hp hb : Nat) (A : Option Addr) : Nat → Prop := fun g => g = hs ∨ (g = sp ∨ g = sc ∨ g = sf) ∨ (g = ra ∨ g = rb) ∨ hOwnP hp hb A g
section
variable {q hs sp sc sf rp ra rb hp hb : Nat} {A : Option Addr} {N n m : Nat} {V H : Nat → Int} {T : Nat → Bool} {R : Nat → Rq} {F : Nat → Nat} {L : Nat → List Nat} {ub : Int} {D : List En}
abbrev rqL (a b c d e : Int) : Array Value := #[.int .u64 a, .int .i64 b, .int .i64 c, .int .i64 d, .int .i64 e]
section
variable {w x y : World} {B : Nat} {cs : Array Value} {m' : Nat} {H' : Nat → Int} {T' : Nat → Bool} {R' : Nat → Rq} {F' : Nat → Nat} {L' : Nat → List Nat} {ub' : Int} {D' : List En} {A' A0 : Option Addr}
structure Mid (w x : World) (B : Nat) (cs : Array Value) (q hs sp sc sf rp ra rb hp hb : Nat) (A0 A : Option Addr) (N n : Nat) (V H : Nat → Int) (T : Nat → Bool) (R : Nat → Rq) (m : Nat) (F : Nat → Nat) (L : Nat → List Nat) (ub : Int) (D : List En) : Prop where
 tq : TqAt x q hs sp sc sf rp ra rb hp hb A N n V H T R m F L ub D
 bk : Blk x B 107 cs
 kp : Kept (tOwn hs sp sc sf ra rb hp hb A0) w x
theorem Mid.quiet (h : Mid w x B cs q hs sp sc sf rp ra rb hp hb A0 A N n V H T R m F L ub D) (hb' : Below x.heap.size x y) : Mid w y B cs q hs sp sc sf rp ra rb hp hb A0 A N n V H T R m F L ub D :=
 ⟨h.tq.below hb', h.bk.below_ hb' h.bk.size, h.kp.trans (Kept.of_below hb')⟩
theorem Mid.drewN_ (h : Mid w x B cs q hs sp sc sf rp ra rb hp hb A0 A N n V H T R m F L ub D) (j : Nat) : Mid w (x.drewN j) B cs q hs sp sc sf rp ra rb hp hb A0 A N n V H T R m F L ub D := h.quiet (below_drewN_ (Below.refl _ _) j)
theorem Mid.drew_ (h : Mid w x B cs q hs sp sc sf rp ra rb hp hb A0 A N n V H T R m F L ub D) : Mid w x.drew B cs q hs sp sc sf rp ra rb hp hb A0 A N n V H T R m F L ub D := h.quiet (Below.drew (Below.refl _ _))
theorem Mid.took (h : Mid w x B cs q hs sp sc sf rp ra rb hp hb A0 A N n V H T R m F L ub D) (hk : Kept (fun g => g = sp ∨ g = sc ∨ g = sf) x y) (hn : SlabAt y sp sc sf n H' T' R' m' F') : Mid w y B cs q hs sp sc sf rp ra rb hp hb A0 A N n V H' T' R' m' F' L ub D :=
 ⟨h.tq.slabbed hk hn, h.bk.kept hk (h.tq.slab.apart h.bk (by decide) (by decide) (by decide)), h.kp.trans (hk.more fun g _ hg => .inr (.inl hg))⟩
theorem Mid.rowed (h : Mid w x B cs q hs sp sc sf rp ra rb hp hb A0 A N n V H T R m F L ub D) (hk : Kept (fun g => g = ra ∨ g = rb) x y) (hn : RowsL y rp ra rb N n L' ub') : Mid w y B cs q hs sp sc sf rp ra rb hp hb A0 A N n V H T R m F L' ub' D :=
 ⟨h.tq.rowed hk hn, h.bk.kept hk (h.tq.rows.apart h.bk (by decide) (by decide)), h.kp.trans (hk.more fun g _ hg => .inr (.inr (.inl hg)))⟩
theorem Mid.heaped (h : Mid w x B cs q hs sp sc sf rp ra rb hp hb A A N n V H T R m F L ub D) (hk : Kept (hOwnP hp hb A) x y) (hn : HeapB y hp hb n A' D') : Mid w y B cs q hs sp sc sf rp ra rb hp hb A A' N n V H T R m F L ub D' := by
 obtain ⟨_, ⟨c4, t4⟩, _⟩ := h.tq.heap.types
 exact ⟨h.tq.heaped hk hn, h.bk.kept hk (h.tq.heap.apart h.bk (by decide) (by decide) (h.bk.other t4 (by decide))), h.kp.trans (hk.more fun g _ hg => .inr (.inr (.inr hg)))⟩
theorem Mid.handed (h : Mid w x B cs q hs sp sc sf rp ra rb hp hb A0 A N n V H T R m F L ub D) {i : Nat} (hi : i < n) (v : Int) : Mid w (x.setCell ⟨hs, i, none⟩ (.int .u64 v)) B cs q hs sp sc sf rp ra rb hp hb A0 A N n (fun j => if j = i then v else V j) H T R m F L ub D := by
 obtain ⟨cs1, bc, _⟩ := h.tq.hand
 exact ⟨h.tq.handed hi v, h.bk.far _ (h.bk.other bc (by decide)), h.kp.set_ (.inl (.inl rfl)) _⟩
end
theorem rq_in (a b c d e : Int) (w : World) (h : TqAt w q hs sp sc sf rp ra rb hp hb A N n V H T R m F L ub D) : Mid w (w.alloc (.cells (rqL a b c d e) 107)) w.heap.size (rqL a b c d e) q hs sp sc sf rp ra rb hp hb A A N n V H T R m F L ub D :=
 ⟨h.below ((Below.refl _ _).alloc (Nat.le_refl _) _), Blk.made _ _ _, (Kept.refl _ _).alloc_ _⟩
set_option maxHeartbeats 4000000 in
set_option maxRecDepth 100000 in
theorem tput_yes (a b k d e : Int) (w : World) (h : TqAt w q hs sp sc sf rp ra rb hp hb A N n V H T R (m + 1) F L ub D) {i : Nat} (hi : F m = i) (hF : i < n) (h0 : 0 ≤ H i) (h1 : H i + 4294967296 ≤ 18446744073709551615) (hc : (H i + 4294967296) % 4294967296 = (i : Int))
   (b0 : 0 ≤ b) (b1 : b < (N : Int)) (hR : inB N L i = false) (hD : hasE (i : Int) D = false) (hu : ub ≤ 1000000) :
   Calls Tryz.prog 123 #[.pointer (some ⟨q, 0, none⟩), .agg #[.int .u64 a, .int .i64 b, .int .i64 k, .int .i64 d, .int .i64 e]] w fun x w' => x = .returned (.tuple #[.int .u64 (H i + 4294967296), .int .i64 0]) ∧
     ∃ A', TqAt w' q hs sp sc sf rp ra rb hp hb A' N n (fun j => if j = i then H i + 4294967296 else V j) (fun j => if j = i then H i + 4294967296 else H j) (fun j => if j = i then true else T j) (fun j => if j = i then ⟨a, b, k, d, e⟩ else R j) m F (pushQ N n L b i) (ub + 1) (insE ⟨d, a, i⟩ D) ∧ Kept (tOwn hs sp sc sf ra rb hp hb A) w w' ∧ ∀ x, A' = some x → (∃ y, A = some y ∧ y.block = x.block) ∨ w.heap.size ≤ x.block := by
 have n0 := h.slab.n0
 have hq := h.sizes
 have HQ := Lib.hid h
 have HI := Lib.hid hi
 have HC := Lib.hid hc
 have HR := Lib.hid hR
 have HD := Lib.hid hD
 clear h hi hc hR hD
 go_enter Tryz.func123, Tryz.ntmps123
 go_upto_region 3 with fail
 refine wp_worldx (fun wx => Mid w wx w.heap.size (rqL a b k d e) q hs sp sc sf rp ra rb hp hb A A N n V H T R (m + 1) F L ub D) (rq_in a b k d e w HQ.out) ?_
 rintro x1 hx
 have e1 : decide (b < 0) = false := by simp; omega
 have e2 : decide ((N : Int) ≤ b) = false := by simp; omega
 have q0 := hx.tq.q0
 have p1 := hx.bk.val (i := 1) rfl
 have zb := hx.bk.size
 have HX := Lib.hid hx
 clear hx
 go_quiet (fail)
 go_upto_region 5 with fail
 refine wp_worldx (fun wx => Mid w wx w.heap.size (rqL a b k d e) q hs sp sc sf rp ra rb hp hb A A N n V H T R (m + 1) F L ub D) (HX.out.drewN_ _) ?_
 clear HX q0 p1 e1 e2 zb
 rintro x2 hx
 have q1 := hx.tq.q1
 have p0 := hx.bk.val (i := 0) rfl
 have p1 := hx.bk.val (i := 1) rfl
 have p2 := hx.bk.val (i := 2) rfl
 have p3 := hx.bk.val (i := 3) rfl
 have p4 := hx.bk.val (i := 4) rfl
 have zb := hx.bk.size
 have HX := Lib.hid hx
 clear hx
 go_cut [6, 7] (fun s6 s7 wx => s6 = .int .u64 (H i + 4294967296) ∧ s7 = .int .i64 0 ∧ Mid w wx w.heap.size (rqL a b k d e) q hs sp sc sf rp ra rb hp hb A A N n V (fun j => if j = i then H i + 4294967296 else H j) (fun j => if j = i then true else T j) (fun j => if j = i then ⟨a, b, k, d, e⟩ else R j) m F L ub D)
 case first =>
   go_region_with (go_at_call 170; refine (sltake_any a b k d e _ (Mid.tq (by first | exact HX.out | exact HX.out.drew_ | exact HX.out.drewN_ _)).slab HI.out hF h0 h1).mono ?_; rintro x wn ⟨rfl, hsl, hkn⟩)
   all_goals (go_wp2_with fail; go_meet; exact ⟨rfl, rfl, (show Mid w _ w.heap.size (rqL a b k d e) q hs sp sc sf rp ra rb hp hb A A N n V H T R (m + 1) F L ub D from (by first | exact HX.out | exact HX.out.drew_ | exact HX.out.drewN_ _)).took hkn hsl⟩)
 case rest =>
   clear HX q1 p0 p1 p2 p3 p4 zb
   obtain ⟨rfl, rfl, hx⟩ := hcut
   go_upto_region 8 with fail
   have v4 := hx.tq.h0 hF
   have z4 := hx.tq.zh i
   have q4 := hx.tq.q4
   have zb := hx.bk.size
   have HX := Lib.hid hx
   clear hx
   go_cut [] (fun wx => Mid w wx w.heap.size (rqL a b k d e) q hs sp sc sf rp ra rb hp hb A A N n (fun j => if j = i then H i + 4294967296 else V j) (fun j => if j = i then H i + 4294967296 else H j) (fun j => if j = i then true else T j) (fun j => if j = i then ⟨a, b, k, d, e⟩ else R j) m F L ub D)
   case first =>
     go_region_with (go_at_call 166; refine (slcell_any _ _ (by omega) (by omega)).mono ?_; rintro x wn ⟨rfl, rfl⟩; rw [HC.out])
     all_goals (go_wp2_with fail; go_meet; first | exact (show Mid w _ w.heap.size (rqL a b k d e) q hs sp sc sf rp ra rb hp hb A A N n V (fun j => if j = i then H i + 4294967296 else H j) (fun j => if j = i then true else T j) (fun j => if j = i then ⟨a, b, k, d, e⟩ else R j) m F L ub D from (by first | exact HX.out | exact HX.out.drew_ | exact HX.out.drewN_ _)).handed hF _ | exact (Mid.handed HX.out hF (H i + 4294967296)).drew_)
   case rest =>
     clear HX q4 v4 z4 zb
     have hx := hcut
     clear hcut
     go_upto_region 9 with fail
     have q2 := hx.tq.q2
     have p1 := hx.bk.val (i := 1) rfl
     have zb := hx.bk.size
     have HX := Lib.hid hx
     clear hx
     go_cut [] (fun wx => Mid w wx w.heap.size (rqL a b k d e) q hs sp sc sf rp ra rb hp hb A A N n (fun j => if j = i then H i + 4294967296 else V j) (fun j => if j = i then H i + 4294967296 else H j) (fun j => if j = i then true else T j) (fun j => if j = i then ⟨a, b, k, d, e⟩ else R j) m F (pushQ N n L b i) (ub + 1) D)
     case first =>
       go_region_with (first | (go_at_call 166; refine (slcell_any _ _ (by omega) (by omega)).mono ?_; rintro x wn ⟨rfl, rfl⟩; rw [HC.out]) | (go_at_call 171; refine (push_any b i _ (Mid.tq (by first | exact HX.out | exact HX.out.drew_ | exact HX.out.drewN_ _)).rows n0 hu).mono ?_; rintro x wn ⟨rfl, hsl, hkn⟩))
       all_goals (go_wp2_with fail; go_meet; exact (show Mid w _ w.heap.size (rqL a b k d e) q hs sp sc sf rp ra rb hp hb A A N n (fun j => if j = i then H i + 4294967296 else V j) (fun j => if j = i then H i + 4294967296 else H j) (fun j => if j = i then true else T j) (fun j => if j = i then ⟨a, b, k, d, e⟩ else R j) m F L ub D from (by first | exact HX.out | exact HX.out.drew_ | exact HX.out.drewN_ _)).rowed hkn hsl)
     case rest =>
       clear HX q2 p1 zb
       have hx := hcut
       clear hcut
       go_upto_region 10 with fail
       have q3 := hx.tq.q3
       have p0 := hx.bk.val (i := 0) rfl
       have p3 := hx.bk.val (i := 3) rfl
       have zb := hx.bk.size
       have HX := Lib.hid hx
       clear hx
       go_cut [] (fun wx => ∃ A', Mid w wx w.heap.size (rqL a b k d e) q hs sp sc sf rp ra rb hp hb A A' N n (fun j => if j = i then H i + 4294967296 else V j) (fun j => if j = i then H i + 4294967296 else H j) (fun j => if j = i then true else T j) (fun j => if j = i then ⟨a, b, k, d, e⟩ else R j) m F (pushQ N n L b i) (ub + 1) (insE ⟨d, a, i⟩ D) ∧ ∀ x, A' = some x → (∃ y, A = some y ∧ y.block = x.block) ∨ w.heap.size ≤ x.block)
       case first =>
         go_region_with (first | (go_at_call 166; refine (slcell_any _ _ (by omega) (by omega)).mono ?_; rintro x wn ⟨rfl, rfl⟩; rw [HC.out]) | (go_at_call 172; refine (bput_new d a hF HD.out _ (Mid.tq (by first | exact HX.out | exact HX.out.drew_ | exact HX.out.drewN_ _)).heap).mono ?_; rintro x wn ⟨rfl, A', hsl, hkn, hal⟩))
         all_goals (go_wp2_with fail; go_meet; exact ⟨_, (show Mid w _ w.heap.size (rqL a b k d e) q hs sp sc sf rp ra rb hp hb A A N n (fun j => if j = i then H i + 4294967296 else V j) (fun j => if j = i then H i + 4294967296 else H j) (fun j => if j = i then true else T j) (fun j => if j = i then ⟨a, b, k, d, e⟩ else R j) m F (pushQ N n L b i) (ub + 1) D from (by first | exact HX.out | exact HX.out.drew_ | exact HX.out.drewN_ _)).heaped hkn hsl, fun x hx => (hal x hx).imp id (fun c => Nat.le_trans HX.out.kp.size (by simpa using c))⟩)
       case rest =>
         clear HX q3 p0 p3 zb
         obtain ⟨A', hx, hal⟩ := hcut
         have HAL := Lib.hid hal
         clear hal
         have HX := Lib.hid hx
         clear hx
         clear HQ HI HC HR HD
         go_upto_region 11 with fail
         go_wp2_with fail
         go_ret2
         exact ⟨rfl, A', HX.out.tq, HX.out.kp, HAL.out⟩
end
end Go.Proofs.YtcffeokbipjaoaaGreat
