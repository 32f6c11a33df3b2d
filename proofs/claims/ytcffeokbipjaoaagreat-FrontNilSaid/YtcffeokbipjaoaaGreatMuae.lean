/- Texts of this claim, one behind the other: Deqd All Blkb Dout Dall Seq Row. -/
import Derived.RangeFuncNested
import Derived.RangeFuncBound
import Derived.RangeFuncCalls
import Derived.RangeFuncLeaves
import Derived.RangeFuncBox
import Derived.RangeFuncWrites
import Derived.Shelf.Abstract
import Derived.Shelf.RegionOpen
import Derived.WalkKit
import Derived.OwnWalkIn
import Derived.TacticsInMore
import Derived.LoopNIn
import Derived.LoopIn
import Derived.Maps.AppendAt
import Derived.Sort.LoopGhostIn
import Derived.Sort.QuietIn
import Derived.Test.YtcffeokbipjaoaaGreatProg
import Derived.IntWalk
import Derived.Lib.Hide
import Derived.BigRegion
import Derived.Deep.Slices
import Derived.Deep.Fields
import Derived.ChangeSame
import Derived.ChangeArms
import Derived.Below
import Derived.DataShut
import Derived.ProofKit
import Derived.OpenShut
import Derived.Test.YtcffeokbipjaoaaGreatMuaa
import Derived.Test.YtcffeokbipjaoaaGreatMuad
namespace Go.Proofs.YtcffeokbipjaoaaGreat
open Go.RowKit
set_option linter.unusedVariables false
def RowsAt (w : World) (p a b R M : Nat) (n : Nat → Nat) (A : Nat → Nat → Nat) (ub : Int) : Prop :=
 ∃ E0 E1 C W B0 B1 U : Nat → Int, DeqAt w p a b R M E0 E1 C W B0 B1 U ∧ Rep R M n A E0 E1 C W B0 B1 ∧ ∀ i, 0 ≤ U i ∧ U i ≤ ub
section
variable {p a b R M : Nat} {n : Nat → Nat} {A : Nat → Nat → Nat} {ub : Int}
theorem RowsAt.kept {w w' : World} {own : Nat → Prop} (h : RowsAt w p a b R M n A ub) (hk : Kept own w w') (op : ¬ own p) (oa : ¬ own a) (ob : ¬ own b) : RowsAt w' p a b R M n A ub := by
 obtain ⟨E0, E1, C, W, B0, B1, U, h1, h2, h3⟩ := h
 exact ⟨E0, E1, C, W, B0, B1, U, h1.kept hk op oa ob, h2, h3⟩
theorem RowsAt.lts {w : World} (h : RowsAt w p a b R M n A ub) : p < w.heap.size ∧ a < w.heap.size ∧ b < w.heap.size := by
 obtain ⟨E0, E1, C, W, B0, B1, U, h1, h2, h3⟩ := h
 exact h1.lts
theorem RowsAt.below {w w' : World} {B : Nat} (h : RowsAt w p a b R M n A ub) (hb : Below B w w') (hp : p < B) (ha : a < B) (hbb : b < B) : RowsAt w' p a b R M n A ub := by
 obtain ⟨E0, E1, C, W, B0, B1, U, h1, h2, h3⟩ := h
 exact ⟨E0, E1, C, W, B0, B1, U, h1.below hb hp ha hbb, h2, h3⟩
theorem RowsAt.apart {w : World} {g : Nat} {t : TypeId} {cs : Array Value} (h : RowsAt w p a b R M n A ub) (hb : Blk w g t cs) (h1 : t ≠ 213) (h2 : t ≠ 216) (h3 : t ≠ 218) : ¬ (g = p ∨ g = a ∨ g = b) := by
 obtain ⟨E0, E1, C, W, B0, B1, U, hd, _, _⟩ := h
 obtain ⟨cs, bc, _, _⟩ := hd.rows
 obtain ⟨fs, bf, _, _⟩ := hd.mems
 rintro (e | e | e)
 · exact hb.other hd.head h1 e
 · exact hb.other bc h2 e
 · exact hb.other bf h3 e
theorem rows_push {r i : Nat} (w : World) (h : RowsAt w p a b R M n A ub) (hr : r < R) (hi : i < M) (hnew : ∀ r', r' < R → ∀ k, k < n r' → A r' k ≠ i) (hub : ub ≤ 9223372036854775807) (hn : n r ≤ 1000000) :
   Calls Tryz.prog 171 #[.pointer (some ⟨p, 0, none⟩), .int .i64 (r : Int), .int .i64 (i : Int)] w fun e w' => e = .returned (.int .i64 0) ∧
     RowsAt w' p a b R M (fun j => if j = r then n r + 1 else n j) (fun j k => if j = r ∧ k = n r then i else A j k) (ub + 1) ∧ Kept (fun g => g = a ∨ g = b) w w' := by
 obtain ⟨E0, E1, C, W, B0, B1, U, h1, h2, h3⟩ := h
 have hW : W i = -1 := by
   rcases h2.out i hi with c | ⟨r', k, c1, c2, c3, _⟩
   · exact c
   · exact absurd c3 (hnew r' c1 k c2)
 have hC := h2.cnt r hr
 have hU := h3 i
 have hE := h2.last r hr
 have hU' : ∀ j, 0 ≤ (if j = i then U i + 1 else U j) ∧ (if j = i then U i + 1 else U j) ≤ ub + 1 := fun j => by
   have := h3 j
   by_cases e : j = i
   · rw [if_pos e]; omega
   · rw [if_neg e]; omega
 by_cases hz : n r = 0
 · have hl : E1 r = -1 := by rw [hE]; unfold pv; rw [if_pos hz]
   refine (push_none hr hi hW hl hU.1 (by omega) (by omega) (by omega) w h1).mono fun e w' ⟨he, hd, hk⟩ => ⟨he, ⟨_, _, _, _, _, _, _, hd, h2.push hr hi hW ?_ ?_ ?_ ?_ ?_ ?_, hU'⟩, hk⟩
   · intro j hj; simp [hz]
   · intro j hj; rfl
   · intro j hj; by_cases e : j = r <;> simp [e]
   · intro j; rfl
   · intro j; rw [hl]
   · intro j
     by_cases e : j = i
     · simp [e]
     · rw [hl]
       have : ¬ (j : Int) = -1 := by omega
       simp [e, this]
 · have hl : E1 r = (A r (n r - 1) : Int) := by rw [hE]; unfold pv; rw [if_neg hz]
   have hm := h2.mem r hr (n r - 1) (by omega)
   have hx := hnew r hr (n r - 1) (by omega)
   refine (push_some hr hi hW hm.1 hx hl hU.1 (by omega) (by omega) (by omega) w h1).mono fun e w' ⟨he, hd, hk⟩ => ⟨he, ⟨_, _, _, _, _, _, _, hd, h2.push hr hi hW ?_ ?_ ?_ ?_ ?_ ?_, hU'⟩, hk⟩
   · intro j hj; simp [hz]
   · intro j hj; rfl
   · intro j hj; by_cases e : j = r <;> simp [e]
   · intro j; rfl
   · intro j; rw [hl]
   · intro j
     rw [hl]
     by_cases e : j = i
     · simp [e]
     · by_cases e2 : j = A r (n r - 1)
       · simp [e2]
       · have : ¬ (j : Int) = (A r (n r - 1) : Int) := by omega
         simp [e, e2, this]
theorem rows_busy {r r' k i : Nat} (w : World) (h : RowsAt w p a b R M n A ub) (hr : r < R) (hi : i < M) (hr' : r' < R) (hk : k < n r') (he : A r' k = i) :
   Calls Tryz.prog 171 #[.pointer (some ⟨p, 0, none⟩), .int .i64 (r : Int), .int .i64 (i : Int)] w fun e w' => e = .returned (.int .i64 10) ∧ w = w' := by
 obtain ⟨E0, E1, C, W, B0, B1, U, h1, h2, h3⟩ := h
 have hW := (h2.mem r' hr' k hk).2.1
 rw [he] at hW
 exact push_busy hr hi hW w h1
theorem rows_rem {r k : Nat} (w : World) (h : RowsAt w p a b R M n A ub) (hr : r < R) (hk : k < n r) (hn : n r ≤ 1000000) {i : Nat} (hi : A r k = i) :
   Calls Tryz.prog 165 #[.pointer (some ⟨p, 0, none⟩), .int .i64 (i : Int)] w fun e w' => e = .returned (.int .i64 0) ∧
     RowsAt w' p a b R M (fun j => if j = r then n r - 1 else n j) (fun j x => if j = r ∧ k ≤ x then A r (x + 1) else A j x) ub ∧ Kept (fun g => g = a ∨ g = b) w w' := by
 subst hi
 obtain ⟨E0, E1, C, W, B0, B1, U, h1, h2, h3⟩ := h
 have hm := h2.mem r hr k hk
 have hC := h2.cnt r hr
 by_cases e0 : k = 0
 · have b0 : pv (A r) k = -1 := by unfold pv; rw [if_pos e0]
   by_cases e1 : k + 1 < n r
   · have b1 : nx (A r) (n r) k = (A r (k + 1) : Int) := by unfold nx; rw [if_pos e1]
     have hy := h2.mem r hr (k + 1) e1
     refine (rem_nm hr hm.1 hm.2.1 hy.1 (hm.2.2.1.trans b0) (hm.2.2.2.trans b1) (by omega) (by omega) w h1).mono fun e w' ⟨he, hd, hk'⟩ => ⟨he, ⟨_, _, _, _, _, _, _, hd, h2.remove hr hk ?_ ?_ ?_ ?_ ?_ ?_, h3⟩, hk'⟩
     · intro j hj; rw [b1]; by_cases e : j = r <;> simp [e, e0]
     · intro j hj; simp [show ¬ (k + 1 = n r) by omega]
     · intro j hj; by_cases e : j = r <;> simp [e]
     · intro j; rfl
     · intro j; rw [b0, b1]; by_cases e : j = A r (k + 1)
       · simp [e]
       · have : ¬ (j : Int) = (A r (k + 1) : Int) := by omega
         simp [e, this]
     · intro j; rw [b0, if_neg (by omega)]
   · have b1 : nx (A r) (n r) k = -1 := by unfold nx; rw [if_neg e1]
     refine (rem_nn hr hm.1 hm.2.1 (hm.2.2.1.trans b0) (hm.2.2.2.trans b1) (by omega) (by omega) w h1).mono fun e w' ⟨he, hd, hk'⟩ => ⟨he, ⟨_, _, _, _, _, _, _, hd, h2.remove hr hk ?_ ?_ ?_ ?_ ?_ ?_, h3⟩, hk'⟩
     · intro j hj; rw [b1]; simp [e0]
     · intro j hj; rw [b0]; simp [show k + 1 = n r by omega]
     · intro j hj; by_cases e : j = r <;> simp [e]
     · intro j; rfl
     · intro j; rw [b1, if_neg (by omega)]
     · intro j; rw [b0, if_neg (by omega)]
 · have b0 : pv (A r) k = (A r (k - 1) : Int) := by unfold pv; rw [if_neg e0]
   have hx := h2.mem r hr (k - 1) (by omega)
   by_cases e1 : k + 1 < n r
   · have b1 : nx (A r) (n r) k = (A r (k + 1) : Int) := by unfold nx; rw [if_pos e1]
     have hy := h2.mem r hr (k + 1) e1
     refine (rem_mm hr hm.1 hm.2.1 hx.1 hy.1 (hm.2.2.1.trans b0) (hm.2.2.2.trans b1) (by omega) (by omega) w h1).mono fun e w' ⟨he, hd, hk'⟩ => ⟨he, ⟨_, _, _, _, _, _, _, hd, h2.remove hr hk ?_ ?_ ?_ ?_ ?_ ?_, h3⟩, hk'⟩
     · intro j hj; simp [e0]
     · intro j hj; simp [show ¬ (k + 1 = n r) by omega]
     · intro j hj; by_cases e : j = r <;> simp [e]
     · intro j; rfl
     · intro j; rw [b0, b1]; by_cases e : j = A r (k + 1)
       · simp [e]
       · have : ¬ (j : Int) = (A r (k + 1) : Int) := by omega
         simp [e, this]
     · intro j; rw [b0, b1]; by_cases e : j = A r (k - 1)
       · simp [e]
       · have : ¬ (j : Int) = (A r (k - 1) : Int) := by omega
         simp [e, this]
   · have b1 : nx (A r) (n r) k = -1 := by unfold nx; rw [if_neg e1]
     refine (rem_mn hr hm.1 hm.2.1 hx.1 (hm.2.2.1.trans b0) (hm.2.2.2.trans b1) (by omega) (by omega) w h1).mono fun e w' ⟨he, hd, hk'⟩ => ⟨he, ⟨_, _, _, _, _, _, _, hd, h2.remove hr hk ?_ ?_ ?_ ?_ ?_ ?_, h3⟩, hk'⟩
     · intro j hj; simp [e0]
     · intro j hj; rw [b0]; simp [show k + 1 = n r by omega]
     · intro j hj; by_cases e : j = r <;> simp [e]
     · intro j; rfl
     · intro j; rw [b1, if_neg (by omega)]
     · intro j; rw [b0, b1]; by_cases e : j = A r (k - 1)
       · simp [e]
       · have : ¬ (j : Int) = (A r (k - 1) : Int) := by omega
         simp [e, this]
theorem rows_back {r : Nat} (w : World) (h : RowsAt w p a b R M n A ub) (hr : r < R) (hn : 0 < n r) :
   Calls Tryz.prog 210 #[.pointer (some ⟨p, 0, none⟩), .int .i64 (r : Int)] w fun e w' => e = .returned (.tuple #[.int .i64 (A r (n r - 1) : Int), .bool true]) ∧ w = w' := by
 obtain ⟨E0, E1, C, W, B0, B1, U, h1, h2, h3⟩ := h
 have hC := h2.cnt r hr
 have hF := h2.last r hr
 unfold pv at hF
 rw [if_neg (by omega)] at hF
 rw [← hF]
 exact dback_any hr (by omega) w h1
theorem rows_len {r : Nat} (w : World) (h : RowsAt w p a b R M n A ub) (hr : r < R) :
   Calls Tryz.prog 193 #[.pointer (some ⟨p, 0, none⟩), .int .i64 (r : Int)] w fun e w' => e = .returned (.int .i64 (n r : Int)) ∧ w = w' := by
 obtain ⟨E0, E1, C, W, B0, B1, U, h1, h2, h3⟩ := h
 rw [← h2.cnt r hr]
 exact dlen_yes hr w h1
end
end Go.Proofs.YtcffeokbipjaoaaGreat
namespace Go.Proofs.YtcffeokbipjaoaaGreat
open Go.RowKit Go.Shelf
set_option linter.unusedVariables false
attribute [local go_sem] Oper.semAt_some
abbrev encN (x : Nat) : Array Value := #[.int .i64 (x : Int)]
abbrev allv (k : Nat) : Array Value := #[.pointer (some ⟨k, 0, none⟩), .pointer (some ⟨k + 1, 0, none⟩), .pointer (some ⟨k + 1 + 1, 0, none⟩), .pointer (some ⟨k + 1 + 1 + 1, 0, none⟩)]
def Same (S : Nat → Prop) (W W' : World) : Prop := ∀ g, S g → W'.heap[g]? = W.heap[g]?
theorem Same.refl (S : Nat → Prop) (W : World) : Same S W W := fun _ _ => rfl
theorem Same.trans {S : Nat → Prop} {A B C : World} (h : Same S A B) (k : Same S B C) : Same S A C := fun g hg => (k g hg).trans (h g hg)
theorem Same.below {S : Nat → Prop} {B : Nat} {W W' : World} (h : Below B W W') (hS : ∀ g, S g → g < B) : Same S W W' := fun g hg => h.block g (hS g hg)
theorem Same.cell {S : Nat → Prop} {W W' : World} (h : Same S W W') {a : Addr} {v : Value} (hc : W.cell? a = some v) (hS : S a.block) : W'.cell? a = some v := by
 unfold World.cell? at hc ⊢
 rw [h _ hS]; exact hc
theorem Same.blk {S : Nat → Prop} {W W' : World} (h : Same S W W') {g : Nat} {t : TypeId} {cs : Array Value} (hc : Blk W g t cs) (hS : S g) : Blk W' g t cs := (h g hS).trans hc
theorem same_put {S : Nat → Prop} {w : World} (hS : ∀ g, S g → g < w.heap.size) (W : World) (l : Nat) (o o' : Obj) (hl : w.heap.size ≤ l) (_ : W.heap[l]? = some o) (_ : o.isCells = false) (_ : o.isWalk = false) : Same S W (W.putObj l o') :=
 fun g hg => World.putObj_heap_other (by have := hS g hg; omega)
theorem Same.set {S : Nat → Prop} {W W' : World} (h : Same S W W') {a : Addr} (hS : ¬ S a.block) (v : Value) : Same S W (W'.setCell a v) :=
 fun g hg => (Below.heap_setCell _ _ _ _ (fun e => hS (e ▸ hg))).trans (h g hg)
def Its (p a b k g : Nat) : Prop := g = p ∨ g = a ∨ g = b ∨ g = k ∨ g = k + 1 ∨ g = k + 1 + 1 ∨ g = k + 1 + 1 + 1
structure AllAt (W : World) (k : Nat) (o : Option Addr) (r f t : Int) : Prop where
 c0 : W.cell? ⟨k, 0, none⟩ = some (.pointer o)
 c1 : W.cell? ⟨k + 1, 0, none⟩ = some (.int .i64 r)
 c2 : W.cell? ⟨k + 1 + 1, 0, none⟩ = some (.int .i64 f)
 c3 : W.cell? ⟨k + 1 + 1 + 1, 0, none⟩ = some (.int .i64 t)
theorem AllAt.same {W W' : World} {k : Nat} {S : Nat → Prop} {o : Option Addr} {r f t : Int} (h : AllAt W k o r f t) (hb : Same S W W') (h0 : S k) (h1 : S (k + 1)) (h2 : S (k + 1 + 1)) (h3 : S (k + 1 + 1 + 1)) : AllAt W' k o r f t :=
 ⟨hb.cell h.c0 h0, hb.cell h.c1 h1, hb.cell h.c2 h2, hb.cell h.c3 h3⟩
theorem AllAt.below {W W' : World} {k B : Nat} {o : Option Addr} {r f t : Int} (h : AllAt W k o r f t) (hb : Below B W W') (hk : k + 1 + 1 + 1 < B) : AllAt W' k o r f t :=
 h.same (S := fun g => g < B) (Same.below hb fun _ h => h) (by omega) (by omega) (by omega) hk
theorem DeqAt.same {w w' : World} {p a b R M : Nat} {E0 E1 C W B0 B1 U : Nat → Int} {S : Nat → Prop} (h : DeqAt w p a b R M E0 E1 C W B0 B1 U) (hb : Same S w w') (hp : S p) (hc : S a) (hf : S b) : DeqAt w' p a b R M E0 E1 C W B0 B1 U := by
 obtain ⟨a1, a2, a3, a4, a5, hd, ⟨cs, bc, cz, cc⟩, ⟨fs, bf, fz, ff⟩⟩ := h
 exact ⟨a1, a2, a3, a4, a5, hb.blk hd hp, ⟨cs, hb.blk bc hc, cz, cc⟩, ⟨fs, hb.blk bf hf, fz, ff⟩⟩
theorem grown_drewN (w : World) (n : Nat) (row : Option Nat) : w.grownBy (w.drewN n) row := ⟨rfl, rfl, rfl, Nat.le_refl _, fun _ _ _ => rfl⟩
theorem room_of_none {F : Fence} (hd : F.depth = none) (k : Nat) : F.room k := fun d h => by rw [hd] at h; cases h
theorem RoundIn.anyDepth {F : Fence} (hd : F.depth = none) {m m' : Nat} {P : Program} {l : Nat} {f : FuncId} {tmps : Array Value} {assign body : Code} {w : World} {R : Ending → World → Prop}
   (h : RoundIn F m P l f tmps assign body w R) : RoundIn F m' P l f tmps assign body w R := ⟨h.1, fun c cs _ => h.2 c cs (room_of_none hd _)⟩
theorem YieldAt.anyDepth {F : Fence} (hd : F.depth = none) {m : Nat} (m' : Nat) {P : Program} {l : Nat} {args : Array Value} {W : World} {R : Ending → World → Prop} (h : YieldAt F m P l args W R) : YieldAt F m' P l args W R := by
 obtain ⟨fn, tmps, assign, body, hy, hR⟩ := h
 exact ⟨fn, tmps, assign, body, hy, RoundIn.anyDepth hd hR⟩
section
variable {p a b R M : Nat} {E0 E1 C V B0 B1 U : Nat → Int}
set_option maxRecDepth 100000 in
set_option maxHeartbeats 2000000 in
theorem yields {l n m i : Nat} {S : Nat → Prop} (hi : i < M) (hV : 0 ≤ V i) (hp : S p) (ha : S a) (hb : S b) (J Jx : World → Prop) (W : World) (h : DeqAt W p a b R M E0 E1 C V B0 B1 U)
   (hY : YieldAt Fence.wide m Tryz.prog l (encN i) W fun e W' => (e = .returned (.bool true) ∧ J W' ∧ Same S W W') ∨ (e = .returned (.bool false) ∧ Jx W')) :
   CallsIn Fence.wide n Tryz.prog 140 #[.pointer (some ⟨p, 0, none⟩), .int .i64 (i : Int), .func (.yield l) #[] #[]] W fun e W' =>
     (e = .returned (.bool true) ∧ J W' ∧ Same S W W') ∨ (e = .returned (.bool false) ∧ Jx W') := by
 have q1 := h.p1
 have m0 := h.m0
 have k0 := h.mw hi
 have k3 := h.mu hi
 have hV1 : ¬ V i = -1 := by omega
 have H0 := Lib.hid h
 clear h
 obtain ⟨fn, tmps, assign, body, hy, hR⟩ := YieldAt.anyDepth (F := Fence.wide) rfl (n - 1) hY
 refine callsIn_of_wp Tryz.func140 rfl trivial ?_ rfl
 simp only [Tryz.ntmps140, List.size_toArray, List.length_cons, List.length_nil, Nat.reduceAdd, Nat.reduceSub, Array.replicate_succ, Array.replicate_zero, List.push_toArray, List.append_toArray, List.nil_append, List.cons_append]
 gi_wp2
 refine ⟨fun h => (by cases h), ?_⟩
 refine hR.mono ?_
 clear hR hy
 rintro e W1 (⟨rfl, hJ, hB⟩ | ⟨rfl, hJ⟩)
 · have h1 := H0.out.same hB hp ha hb
   have q1' := h1.p1
   have k0' := h1.mw hi
   have k3' := h1.mu hi
   clear h1
   have hV2 : (V i != -1) = true := bne_iff_ne.2 hV1
   gi_wp2
   go_ret
   exact .inl ⟨by simp, hJ, hB⟩
 · clear k0 k3 q1
   gi_wp2
   go_ret
   exact .inr ⟨rfl, hJ⟩
structure Path (b M N t : Nat) (s : Nat → Nat) (V : Nat → Int) (W : World) : Prop where
 ok : ∀ j, j < N → s j < M ∧ 0 ≤ V (s j) ∧ W.cell? ⟨b, s j * 4 + 1 + t, none⟩ = some (.int .i64 (if j + 1 < N then (s (j + 1) : Int) else -1))
def upto (s : Nat → Nat) (k : Nat) : List Nat := (List.range k).map s
theorem upto_succ (s : Nat → Nat) (k : Nat) : upto s (k + 1) = upto s k ++ [s k] := by simp [upto, List.range_succ]
theorem upto_pre (s : Nat → Nat) {k N : Nat} (h : k ≤ N) : upto s k <+: upto s N := by
 obtain ⟨d, rfl⟩ := Nat.le.dest h
 exact ⟨(List.range d).map fun j => s (k + j), by simp [upto, List.range_add, Function.comp_def]⟩
set_option maxRecDepth 100000 in
set_option maxHeartbeats 2000000 in
theorem all1_in {l k n N t : Nat} {S : Nat → Prop} {o : Int} {r : Int} {s : Nat → Nat} {z0 : Int} {o0 : Bool} (hz0 : 0 < N → z0 = (s 0 : Int)) (ho0 : o0 = true ↔ 0 < N) (hn : 1 ≤ n) (ht : t < 2) (hp : S p) (ha : S a) (hb : S b) (hk : S k ∧ S (k + 1) ∧ S (k + 1 + 1) ∧ S (k + 1 + 1 + 1)) (J Jx : List Nat → World → Prop) (W : World)
   (hA : AllAt W k (some ⟨p, 0, none⟩) r o (t : Int)) (h : DeqAt W p a b R M E0 E1 C V B0 B1 U) (hs : Path b M N t s V W)
   (hat : Calls Tryz.prog 139 #[.pointer (some ⟨p, 0, none⟩), .int .i64 r, .int .i64 o] W fun e w' => e = .returned (.tuple #[.int .i64 z0, .bool o0]) ∧ W = w')
   (hY : ∀ j W, j < N → J (upto s j) W → YieldAt Fence.wide (n - 1) Tryz.prog l (encN (s j)) W fun e W' => (e = .returned (.bool true) ∧ J (upto s j ++ [s j]) W' ∧ Same S W W') ∨ (e = .returned (.bool false) ∧ Jx (upto s j ++ [s j]) W'))
   (hJ0 : AbidesFrom W.heap.size J) (h0 : J [] W) :
   CallsIn Fence.wide n Tryz.prog 138 (#[.func (.yield l) #[] #[]] ++ allv k) W fun e W' => (∃ v, e = .returned v) ∧
     ((∃ ys, ys = upto s N ∧ J ys W') ∨ (∃ pre, pre <+: upto s N ∧ Jx pre W')) := by
 have c0 := hA.c0
 have c1 := hA.c1
 have c2 := hA.c2
 have m0 := h.m0
 refine callsIn_of_wp Tryz.func138 rfl trivial ?_ rfl
 simp only [Tryz.ntmps138, List.size_toArray, List.length_cons, List.length_nil, Nat.reduceAdd, Nat.reduceSub, Array.replicate_succ, Array.replicate_zero, List.push_toArray, List.append_toArray, List.nil_append, List.cons_append]
 gi_wp2_with (refine ⟨trivial, ?_⟩; gi_at_call 139; refine (callsIn_wide.2 hat).mono ?_; rintro e w1 ⟨rfl, rfl⟩)
 have H0 := Lib.hid h
 have HA := Lib.hid hA
 have HS := Lib.hid hs
 have HY := Lib.hid hY
 clear h hA hs hY hat c0 c1 c2
 gi_loopg [6, 7] N (fun g vi vo wr => ∃ (j : Nat) (z : Int) (ob : Bool), g = N - j ∧ j ≤ N ∧ vi = .int .i64 z ∧ (j < N → z = (s j : Int)) ∧ vo = .bool ob ∧ (ob = true ↔ j < N) ∧ J (upto s j) wr ∧ Same S W wr)
 case atStart => exact ⟨0, _, _, by omega, Nat.zero_le N, rfl, hz0, rfl, ho0, h0, Same.refl _ _⟩
 case round =>
   obtain ⟨j, z, ob, rfl, hj, rfl, hz, rfl, hob, hJ, hB⟩ := hrel
   have d := H0.out.same hB hp ha hb
   have e0 := (HA.out.same hB hk.1 hk.2.1 hk.2.2.1 hk.2.2.2).c0
   by_cases hjN : j < N
   · obtain rfl := hob.2 hjN
     clear hob
     obtain rfl := hz hjN
     obtain ⟨s1, s2, s3⟩ := HS.out.ok j hjN
     have hy := yields (n := n - 1) s1 s2 hp ha hb (J (upto s j ++ [s j])) (Jx (upto s j ++ [s j])) wr d (HY.out j wr hjN hJ)
     have HYY := Lib.hid hy
     clear hy
     have D := Lib.hid d
     clear d hz
     gi_wp2_with (refine ⟨trivial, ?_⟩; gi_at_call 140; refine HYY.out.mono ?_)
     clear HYY HY e0
     rintro e W1 (⟨rfl, hJ1, hB1⟩ | ⟨rfl, hJ1⟩)
     · have hB2 := hB.trans hB1
       have f0 := (HA.out.same hB2 hk.1 hk.2.1 hk.2.2.1 hk.2.2.2).c0
       have f3 := (HA.out.same hB2 hk.1 hk.2.1 hk.2.2.1 hk.2.2.2).c3
       have q1 := (H0.out.same hB2 hp ha hb).p1
       obtain ⟨z', hz'⟩ : ∃ z' : Int, (if j + 1 < N then (s (j + 1) : Int) else -1) = z' := ⟨_, rfl⟩
       rw [hz'] at s3
       have g0 := hB2.cell s3 hb
       have hlt : (t : Int) < 2 := by omega
       gi_wp2
       gi_quiet (fail)
       gi_wp2
       gi_roundg (N - (j + 1))
       case measure => omega
       case rel =>
         refine ⟨j + 1, z', _, rfl, hjN, rfl, fun hj2 => ?_, rfl, ?_, ?_, hB2⟩
         · rw [← hz', if_pos hj2]
         · rw [← hz']
           by_cases hj2 : j + 1 < N
           · rw [if_pos hj2]; simp [hj2]
           · rw [if_neg hj2]; simp [hj2]
         · rw [upto_succ]; exact hJ0 _ _ _ none hJ1 (grown_drewN _ _ _) (fun r h => by cases h)
     · gi_wp2
       go_end0
       refine ⟨⟨_, rfl⟩, .inr ⟨upto s j ++ [s j], ?_, hJ1⟩⟩
       rw [← upto_succ]; exact upto_pre s hjN
   · obtain rfl : ob = false := Bool.eq_false_iff.2 fun h => hjN (hob.1 h)
     clear hob
     clear d
     gi_wp2
     refine ⟨trivial, ?_⟩
     gi_wp2
     go_end0
     obtain rfl : j = N := by omega
     exact ⟨⟨_, rfl⟩, .inl ⟨_, rfl, hJ⟩⟩
theorem Path.below {N t n₀ : Nat} {s : Nat → Nat} {W W' : World} (h : Path b M N t s V W) (hb : Below n₀ W W') (hbn : b < n₀) : Path b M N t s V W' :=
 ⟨fun j hj => ⟨(h.ok j hj).1, (h.ok j hj).2.1, (hb.cell (p := ⟨b, s j * 4 + 1 + t, none⟩) hbn).trans (h.ok j hj).2.2⟩⟩
theorem all_way {k n N t : Nat} {o : Int} {r : Int} {s : Nat → Nat} {z0 : Int} {o0 : Bool} (w : World) (hz0 : 0 < N → z0 = (s 0 : Int)) (ho0 : o0 = true ↔ 0 < N) (hn : 1 ≤ n) (ht : t < 2) (hk : k + 1 + 1 + 1 < w.heap.size)
   (hA : AllAt w k (some ⟨p, 0, none⟩) r o (t : Int)) (h : DeqAt w p a b R M E0 E1 C V B0 B1 U) (hs : Path b M N t s V w)
   (hat : ∀ W, Below w.heap.size w W → Calls Tryz.prog 139 #[.pointer (some ⟨p, 0, none⟩), .int .i64 r, .int .i64 o] W fun e w' => e = .returned (.tuple #[.int .i64 z0, .bool o0]) ∧ W = w')
   (l : Nat) (J Jx : List Nat → World → Prop) (W : World) (hB : Below w.heap.size w W) (hJ : AbidesFrom W.heap.size J)
   (hY : ∀ j W, j < N → J (upto s j) W → YieldAt Fence.wide (n - 1) Tryz.prog l (encN (s j)) W fun e W' => (e = .returned (.bool true) ∧ J (upto s j ++ [s j]) W' ∧ Same (Its p a b k) W W') ∨ (e = .returned (.bool false) ∧ Jx (upto s j ++ [s j]) W')) (h0 : J [] W) :
   CallsIn Fence.wide n Tryz.prog 138 (#[.func (.yield l) #[] #[]] ++ allv k) W fun e W' => (∃ v, e = .returned v) ∧
     ((∃ ys, ys = upto s N ∧ J ys W') ∨ (∃ pre, pre <+: upto s N ∧ Jx pre W')) := by
 have hl := h.lts
 exact all1_in hz0 ho0 hn ht (.inl rfl) (.inr (.inl rfl)) (.inr (.inr (.inl rfl))) ⟨by simp [Its], by simp [Its], by simp [Its], by simp [Its]⟩ J Jx W (hA.below hB hk) (h.below hB hl.1 hl.2.1 hl.2.2) (hs.below hB hl.2.2) (hat W hB) hY hJ h0
end
set_option maxRecDepth 100000 in
set_option maxHeartbeats 2000000 in
theorem all1_none {l k n : Nat} {q : Option Addr} {f t : Int} {r : Int} {z0 : Int} (hn : 1 ≤ n) (J Jx : List Nat → World → Prop) (W : World)
   (hA : AllAt W k q r f t)
   (hat : Calls Tryz.prog 139 #[.pointer q, .int .i64 r, .int .i64 f] W fun e w' => e = .returned (.tuple #[.int .i64 z0, .bool false]) ∧ W = w')
   (h0 : J [] W) :
   CallsIn Fence.wide n Tryz.prog 138 (#[.func (.yield l) #[] #[]] ++ allv k) W fun e W' => (∃ v, e = .returned v) ∧
     ((∃ ys, ys = [] ∧ J ys W') ∨ (∃ pre, False ∧ Jx pre W')) := by
 have c0 := hA.c0
 have c1 := hA.c1
 have c2 := hA.c2
 refine callsIn_of_wp Tryz.func138 rfl trivial ?_ rfl
 simp only [Tryz.ntmps138, List.size_toArray, List.length_cons, List.length_nil, Nat.reduceAdd, Nat.reduceSub, Array.replicate_succ, Array.replicate_zero, List.push_toArray, List.append_toArray, List.nil_append, List.cons_append]
 gi_wp2_with (refine ⟨trivial, ?_⟩; gi_at_call 139; refine (callsIn_wide.2 hat).mono ?_; rintro e w1 ⟨rfl, rfl⟩)
 gi_loopg [7] 0 (fun g vo wr => vo = .bool false ∧ wr = W)
 case atStart => exact ⟨rfl, rfl⟩
 case round =>
   obtain ⟨rfl, rfl⟩ := hrel
   gi_wp2
   refine ⟨trivial, ?_⟩
   gi_wp2
   go_end0
   exact ⟨⟨_, rfl⟩, .inl ⟨_, rfl, h0⟩⟩
theorem all_stops_none {k n : Nat} {q : Option Addr} {f t : Int} {r : Int} {z0 : Int} {Kp : World → World → Prop} (w : World) (hn : 1 ≤ n) (hk : k + 1 + 1 + 1 < w.heap.size) (hA : AllAt w k q r f t)
   (hat : ∀ W, Below w.heap.size w W → Calls Tryz.prog 139 #[.pointer q, .int .i64 r, .int .i64 f] W fun e w' => e = .returned (.tuple #[.int .i64 z0, .bool false]) ∧ W = w') :
   SeqStopsK Fence.wide n Tryz.prog 138 (allv k) encN Kp (fun ys => ys = []) (fun _ => False) 0 w := fun l J Jx W hB hJ _ hY h0 =>
 all1_none hn J Jx W (hA.below hB hk) (hat W hB) h0
end Go.Proofs.YtcffeokbipjaoaaGreat
namespace Go.Proofs.YtcffeokbipjaoaaGreat
open Go.RowKit
section
variable {w w' w'' : World} {g : Nat} {t : TypeId} {cs : Array Value} {own own' : Nat → Prop}
theorem own_below {base size n : Nat} {e : TypeId} {v : Value} {xs : List Value} (h : w.ownsRow base e size v n xs) (hb : Below w.heap.size w w') : w'.ownsRow base e size v n xs := own_kept (own := fun _ => False) h (Kept.of_below hb) fun _ _ _ => id
theorem own_base {base size n : Nat} {e : TypeId} {v : Value} {xs : List Value} (h : w.ownsRow base e size v n xs) {k : Nat} (hk : v.ownBlock = some k) : base ≤ k := by
 rcases h.2 with ⟨rfl, _⟩ | ⟨g, cap, cur, rfl, hb, _⟩
 · simp [Value.ownBlock] at hk
 · have : g = k := by simpa [Value.ownBlock] using hk
   omega
end
end Go.Proofs.YtcffeokbipjaoaaGreat
namespace Go.Proofs.YtcffeokbipjaoaaGreat
open Go.RowKit
set_option linter.unusedVariables false
set_option maxRecDepth 100000
section
variable {p a b R M : Nat} {E0 E1 C W B0 B1 U : Nat → Int}
set_option maxHeartbeats 1000000 in
theorem dlen_out {r : Int} (hr : r < 0 ∨ (R : Int) ≤ r) (w : World) (h : DeqAt w p a b R M E0 E1 C W B0 B1 U) :
   Calls Tryz.prog 193 #[.pointer (some ⟨p, 0, none⟩), .int .i64 r] w fun e w' => e = .returned (.int .i64 0) ∧ w = w' := by
 have H0 := Lib.hid h
 clear h
 go_enter Tryz.func193, Tryz.ntmps193
 go_wp2_with (go_at_call 211; refine (hasrow_no _ H0.out hr).mono ?_; rintro e w1 ⟨rfl, rfl⟩)
 go_ret
 exact ⟨rfl, rfl⟩
set_option maxHeartbeats 1000000 in
theorem dat_out {r : Int} (hr : r < 0 ∨ (R : Int) ≤ r) (s : Int) (w : World) (h : DeqAt w p a b R M E0 E1 C W B0 B1 U) :
   Calls Tryz.prog 139 #[.pointer (some ⟨p, 0, none⟩), .int .i64 r, .int .i64 s] w fun e w' => e = .returned (.tuple #[.int .i64 0, .bool false]) ∧ w = w' := by
 have H0 := Lib.hid h
 clear h
 go_enter Tryz.func139, Tryz.ntmps139
 go_wp2_with (go_at_call 193; refine (dlen_out hr _ H0.out).mono ?_; rintro e w1 ⟨rfl, rfl⟩)
 go_ret2
 exact ⟨rfl, rfl⟩
set_option maxHeartbeats 1000000 in
theorem dback_out {r : Int} (hr : r < 0 ∨ (R : Int) ≤ r) (w : World) (h : DeqAt w p a b R M E0 E1 C W B0 B1 U) :
   Calls Tryz.prog 210 #[.pointer (some ⟨p, 0, none⟩), .int .i64 r] w fun e w' => e = .returned (.tuple #[.int .i64 0, .bool false]) ∧ w = w' := by
 have H0 := Lib.hid h
 clear h
 go_enter Tryz.func210, Tryz.ntmps210
 go_wp2_with (go_at_call 139; refine (dat_out hr 1 _ H0.out).mono ?_; rintro e w1 ⟨rfl, rfl⟩)
 go_ret2
 exact ⟨rfl, rfl⟩
set_option maxHeartbeats 1000000 in
theorem dback_empty {r : Nat} (hr : r < R) (hc : C r = 0) (w : World) (h : DeqAt w p a b R M E0 E1 C W B0 B1 U) :
   Calls Tryz.prog 210 #[.pointer (some ⟨p, 0, none⟩), .int .i64 (r : Int)] w fun e w' => e = .returned (.tuple #[.int .i64 0, .bool false]) ∧ w = w' := by
 have H0 := Lib.hid h
 clear h
 go_enter Tryz.func210, Tryz.ntmps210
 go_wp2_with (go_at_call 139; refine (dat_none hr hc 1 _ H0.out).mono ?_; rintro e w1 ⟨rfl, rfl⟩)
 go_ret2
 exact ⟨rfl, rfl⟩
set_option maxHeartbeats 1000000 in
theorem push_outr {r i : Int} (hr : r < 0 ∨ (R : Int) ≤ r) (w : World) (h : DeqAt w p a b R M E0 E1 C W B0 B1 U) :
   Calls Tryz.prog 171 #[.pointer (some ⟨p, 0, none⟩), .int .i64 r, .int .i64 i] w fun e w' => e = .returned (.int .i64 1) ∧ w = w' := by
 have H0 := Lib.hid h
 clear h
 go_enter Tryz.func171, Tryz.ntmps171
 go_wp2_with (go_at_call 211; refine (hasrow_no _ H0.out hr).mono ?_; rintro e w1 ⟨rfl, rfl⟩)
 go_ret
 exact ⟨rfl, rfl⟩
set_option maxHeartbeats 1000000 in
theorem push_outm {r : Nat} {i : Int} (hr : r < R) (hi : i < 0 ∨ (M : Int) ≤ i) (w : World) (h : DeqAt w p a b R M E0 E1 C W B0 B1 U) :
   Calls Tryz.prog 171 #[.pointer (some ⟨p, 0, none⟩), .int .i64 (r : Int), .int .i64 i] w fun e w' => e = .returned (.int .i64 1) ∧ w = w' := by
 have H0 := Lib.hid h
 clear h
 go_enter Tryz.func171, Tryz.ntmps171
 go_wp2_with (first
   | (go_at_call 211; refine (hasrow_yes hr _ H0.out).mono ?_; rintro e w1 ⟨rfl, rfl⟩)
   | (go_at_call 203; refine (hasmem_no _ H0.out hi).mono ?_; rintro e w1 ⟨rfl, rfl⟩))
 go_ret
 exact ⟨rfl, rfl⟩
set_option maxHeartbeats 1000000 in
theorem rem_out {i : Int} (hi : i < 0 ∨ (M : Int) ≤ i) (w : World) (h : DeqAt w p a b R M E0 E1 C W B0 B1 U) :
   Calls Tryz.prog 165 #[.pointer (some ⟨p, 0, none⟩), .int .i64 i] w fun e w' => e = .returned (.int .i64 1) ∧ w = w' := by
 have H0 := Lib.hid h
 clear h
 go_enter Tryz.func165, Tryz.ntmps165
 go_wp2_with (go_at_call 203; refine (hasmem_no _ H0.out hi).mono ?_; rintro e w1 ⟨rfl, rfl⟩)
 go_ret
 exact ⟨rfl, rfl⟩
set_option maxHeartbeats 1000000 in
theorem rem_none {i : Nat} (hi : i < M) (hw : W i = -1) (w : World) (h : DeqAt w p a b R M E0 E1 C W B0 B1 U) :
   Calls Tryz.prog 165 #[.pointer (some ⟨p, 0, none⟩), .int .i64 (i : Int)] w fun e w' => e = .returned (.int .i64 3) ∧ w = w' := by
 have q1 := h.p1
 have m0 := h.m0
 have k0 := h.mw hi
 rw [hw] at k0
 have H0 := Lib.hid h
 clear h
 go_enter Tryz.func165, Tryz.ntmps165
 go_wp2_with (go_at_call 203; refine (hasmem_yes hi _ H0.out).mono ?_; rintro e w1 ⟨rfl, rfl⟩)
 go_ret
 exact ⟨rfl, rfl⟩
end
end Go.Proofs.YtcffeokbipjaoaaGreat
namespace Go.Proofs.YtcffeokbipjaoaaGreat
open Go.RowKit Go.Shelf
set_option linter.unusedVariables false
def away (n : Nat → Nat) (A : Nat → Nat → Nat) (r : Nat) (back : Bool) (j : Nat) : Nat := if back then A r (n r - 1 - j) else A r j
section
variable {p a b R M : Nat} {n : Nat → Nat} {A : Nat → Nat → Nat} {ub : Int}
end
end Go.Proofs.YtcffeokbipjaoaaGreat
namespace Go.Proofs.YtcffeokbipjaoaaGreat
open Go.RowKit Go.ChangeShapes Go.WideShapes Go.Deep
def SeqAt (w : World) (B : Nat) (A : Option Addr) (len sz : Nat) (row : Nat → List Value) : Prop :=
 0 < len → ∃ b off, A = some ⟨b, off, none⟩ ∧ b < B ∧ ∀ i, i < len → ∀ k, k < sz → w.cell? ⟨b, off + i * sz + k, none⟩ = (row i)[k]?
theorem SeqAt.below {w w' : World} {B : Nat} {A : Option Addr} {len sz : Nat} {row : Nat → List Value} (h : SeqAt w B A len sz row) (hb : Below B w w') : SeqAt w' B A len sz row := by
 intro hl
 obtain ⟨b, off, e, hB, hc⟩ := h hl
 exact ⟨b, off, e, hB, fun i hi k hk => (hb.cell hB).trans (hc i hi k hk)⟩
section
variable {H : Type} {enc : TypeId × Value → H} {P : Program} {w : World}
end
end Go.Proofs.YtcffeokbipjaoaaGreat
namespace Go.Proofs.YtcffeokbipjaoaaGreat
open Go.RowKit Go.WideShapes Go.ChangeShapes
theorem post_of_under {H : Type} {enc : TypeId × Value → H} {P : Program} {f : Func} {s : ChangeSpec} {apart fresh handsOn again : Bool} {W W' : World} {args : Array Value} {v : Value} {ds gs : List (DataW H)} {before pa pv : List MemPlace}
   (hW : DataW.Whole enc P f.params.toList s.vars apart W args.toList ds gs before)
   (hres : ∀ (b : Nat) (sp : Nat → Bool) (hd : Bool), DataW.TrodAll enc P W' b sp hd f.resultTypes.toList (v.resultList f.resultTypes.size) (s.fn H (ds ++ gs)).results [])
   (hargs : ∀ sp : Nat → Bool, (∀ p ∈ before, sp p.block = true) → DataW.TrodAll enc P W' 0 sp true f.params.toList args.toList (s.fn H (ds ++ gs)).args pa)
   (hvars : ∀ sp : Nat → Bool, (∀ p ∈ before, sp p.block = true) → DataW.TrodVars enc P W' sp s.vars (s.fn H (ds ++ gs)).vars pv)
   (hps : before = pa ++ pv) (hb : Below W.heap.size W W')
   (hok : ∀ (j : Nat) (t : TypeId) (r : Value), f.resultTypes[j]? = some t → (v.resultList f.resultTypes.size)[j]? = some r → Value.okWide P W' .any 0 t r) :
   s.post enc P f apart fresh handsOn again W args v W' := by
 have hlt : ∀ p ∈ before, p.block < W.heap.size := fun p hp => hW.lt p hp
 have hold : ∀ p ∈ before, (fun b => decide (b < W.heap.size)) p.block = true := fun p hp => decide_eq_true (hlt p hp)
 obtain ⟨x1, x2, x3, x4, x5, hz, hn⟩ := id hW
 refine ⟨ds, gs, before, [], pa, pv, hW, hres _ _ _, hargs _ hold, hvars _ hold, World.keptBut_mono (fun p hp => ⟨hp, .inr (by simpa [hps] using hp)⟩) (hb.frame (· ∈ before)), fun _ => ?_⟩
 refine ⟨hok, _, _, ([] ++ pa) ++ pv, ⟨[] ++ pa, pv, trodAll_append (hargs _ (fun _ _ => rfl)) (hres _ _ _), hvars _ (fun _ _ => rfl), rfl, fun b off hp => ?_, fun ha => ?_⟩, fun p hp _ => ?_⟩
 · have hin : MemPlace.cell b off ∈ before := by simpa [hps] using hp
   rw [hb.frozen (hlt _ hin)]
   exact hz b off hin
 · simpa [hps] using hn ha
 · simpa [hps] using hp
theorem wf_i64 {a : Int} (h : (Lit.int .i64 a).wf = true) : -9223372036854775808 ≤ a ∧ a ≤ 9223372036854775807 := by
 have := (Lit.wf_int_iff _ _).1 h
 simpa [IntKind.min, IntKind.max, IntKind.signed, IntKind.bits] using this
theorem wf_u8 {a : Int} (h : (Lit.int .u8 a).wf = true) : 0 ≤ a ∧ a ≤ 255 := by
 have := (Lit.wf_int_iff _ _).1 h
 simpa [IntKind.min, IntKind.max, IntKind.signed, IntKind.bits] using this
end Go.Proofs.YtcffeokbipjaoaaGreat
