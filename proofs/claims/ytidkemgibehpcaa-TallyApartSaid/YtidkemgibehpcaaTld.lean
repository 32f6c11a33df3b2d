/- Going through a log: All's iterator. -/
import Derived.RangeFuncNested
import Derived.RangeFuncBound
import Derived.RangeFuncCalls
import Derived.RangeFuncLeaves
import Derived.RangeFuncBox
import Derived.RangeFuncWrites
import Derived.Shelf.Abstract
import Derived.Shelf.RegionOpen
import Derived.WalkKit
import Derived.OwnWalkIn
import Derived.TacticsInMore
import Derived.LoopNIn
import Derived.LoopIn
import Derived.Maps.AppendAt
import Derived.Sort.LoopGhostIn
import Derived.Sort.QuietIn
import Derived.Test.YtidkemgibehpcaaTlc
namespace Go.Proofs.Ytidkemgibehpcaa
open Go.RowKit Go.Shelf
set_option linter.unusedVariables false
set_option linter.unusedSimpArgs false
attribute [local go_sem] Oper.semAt_some
/-- Outcome x of L. -/
def nth (L : List Oc) (x : Nat) : Oc := L[x]!
/-- What is handed to the loop: outcome x of L. -/
abbrev encO (L : List Oc) (x : Nat) : Array Value := #[(nth L x).v]
/-- The iterator whose two variables lie from block k on. -/
abbrev tlv (k : Nat) : Array Value := #[.pointer (some ⟨k, 0, none⟩), .pointer (some ⟨k + 1, 0, none⟩)]
/-- The blocks of S lie as they lay. -/
def Same (S : Nat → Prop) (W W' : World) : Prop := ∀ g, S g → W'.heap[g]? = W.heap[g]?
theorem Same.refl (S : Nat → Prop) (W : World) : Same S W W := fun _ _ => rfl
theorem Same.trans {S : Nat → Prop} {A B C : World} (h : Same S A B) (k : Same S B C) : Same S A C := fun g hg => (k g hg).trans (h g hg)
theorem Same.below {S : Nat → Prop} {B : Nat} {W W' : World} (h : Below B W W') (hS : ∀ g, S g → g < B) : Same S W W' := fun g hg => h.block g (hS g hg)
theorem Same.cell {S : Nat → Prop} {W W' : World} (h : Same S W W') {a : Addr} {v : Value} (hc : W.cell? a = some v) (hS : S a.block) : W'.cell? a = some v := by
  unfold World.cell? at hc ⊢
  rw [h _ hS]; exact hc
theorem Same.blk {S : Nat → Prop} {W W' : World} (h : Same S W W') {g : Nat} {t : TypeId} {cs : Array Value} (hc : Blk W g t cs) (hS : S g) : Blk W' g t cs := (h g hS).trans hc
theorem same_put {S : Nat → Prop} {w : World} (hS : ∀ g, S g → g < w.heap.size) (W : World) (l : Nat) (o o' : Obj) (hl : w.heap.size ≤ l) (_ : W.heap[l]? = some o) (_ : o.isCells = false) (_ : o.isWalk = false) : Same S W (W.putObj l o') :=
  fun g hg => World.putObj_heap_other (by have := hS g hg; omega)
theorem Same.set {S : Nat → Prop} {W W' : World} (h : Same S W W') {a : Addr} (hS : ¬ S a.block) (v : Value) : Same S W (W'.setCell a v) :=
  fun g hg => (Below.heap_setCell _ _ _ _ (fun e => hS (e ▸ hg))).trans (h g hg)
theorem Same.alloc_ {S : Nat → Prop} {W W' : World} (h : Same S W W') (hS : ∀ g, S g → g < W'.heap.size) (o : Obj) : Same S W (W'.alloc o) :=
  fun g hg => (Below.heap_alloc _ _ _ (hS g hg)).trans (h g hg)
theorem seq_more {F : Fence} {n : Nat} {P : Program} {g : Nat} {lb : Array Value} {encs : Nat → Array Value} {Kp Kq : World → World → Prop} {S Sp : List Nat → Prop} {N : Nat} {w : World}
    (h : SeqStopsK F n P g lb encs Kp S Sp N w) (hk : ∀ A B, Kq A B → Kp A B) : SeqStopsK F n P g lb encs Kq S Sp N w := fun l J Jx W hW hJ hJx hY h0 =>
  h l J Jx W hW hJ hJx (fun pre x W1 hj hl => YieldAt.mono (hY pre x W1 hj hl) fun e W2 hh => hh.elim (fun ⟨h1, h2, h3⟩ => .inl ⟨h1, h2, hk _ _ h3⟩) .inr) h0
theorem grown_alloc (w : World) (o : Obj) (row : Option Nat) : w.grownBy (w.alloc o) row := ⟨rfl, rfl, rfl, by simp, fun k hk _ => Below.heap_alloc w o k hk⟩
theorem room_of_none {F : Fence} (hd : F.depth = none) (k : Nat) : F.room k := fun d h => by rw [hd] at h; cases h
theorem RoundIn.anyDepth {F : Fence} (hd : F.depth = none) {m m' : Nat} {P : Program} {l : Nat} {f : FuncId} {tmps : Array Value} {assign body : Code} {w : World} {R : Ending → World → Prop}
    (h : RoundIn F m P l f tmps assign body w R) : RoundIn F m' P l f tmps assign body w R := ⟨h.1, fun c cs _ => h.2 c cs (room_of_none hd _)⟩
theorem YieldAt.anyDepth {F : Fence} (hd : F.depth = none) {m : Nat} (m' : Nat) {P : Program} {l : Nat} {args : Array Value} {W : World} {R : Ending → World → Prop} (h : YieldAt F m P l args W R) : YieldAt F m' P l args W R := by
  obtain ⟨fn, tmps, assign, body, hy, hR⟩ := h
  exact ⟨fn, tmps, assign, body, hy, RoundIn.anyDepth hd hR⟩
/-- What the iterator leans on. -/
def ItsT (k p : Nat) (r : Option Nat) (g : Nat) : Prop := g = k ∨ g = k + 1 ∨ g = p ∨ r = some g
/-- Which of the first i are yielded. -/
def fl (f : Nat → Bool) (i : Nat) : List Nat := (List.range i).filter f
theorem fl_succ (f : Nat → Bool) (i : Nat) : fl f (i + 1) = if f i then fl f i ++ [i] else fl f i := by
  unfold fl
  rw [List.range_succ, List.filter_append]
  cases h : f i <;> simp [h]
theorem fl_pre (f : Nat → Bool) {i n : Nat} (h : i ≤ n) : fl f i <+: fl f n := by
  obtain ⟨d, rfl⟩ := Nat.le.dest h
  unfold fl
  rw [List.range_add, List.filter_append]
  exact ⟨_, rfl⟩
theorem fl_lt (f : Nat → Bool) {i n : Nat} (h : i < n) (hf : f i = true) : (fl f i).length < (fl f n).length := by
  have h1 := (fl_pre f (Nat.succ_le_of_lt h)).length_le
  rw [Nat.succ_eq_add_one, fl_succ, if_pos hf, List.length_append] at h1
  simp only [List.length_cons, List.length_nil] at h1
  omega
/-- Those with a why (0: all). -/
def whyB (why : Int) (o : Oc) : Bool := (why == 0) || (o.d == why)
section
variable {base p : Nat} {r : Option Nat} {w w' : World} {L : List Oc}
theorem LogAt.same {S : Nat → Prop} (h : LogAt base w p r L) (hb : Same S w w') (hp : S p) (hr : ∀ g, r = some g → S g) : LogAt base w' p r L := by
  obtain ⟨v, hb', ho, rfl⟩ := h.ex
  refine ⟨v, hb.blk hb' hp, ⟨ho.1, ?_⟩, rfl⟩
  rcases ho.2 with h0 | ⟨g, cap, cur, rfl, hb2, hg, h1⟩
  · exact .inl h0
  · exact .inr ⟨g, cap, cur, rfl, hb2, hb.blk (cs := cur) hg (hr g rfl), h1⟩
set_option maxRecDepth 100000 in
set_option maxHeartbeats 4000000 in
theorem tall1_in {l k n : Nat} {why : Int} {f : Nat → Bool} (hf : ∀ i, i < L.length → f i = whyB why (nth L i)) (hn : 1 ≤ n) (hl : L.length ≤ 10000) (J Jx : List Nat → World → Prop) (W : World)
    (c0 : W.cell? ⟨k, 0, none⟩ = some (.pointer (some ⟨p, 0, none⟩))) (c1 : W.cell? ⟨k + 1, 0, none⟩ = some (.int .u8 why)) (h : LogAt base W p r L)
    (hY : ∀ pre x W, J pre W → pre.length < (fl f L.length).length → YieldAt Fence.wide (n - 1) Try.prog l (encO L x) W fun e W' => (e = .returned (.bool true) ∧ J (pre ++ [x]) W' ∧ Same (ItsT k p r) W W') ∨ (e = .returned (.bool false) ∧ Jx (pre ++ [x]) W'))
    (hJ0 : AbidesFrom W.heap.size J) (h0 : J [] W) :
    CallsIn Fence.wide n Try.prog 30 (#[.func (.yield l) #[] #[]] ++ tlv k) W fun e W' => (∃ v, e = .returned v) ∧
      ((∃ ys, ys = fl f L.length ∧ J ys W') ∨ (∃ pre, pre <+: fl f L.length ∧ Jx pre W')) := by
  have H0 := Lib.hid h
  have HC := Lib.hid (And.intro c0 c1)
  have HY := Lib.hid hY
  have HF := Lib.hid hf
  obtain ⟨m, hm⟩ : ∃ m, L.length = m := ⟨_, rfl⟩
  have HM := Lib.hid hm
  rw [hm] at hl
  rw [hm]
  clear h hY hf hm
  refine callsIn_of_wp Try.func30 rfl trivial ?_ rfl
  simp only [Try.ntmps30, List.size_toArray, List.length_cons, List.length_nil, Nat.reduceAdd, Nat.reduceSub, Array.replicate_succ, Array.replicate_zero, List.push_toArray, List.append_toArray, List.nil_append, List.cons_append]
  gi_wp2
  clear c0 c1
  gi_loopg [4] m (fun g vi wr => ∃ j : Nat, g = m - j ∧ j ≤ m ∧ vi = .int .i64 (j : Int) ∧ J (fl f j) wr ∧ Same (ItsT k p r) W wr)
  case atStart => exact ⟨0, by omega, Nat.zero_le _, rfl, h0, Same.refl _ _⟩
  case round =>
    obtain ⟨j, rfl, hj, rfl, hJ, hB⟩ := hrel
    have d := H0.out.same hB (.inr (.inr (.inl rfl))) (fun g hg => .inr (.inr (.inr hg)))
    have e0 := hB.cell HC.out.1 (.inl rfl)
    have e1 := hB.cell HC.out.2 (.inr (.inl rfl))
    have D := Lib.hid d
    clear d
    by_cases hjm : j < m
    · have hjL : j < L.length := by rw [HM.out]; exact hjm
      obtain ⟨A, c, a0, hd, -, ho, hb, hr⟩ := D.out.slice
      obtain ⟨g, off, rfl, hg, r0, r1, r2, r3, r4, r5⟩ := hd.cells hjL
      obtain ⟨⟨ya, yb, yc, yd, ye, yf⟩, hy⟩ : ∃ y, nth L j = y := ⟨_, rfl⟩
      rw [HM.out] at a0
      rw [show L[j]! = _ from hy] at r0 r1 r2 r3 r4 r5
      have hfj := HF.out j hjL
      rw [hy] at hfj
      have hgk : k < wr.heap.size ∧ k + 1 < wr.heap.size ∧ p < wr.heap.size := ⟨klt e0, klt e1, D.out.lt⟩
      have hS : ∀ g, ItsT k p r g → g < wr.heap.size := fun g hg => by
        rcases hg with rfl | rfl | rfl | hg
        · exact hgk.1
        · exact hgk.2.1
        · exact hgk.2.2
        · obtain ⟨cs, hc⟩ := (D.out.row hg).2; exact hc.size
      have hWs : W.heap.size ≤ wr.heap.size ∨ True := .inr trivial
      obtain ⟨W1, hW1⟩ : ∃ W1, wr.alloc (Obj.cells #[.int .u64 ya, .int .i64 yb, .int .i64 yc, .int .u8 yd, .int .i64 ye, .int .i64 yf] tT) = W1 := ⟨_, rfl⟩
      have hJ1 : J (fl f j) W1 := by rw [← hW1]; exact hJ0 _ _ _ none hJ (grown_alloc _ _ _) (fun r h => by cases h)
      have hB1 : Same (ItsT k p r) W W1 := by rw [← hW1]; exact hB.alloc_ hS _
      have nb : Blk W1 wr.heap.size tT #[.int .u64 ya, .int .i64 yb, .int .i64 yc, .int .u8 yd, .int .i64 ye, .int .i64 yf] := by rw [← hW1]; exact Blk.made _ _ _
      have f1 : W1.cell? ⟨k + 1, 0, none⟩ = some (.int .u8 why) := by rw [← hW1]; exact kalloc e1 _
      have n0 := nb.val (i := 0) rfl
      have n1 := nb.val (i := 1) rfl
      have n2 := nb.val (i := 2) rfl
      have n3 := nb.val (i := 3) rfl
      have n4 := nb.val (i := 4) rfl
      have n5 := nb.val (i := 5) rfl
      have HS := Lib.hid (And.intro hJ1 hB1)
      have HHY := Lib.hid hy
      have HFJ := Lib.hid hfj
      have k0 : (0 : Int) ≤ (j : Int) := by omega
      have k1 : (j : Int) < (m : Int) := by omega
      clear hd ho hb hr hy hfj hgk hS hWs hJ1 hB1 hJ hB nb
      by_cases hft : f j = true
      · obtain ⟨fn, tmps, assign, body, hy1, hR⟩ := YieldAt.anyDepth (F := Fence.wide) rfl n (HY.out (fl f j) j W1 HS.out.1 (fl_lt f hjL hft))
        unfold encO at hy1
        rw [HHY.out] at hy1
        have HFT := Lib.hid hft
        have HRR := Lib.hid hR
        have hwy : why = 0 ∨ yd = why := by
          have := HFJ.out
          rw [hft] at this
          unfold whyB at this
          rcases Bool.or_eq_true_iff.1 this.symm with h | h
          · exact .inl (by simpa using h)
          · exact .inr (by simpa using h)
        have hfin : fl f (j + 1) = fl f j ++ [j] := by rw [fl_succ, if_pos hft]
        have HFIN := Lib.hid hfin
        clear hft hR hfin
        by_cases hw0 : why = 0
        · subst hw0
          clear hwy
          gi_wp2_with (refine ⟨trivial, ?_⟩; gi_at_call 11; refine (callsIn_wide.2 (tlen _ D.out)).mono ?_; rintro e w1 ⟨rfl, rfl⟩; rw [HM.out])
          refine (RoundIn.anyDepth rfl HRR.out).mono ?_
          clear HRR hy1
          rintro e W2 (⟨rfl, hJ2, hB2⟩ | ⟨rfl, hJ2⟩)
          · gi_wp2
            gi_roundg (m - (j + 1))
            case measure => omega
            case rel => exact ⟨j + 1, rfl, hjm, by go_num, by rw [HFIN.out]; exact hJ2, HS.out.2.trans hB2⟩
          · gi_wp2
            refine bodyPost_ret (results_none rfl _ _ _) rfl ?_
            exact ⟨⟨_, rfl⟩, .inr ⟨_, by rw [← HFIN.out, ← HM.out]; exact fl_pre f hjL, hJ2⟩⟩
        · have hwd : yd = why := by rcases hwy with h | h; exact absurd h hw0; exact h
          subst hwd
          clear hwy
          have hyd : (yd == 0) = false := by simpa using hw0
          gi_wp2_with (refine ⟨trivial, ?_⟩; gi_at_call 11; refine (callsIn_wide.2 (tlen _ D.out)).mono ?_; rintro e w1 ⟨rfl, rfl⟩; rw [HM.out])
          refine (RoundIn.anyDepth rfl HRR.out).mono ?_
          clear HRR hy1
          rintro e W2 (⟨rfl, hJ2, hB2⟩ | ⟨rfl, hJ2⟩)
          · gi_wp2
            gi_roundg (m - (j + 1))
            case measure => omega
            case rel => exact ⟨j + 1, rfl, hjm, by go_num, by rw [HFIN.out]; exact hJ2, HS.out.2.trans hB2⟩
          · gi_wp2
            refine bodyPost_ret (results_none rfl _ _ _) rfl ?_
            exact ⟨⟨_, rfl⟩, .inr ⟨_, by rw [← HFIN.out, ← HM.out]; exact fl_pre f hjL, hJ2⟩⟩
      · have hfin : fl f (j + 1) = fl f j := by rw [fl_succ, if_neg hft]
        have HFIN := Lib.hid hfin
        have hwy : ¬ why = 0 ∧ ¬ yd = why := by
          have := HFJ.out
          rw [Bool.eq_false_iff.2 hft] at this
          unfold whyB at this
          simpa using this.symm
        obtain ⟨hw0, hwd⟩ := hwy
        have hyd : (yd != why) = true := bne_iff_ne.2 hwd
        have hye : (why != 0) = true := bne_iff_ne.2 hw0
        clear hft hfin
        gi_wp2_with (refine ⟨trivial, ?_⟩; gi_at_call 11; refine (callsIn_wide.2 (tlen _ D.out)).mono ?_; rintro e w1 ⟨rfl, rfl⟩; rw [HM.out])
        gi_roundg (m - (j + 1))
        case measure => omega
        case rel => exact ⟨j + 1, rfl, hjm, by go_num, by rw [HFIN.out]; exact HS.out.1, HS.out.2⟩
    · obtain rfl : j = m := by omega
      gi_wp2_with (refine ⟨trivial, ?_⟩; gi_at_call 11; refine (callsIn_wide.2 (tlen _ D.out)).mono ?_; rintro e w1 ⟨rfl, rfl⟩; rw [HM.out])
      go_end0
      exact ⟨⟨_, rfl⟩, .inl ⟨_, rfl, hJ⟩⟩
end
end Go.Proofs.Ytidkemgibehpcaa
