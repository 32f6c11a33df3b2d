/- DequeStops is true of every number of members, every place to stop at, from either end, and changes nothing that it was given. -/
import Derived.Test.YtgjfigjebojjdaaDall
import Derived.Test.YtgjfigjebojjdaaRowb
import Derived.Test.YtgjfigjebojjdaaRows
import Derived.WalkKit
import Derived.ProofKit
import Derived.OpenShut
import Derived.Deep.DeepCutAuto
namespace Go.Proofs.Ytgjfigjebojjdaa.dequeStops
open Go.ChangeShapes Go.WideShapes Go.ChangeAt Go.RowKit
set_option linter.unusedVariables false
theorem own : ownKnob Try.prog.godebug = none := by kernel_rfl
theorem laidOut : laidOutB Try.prog = true := by kernel_rfl
theorem reads : (Try.f10.params.toList.all fun t => Try.prog.readableRec t && decide (t < Try.prog.types.size)) = true := by kernel_rfl
attribute [local go_sem] Oper.semAt_some
/-- k members, 0, 1, .., in row 0. -/
def nS (k j : Nat) : Nat := if j = 0 then k else 0
theorem nS_push (k : Nat) : (fun j => if j = 0 then nS k 0 + 1 else nS k j) = nS (k + 1) := by
  funext j; unfold nS; by_cases e : j = 0 <;> simp [e]
theorem aS_push (k : Nat) : (fun j x => if j = 0 ∧ x = nS k 0 then k else (fun _ x : Nat => x) j x) = fun _ x : Nat => x := by
  funext j x; unfold nS; rw [if_pos rfl]; by_cases e : j = 0 ∧ x = k
  · rw [if_pos e]; exact e.2.symm
  · rw [if_neg e]
theorem rep0 : Rep 1 40 (nS 0) (fun _ x : Nat => x) (fun _ => -1) (fun _ => -1) (fun _ => 0) (fun _ => -1) (fun _ => 0) (fun _ => 0) := by
  have hz : ∀ j, nS 0 j = 0 := fun j => by unfold nS; split <;> rfl
  exact ⟨fun r _ => by rw [hz]; rfl, fun r _ => by rw [hz]; rfl, fun r _ => by rw [hz]; rfl, fun r _ k hk => by rw [hz] at hk; exact absurd hk (Nat.not_lt_zero k), fun r _ k _ hk => by rw [hz] at hk; exact absurd hk (Nat.not_lt_zero k), fun _ _ => .inl rfl⟩
/-- The law's own variables. -/
structure St (W : World) (b b7 : Nat) (y : Int) (bk : Bool) (k : Nat) (res : Bool) : Prop where
  s4 : Boxed W b 5 (.int .u8 y)
  s5 : Boxed W (b + 1) 4 (.bool bk)
  s6 : Boxed W (b + 1 + 1) 4 (.bool res)
  s7 : Boxed W b7 3 (.int .i64 (k : Int))
theorem St.same {W W' : World} {b b7 : Nat} {y : Int} {bk res : Bool} {k : Nat} (h : St W b b7 y bk k res) (hs : ∀ g, g = b ∨ g = b + 1 ∨ g = b + 1 + 1 ∨ g = b7 → W'.heap[g]? = W.heap[g]?) : St W' b b7 y bk k res :=
  ⟨(hs _ (.inl rfl)).trans h.s4, (hs _ (.inr (.inl rfl))).trans h.s5, (hs _ (.inr (.inr (.inl rfl)))).trans h.s6, (hs _ (.inr (.inr (.inr rfl)))).trans h.s7⟩
/-- Between two rounds: what the iterator leans on lies as it lay, so does all that was there ahead of the law. -/
structure Lo (S : Nat → Prop) (w W4 W : World) : Prop where
  same : Same S W4 W
  size : W4.heap.size ≤ W.heap.size
  below : Below w.heap.size w W
theorem boxed_stay {N : Nat} {A B : World} {row : Option Nat} (hg : A.grownBy B row) (hr : ∀ r, row = some r → N ≤ r ∧ ∃ o : Obj, A.heap[r]? = some o ∧ o.isCells = false) {b : Nat} {t : TypeId} {v : Value} (h : Boxed A b t v) : Boxed B b t v :=
  h.kept hg fun e => by
    obtain ⟨_, o, ho, hc⟩ := hr b e.symm
    rw [show A.heap[b]? = _ from h] at ho; cases ho; cases hc
theorem St.stay {N : Nat} {A B : World} {row : Option Nat} (hg : A.grownBy B row) (hr : ∀ r, row = some r → N ≤ r ∧ ∃ o : Obj, A.heap[r]? = some o ∧ o.isCells = false) {b b7 : Nat} {y : Int} {bk res : Bool} {k : Nat} (h : St A b b7 y bk k res) : St B b b7 y bk k res :=
  ⟨boxed_stay hg hr h.s4, boxed_stay hg hr h.s5, boxed_stay hg hr h.s6, boxed_stay hg hr h.s7⟩
theorem Lo.stay {S : Nat → Prop} {w W4 A B : World} {row : Option Nat} (hg : A.grownBy B row) (hr : ∀ r, row = some r → W4.heap.size ≤ r ∧ ∃ o : Obj, A.heap[r]? = some o ∧ o.isCells = false) (hS : ∀ g, S g → g < W4.heap.size) (hw : w.heap.size ≤ W4.heap.size) (h : Lo S w W4 A) : Lo S w W4 B :=
  ⟨fun g hs => (hg.block g (by have := hS g hs; have := h.size; omega) (fun e => by have := (hr g e.symm).1; have := hS g hs; omega)).trans (h.same g hs), Nat.le_trans h.size hg.size, h.below.grown hg h.below.size (fun k e => by have := (hr k e).1; omega)⟩
theorem Lo.set {S : Nat → Prop} {w W4 W : World} (h : Lo S w W4 W) {a : Addr} (hS : ¬ S a.block) (hw : w.heap.size ≤ a.block) (v : Value) : Lo S w W4 (W.setCell a v) :=
  ⟨h.same.set hS v, by simpa using h.size, h.below.setCell hw v⟩
/-- Whom the law wants at place i. -/
def want (bk : Bool) (k i : Nat) : Nat := if bk then k - 1 - i else i
def Good (bk : Bool) (k : Nat) (pre : List Nat) : Prop := ∀ i, i < pre.length → pre[i]? = some (want bk k i)
theorem good_snoc {bk : Bool} {k : Nat} {pre : List Nat} (h : Good bk k pre) {x : Nat} (hx : x = want bk k pre.length) : Good bk k (pre ++ [x]) := by
  intro i hi
  by_cases e : i < pre.length
  · rw [List.getElem?_append_left e]; exact h i e
  · simp at hi
    obtain rfl : i = pre.length := by omega
    rw [List.getElem?_append_right (Nat.le_refl _)]; simp [hx]
theorem good_pre {bk : Bool} {k : Nat} {pre : List Nat} (h : pre <+: upto (away (nS k) (fun _ x => x) 0 bk) (nS k 0)) : Good bk k pre := by
  intro i hi
  obtain ⟨t, ht⟩ := h
  have hk : nS k 0 = k := rfl
  have hl : pre.length + t.length = k := by have := congrArg List.length ht; rw [List.length_append, upto_len, hk] at this; exact this
  have h2 : (pre ++ t)[i]? = pre[i]? := List.getElem?_append_left hi
  rw [← h2, ht]
  unfold upto
  rw [List.getElem?_map, List.getElem?_range (by rw [hk]; omega)]
  unfold want away
  rw [hk]
  cases bk <;> rfl
theorem RowsAt.same {p a b R M : Nat} {n : Nat → Nat} {A : Nat → Nat → Nat} {ub : Int} {S : Nat → Prop} {w w' : World} (h : RowsAt w p a b R M n A ub) (hs : Same S w w') (hp : S p) (ha : S a) (hb : S b) : RowsAt w' p a b R M n A ub := by
  obtain ⟨E0, E1, C, W, B0, B1, U, h1, h2, h3⟩ := h
  exact ⟨E0, E1, C, W, B0, B1, U, h1.same hs hp ha hb, h2, h3⟩
set_option maxRecDepth 100000 in
set_option maxHeartbeats 8000000 in
theorem walk (x y : Int) (bk : Bool) (w : World) (x0 : 0 ≤ x) (x1 : x ≤ 255) (y0 : 0 ≤ y) (y1 : y ≤ 255) :
    Calls Try.prog 10 #[.int .u8 x, .int .u8 y, .bool bk] w fun e w' => e = .returned (.bool true) ∧ Below w.heap.size w w' := by
  obtain ⟨k, hk⟩ : ∃ k : Nat, x % 30 = (k : Int) := ⟨(x % 30).toNat, by omega⟩
  have k30 : k < 30 := by omega
  obtain ⟨s, hs40⟩ : ∃ s : Nat, y % 40 = (s : Int) := ⟨(y % 40).toNat, by omega⟩
  have s40 : s < 40 := by omega
  refine (callsIn_wide (n := 9)).1 ?_
  refine callsIn_of_wp_marks Try.func10 rfl trivial ?_ rfl
  simp only [Try.ntmps10, List.size_toArray, List.length_cons, List.length_nil, Nat.reduceAdd, Nat.reduceSub, Array.replicate_succ, Array.replicate_zero, List.push_toArray, List.append_toArray, List.nil_append, List.cons_append]
  gi_wp2
  refine ⟨trivial, ?_⟩
  gi_at_call 32
  obtain ⟨W0, hW0⟩ : ∃ W0, ((w.alloc (Obj.cells #[.int .u8 y] 5)).alloc (Obj.cells #[.bool bk] 4)).alloc (Obj.cells #[.bool false] 4) = W0 := ⟨_, rfl⟩
  have hB0 : Below w.heap.size w W0 := by rw [← hW0]; exact (((Below.refl _ w).alloc (Nat.le_refl _) _).alloc (by simp) _).alloc (by simp; omega) _
  have hz0 : W0.heap.size = w.heap.size + 3 := by rw [← hW0]; simp
  have i4 : Boxed W0 w.heap.size 5 (.int .u8 y) := by rw [← hW0]; exact ((Boxed.new w _ _).alloc _).alloc _
  have i5 : Boxed W0 (w.heap.size + 1) 4 (.bool bk) := by rw [← hW0]; have := Boxed.new (w.alloc (Obj.cells #[.int .u8 y] 5)) 4 (.bool bk); rw [World.size_alloc] at this; exact this.alloc _
  have i6 : Boxed W0 (w.heap.size + 1 + 1) 4 (.bool false) := by rw [← hW0]; have := Boxed.new ((w.alloc (Obj.cells #[.int .u8 y] 5)).alloc (Obj.cells #[.bool bk] 4)) 4 (.bool false); rw [World.size_alloc, World.size_alloc] at this; exact this
  rw [hW0]
  clear hW0
  refine (callsIn_wide.2 (awaked _)).mono ?_
  rintro e w1 ⟨rfl, hb1⟩
  gi_wp2
  refine ⟨trivial, ?_⟩
  gi_at_call 33
  rw [show (1 : Int) = ((1 : Nat) : Int) from rfl, show (40 : Int) = ((40 : Nat) : Int) from rfl]
  refine (callsIn_wide.2 (dnew_yes 1 40 _ (by omega) (by omega) (by omega) (by omega))).mono ?_
  rintro e w2 ⟨p, a, b, rfl, hp, ha, hb, h2, hb2⟩
  rw [World.size_alloc] at hp ha hb hb2
  have hs2 : St w2 w.heap.size w1.heap.size y bk k false := by
    have h1 : St (w1.alloc (Obj.cells #[.int .i64 (k : Int)] 3)) w.heap.size w1.heap.size y bk k false :=
      ⟨Boxed.alloc ((hb1.block _ (by omega)).trans i4) _, Boxed.alloc ((hb1.block _ (by omega)).trans i5) _, Boxed.alloc ((hb1.block _ (by omega)).trans i6) _, Boxed.new _ _ _⟩
    exact h1.same fun g hg => hb2.block g (by have := hb1.size; omega)
  have hB2 : Below w.heap.size w w2 := by
    have h1 := hB0.trans (hb1.mono (by omega))
    exact (h1.alloc h1.size _).trans (hb2.mono (by have := h1.size; simp; omega))
  have hz2 := hb2.size
  rw [World.size_alloc] at hz2
  have hz1 : w.heap.size + 3 ≤ w1.heap.size := by have := hb1.size; omega
  clear i4 i5 i6 hB0 hb1 hb2 hz0
  have hr2 : RowsAt w2 p a b 1 40 (nS 0) (fun _ x => x) ((0 : Nat) : Int) := ⟨_, _, _, _, _, _, _, h2, rep0, fun _ => ⟨by simp, by simp⟩⟩
  have c7 := hs2.s7.cell
  have HR2 := Lib.hid hr2
  have HS2 := Lib.hid hs2
  have HB2 := Lib.hid hB2
  clear h2 hr2 hs2 hB2
  gi_wp2
  gi_loopw [24] (fun v wr => ∃ j : Nat, j ≤ k ∧ v = .int .i64 (j : Int) ∧ RowsAt wr p a b 1 40 (nS j) (fun _ x => x) (j : Int) ∧ Kept (fun g => g = a ∨ g = b) w2 wr) (fun v _ => k - (intOf v).toNat)
  case atStart => exact ⟨0, Nat.zero_le _, rfl, HR2.out, Kept.refl _ _⟩
  case round =>
    obtain ⟨j, hj, rfl, hr, hkp⟩ := hrel
    have HR := Lib.hid hr
    clear hr
    by_cases hlt : j < k
    · gi_wp2
      refine ⟨trivial, ?_⟩
      gi_at_call 35
      refine (callsIn_wide.2 (rows_push (r := 0) (i := j) _ HR.out (by omega) (by omega) (fun r' hr' x hx => ?_) (by omega) (by unfold nS; simp; omega))).mono ?_
      · have : r' = 0 := by omega
        subst this
        unfold nS at hx
        rw [if_pos rfl] at hx
        show x ≠ j
        omega
      rintro e w3 ⟨rfl, h3, k3⟩
      rw [nS_push, aS_push] at h3
      have HR3 := Lib.hid h3
      clear h3
      gi_wp2
      go_roundw
      case rel => exact ⟨j + 1, hlt, by go_num, HR3.out, hkp.trans k3⟩
      case measure => simp [intOf]; omega
    · obtain rfl : j = k := by omega
      have hb1 := hkp.size
      have hsr : St wr w.heap.size w1.heap.size y bk j false := HS2.out.same fun g hg => hkp.block g (by have := HB2.out.size; omega) (by have := HB2.out.size; omega)
      have hB : Below w.heap.size w wr := HB2.out.trans (hkp.below (fun g hg => by have := HB2.out.size; omega) HB2.out.size)
      have c5 := (hsr.s5.alloc (Obj.cells #[.int .i64 0] 3)).cell
      have HSR := Lib.hid hsr
      have HB := Lib.hid hB
      clear hsr hB c7
      gi_wp2
      refine ⟨trivial, ?_⟩
      gi_at_call 47
      obtain ⟨W3, hW3⟩ : ∃ W3, wr.alloc (Obj.cells #[.int .i64 0] 3) = W3 := ⟨_, rfl⟩
      have hz3 : W3.heap.size = wr.heap.size + 1 := by rw [← hW3]; simp
      have i11 : Boxed W3 wr.heap.size 3 (.int .i64 0) := by rw [← hW3]; exact Boxed.new _ _ _
      have HS3 := Lib.hid (show St W3 w.heap.size w1.heap.size y bk j false by rw [← hW3]; exact ⟨HSR.out.s4.alloc _, HSR.out.s5.alloc _, HSR.out.s6.alloc _, HSR.out.s7.alloc _⟩)
      have HR3 := Lib.hid (show RowsAt W3 p a b 1 40 (nS j) (fun _ x => x) (j : Int) by rw [← hW3]; exact HR.out.kept (own := fun _ => False) ((Kept.refl _ _).alloc_ _) id id id)
      have HB3 := Lib.hid (show Below w.heap.size w W3 by rw [← hW3]; exact HB.out.alloc HB.out.size _)
      rw [hW3]
      have hlr := HR.out.lts
      clear hW3 c5 HSR HR HB
      refine (callsIn_wide.2 (all_made (some ⟨p, 0, none⟩) ((0 : Nat) : Int) bk _)).mono ?_
      rintro e W4 ⟨rfl, hA, hb4, hz4⟩
      gi_wp2
      have hl3 := HR3.out.lts
      have hr4 := HR3.out.below hb4 hl3.1 hl3.2.1 hl3.2.2
      have hseq := seq_more (Kq := Same (Its p a b (wr.heap.size + 1))) (rows_stops (r := 0) (k := wr.heap.size + 1) (m := 8) (back := bk) W4 hr4 (by omega) (by omega) (by omega) (by rw [← hz3]; exact hA)) fun A B hh => hh
      have hS4 : ∀ g, Its p a b (wr.heap.size + 1) g → g < W4.heap.size := fun g hg => by unfold Its at hg; omega
      have hlo : Lo (Its p a b (wr.heap.size + 1)) w W4 W4 := ⟨Same.refl _ _, Nat.le_refl _, HB3.out.trans (hb4.mono HB3.out.size)⟩
      have hst4 : St W4 w.heap.size w1.heap.size y bk j false := HS3.out.same fun g hg => hb4.block g (by omega)
      have i114 : Boxed W4 wr.heap.size 3 (.int .i64 0) := (hb4.block _ (by omega)).trans i11
      have hN4 : ∀ g, (g = w.heap.size ∨ g = w.heap.size + 1 ∨ g = w.heap.size + 1 + 1 ∨ g = w1.heap.size ∨ g = wr.heap.size) → ¬ Its p a b (wr.heap.size + 1) g := fun g hg hi => by unfold Its at hi; omega
      refine wpIn_rangeFunc_ownF rfl (by omega) (gf := 65) (lb := allv (wr.heap.size + 1)) rfl trivial (enters_of Try.func65 (by kernel_rfl) rfl)
        hseq Same.trans (same_put hS4) (Below.refl _ _) (fun _ => rfl)
        (fun pre W => (St W w.heap.size w1.heap.size y bk j false ∧ Boxed W wr.heap.size 3 (.int .i64 (pre.length : Int))) ∧ (pre.length ≤ s ∧ Good bk j pre) ∧ Lo (Its p a b (wr.heap.size + 1)) w W4 W)
        (fun c pre W => (c = .ret ∧ ¬ Good bk j pre) ∨ (c = .exit 2 ∧ (St W w.heap.size w1.heap.size y bk j false ∧ Boxed W wr.heap.size 3 (.int .i64 (pre.length : Int))) ∧ pre.length = s + 1 ∧ Lo (Its p a b (wr.heap.size + 1)) w W4 W))
        (fun pre A B row h hg hr => ⟨⟨h.1.1.stay hg hr, boxed_stay hg hr h.1.2⟩, h.2.1, h.2.2.stay hg hr hS4 (by omega)⟩)
        (fun c pre A B row h hg hr => h.elim .inl fun h => .inr ⟨h.1, ⟨h.2.1.1.stay hg hr, boxed_stay hg hr h.2.1.2⟩, h.2.2.1, h.2.2.2.stay hg hr hS4 (by omega)⟩)
        ⟨⟨hst4, i114⟩, ⟨Nat.zero_le _, fun i hi => absurd hi (Nat.not_lt_zero i)⟩, hlo⟩
        (fun xx => { tmps := #[.int .u8 x, .int .u8 y, .bool bk, undef, .pointer (some ⟨w.heap.size, 0, none⟩), .pointer (some ⟨w.heap.size + 1, 0, none⟩), .pointer (some ⟨w.heap.size + 1 + 1, 0, none⟩), .pointer (some ⟨w1.heap.size, 0, none⟩), .pointer (some ⟨p, 0, none⟩), .int .i64 0, u10, .pointer (some ⟨wr.heap.size, 0, none⟩), .int .i64 (xx : Int), undef, .bool true, .bool false, .int .u8 x, .int .u8 (j : Int), .int .i64 (j : Int), .tuple #[.pointer (some ⟨p, 0, none⟩), .int .i64 0], .tuple #[.pointer (some ⟨p, 0, none⟩), .int .i64 0], .pointer (some ⟨p, 0, none⟩), .int .i64 0, .int .i64 (j : Int), .int .i64 (j : Int), .bool false, u26, u27, u28, u29, u30, .pointer (some ⟨p, 0, none⟩), .bool bk, .func (.func 65) #[] (allv (wr.heap.size + 1)), .int .i64 (xx : Int), undef, undef, undef, undef, undef, undef, undef, undef, undef, undef, undef, undef, undef, undef, undef, undef, undef, undef, undef, undef, undef, undef, undef, undef, undef, undef, undef, undef, undef, undef], defers := [] }) ?assign ?body ?done ?stop
      case assign =>
        intro l xx W K hK
        gi_wp2
        exact hK
      case body =>
        rintro l pre xx W ⟨⟨hst, hm⟩, ⟨hps, hgood⟩, hlo⟩ hlt
        have d4 := hst.s4.cell
        have d5 := hst.s5.cell
        have d6 := hst.s6.frozen
        have e6 := hst.s6.cell
        have d7 := hst.s7.cell
        have d11 := hm.cell
        have f11 := hm.frozen
        have hj0 : pre.length < j := hlt
        have hz1w : w1.heap.size + 1 ≤ wr.heap.size := by omega
        have hsame : ∀ v g, (g = w.heap.size ∨ g = w.heap.size + 1 ∨ g = w.heap.size + 1 + 1 ∨ g = w1.heap.size) → (W.setCell ⟨wr.heap.size, 0, none⟩ v).heap[g]? = W.heap[g]? := fun v g hg => Below.heap_setCell _ _ _ _ (by show g ≠ wr.heap.size; omega)
        have HSt := Lib.hid hst
        have HM := Lib.hid hm
        have HLo := Lib.hid hlo
        have HG := Lib.hid hgood
        have HSM := Lib.hid hsame
        have ht40 : y.tmod 40 = (s : Int) := by rw [Int.tmod_eq_emod_of_nonneg y0]; exact hs40
        have HT := Lib.hid ht40
        have hl30 : pre.length < 30 := by omega
        clear hst hm hlo hgood hsame ht40
        by_cases hxx : xx = want bk j pre.length
        · have HXX := Lib.hid hxx
          have hi : ((xx : Int) != (if bk then (j : Int) - 1 - (pre.length : Int) else (pre.length : Int))) = false := by
            rw [bne_eq_false_iff_eq, hxx]; unfold want; cases bk
            · rfl
            · simp; omega
          have hx' : (pre ++ [xx]).length = pre.length + 1 := by simp
          have HX' := Lib.hid hx'
          clear hx'
          by_cases hps2 : pre.length + 1 ≤ s
          · have hc : decide ((s : Int) < (pre.length : Int) + 1) = false := decide_eq_false (by omega)
            cases bk
            all_goals
              simp only [if_true, if_false, Bool.false_eq_true] at hi
              clear hxx
              gi_wp2
              exact ⟨KeepsOthers.setCell _ _ _, (Same.refl _ _).set (hN4 _ (by simp)) _, ⟨HSt.out.same (fun g hg => HSM.out _ g hg), by rw [HX'.out]; exact Blk.set_ HM.out 0 _⟩, ⟨by rw [HX'.out]; exact hps2, good_snoc HG.out HXX.out⟩, HLo.out.set (hN4 _ (by simp)) (by show w.heap.size ≤ wr.heap.size; omega) _⟩
          · have hc : decide ((s : Int) < (pre.length : Int) + 1) = true := decide_eq_true (by omega)
            cases bk
            all_goals
              simp only [if_true, if_false, Bool.false_eq_true] at hi
              clear hxx
              gi_wp2
              exact ⟨KeepsOthers.setCell _ _ _, .inr ⟨rfl, ⟨HSt.out.same (fun g hg => HSM.out _ g hg), by rw [HX'.out]; exact Blk.set_ HM.out 0 _⟩, by rw [HX'.out]; omega, HLo.out.set (hN4 _ (by simp)) (by show w.heap.size ≤ wr.heap.size; omega) _⟩⟩
        · have hi : ((xx : Int) != (if bk then (j : Int) - 1 - (pre.length : Int) else (pre.length : Int))) = true := by
            rw [bne_iff_ne]; unfold want at hxx; cases bk
            · simp only [Bool.false_eq_true, if_false] at hxx ⊢; omega
            · simp only [if_true] at hxx ⊢; omega
          have hbad : ¬ Good bk j (pre ++ [xx]) := fun hg => by
            have := hg pre.length (by simp)
            rw [List.getElem?_append_right (Nat.le_refl _)] at this
            simp at this
            exact hxx this
          have HBAD := Lib.hid hbad
          clear hbad
          cases bk
          all_goals
            simp only [if_true, if_false, Bool.false_eq_true] at hi
            clear hxx
            gi_wp2
            exact ⟨KeepsOthers.setCell _ _ _, .inl ⟨rfl, HBAD.out⟩⟩
      case done =>
        rintro D ys W hD rfl ⟨⟨hst, hm⟩, ⟨hps, hgood⟩, hlo⟩ hK
        have d4 := hst.s4.cell
        have d6 := hst.s6.frozen
        have e6 := hst.s6.cell
        have d7 := hst.s7.cell
        have d11 := hm.cell
        rw [upto_len] at hps d11
        have hnS : nS j 0 = j := rfl
        rw [hnS] at hps d11
        have ht40 : y.tmod 40 = (s : Int) := by rw [Int.tmod_eq_emod_of_nonneg y0]; exact hs40
        have hw1 : IntKind.i64.wrap (s : Int) = (s : Int) := IntWalk.i64_in _ (by omega)
        have hw2 : IntKind.i64.wrap ((s : Int) + 1) = (s : Int) + 1 := IntWalk.i64_in _ (by omega)
        have hmin : (if (s : Int) + 1 < (j : Int) then (s : Int) + 1 else (j : Int)) = (j : Int) := if_neg (by omega)
        have HNS := Lib.hid (show nS j 0 = j from rfl)
        have HRW := Lib.hid (RowsAt.same hr4 hlo.same (.inl rfl) (.inr (.inl rfl)) (.inr (.inr (.inl rfl))))
        have HK := Lib.hid hK
        have HLo := Lib.hid hlo
        clear hgood hlo hst hm hK hnS
        gi_wp2
        refine wpIn_mono (Q := NoPanic _) ?_ NoPanic.imp
        gi_region_with (refine ⟨trivial, ?_⟩; gi_at_call 46; refine (callsIn_wide.2 (rows_len (r := 0) _ (RowsAt.kept HRW.out (own := fun _ => False) (Kept.refl _ _).drew_ id id id) (by omega))).mono ?_; rintro e w9 ⟨rfl, rfl⟩; rw [HNS.out])
        all_goals
          refine NoPanic.normal ?_
          gi_wp2
          have hK' : ((W.setCell ⟨w.heap.size + 1 + 1, 0, none⟩ (.bool true)).drew).heap[D]? = some (.deferred (some [])) := (KeepsOthers.setCell W _ _).same D _ HK.out rfl
          refine ⟨by simp, .inl ⟨_, _, rfl, run_takeDeferred hK', ?_⟩⟩
          have hcc : ((W.setCell ⟨w.heap.size + 1 + 1, 0, none⟩ (.bool true)).drew).cell? ⟨w.heap.size + 1 + 1, 0, none⟩ = some (.bool true) := World.cell?_setCell_same' W ⟨w.heap.size + 1 + 1, 0, none⟩ (.bool true) (by rw [e6]; rfl)
          have hc5 := cell_kept hcc (grownBy_putObj' _ D (.deferred none)) (fun r e => by cases e; exact ⟨_, hK', rfl⟩)
          refine ⟨.bool true, ?_, rfl, ((HLo.out.below.setCell (p := ⟨w.heap.size + 1 + 1, 0, none⟩) (by show w.heap.size ≤ w.heap.size + 1 + 1; omega) _).drew).trans (belowK_b (w := w) (Nat.le_refl _) _ D _ _ (by omega) hK' rfl rfl)⟩
          simp [results, Try.f10, go_sem, hc5]
      case stop =>
        rintro D c pre W hD hpre (⟨rfl, hbad⟩ | ⟨rfl, ⟨hst, hm⟩, hps, hlo⟩) hK
        · exact absurd (good_pre hpre) hbad
        have hle : pre.length ≤ j := by
          obtain ⟨t, ht⟩ := hpre
          have := congrArg List.length ht
          rw [List.length_append, upto_len] at this
          have hnS : nS j 0 = j := rfl
          omega
        have d4 := hst.s4.cell
        have d6 := hst.s6.frozen
        have e6 := hst.s6.cell
        have d7 := hst.s7.cell
        have d11 := hm.cell
        rw [hps] at d11 hle
        have hc11 : ((s + 1 : Nat) : Int) = (s : Int) + 1 := by omega
        rw [hc11] at d11
        have ht40 : y.tmod 40 = (s : Int) := by rw [Int.tmod_eq_emod_of_nonneg y0]; exact hs40
        have hw1 : IntKind.i64.wrap (s : Int) = (s : Int) := IntWalk.i64_in _ (by omega)
        have hw2 : IntKind.i64.wrap ((s : Int) + 1) = (s : Int) + 1 := IntWalk.i64_in _ (by omega)
        have hmin : (if (s : Int) + 1 < (j : Int) then (s : Int) + 1 else (j : Int)) = (s : Int) + 1 := by split <;> omega
        have HNS := Lib.hid (show nS j 0 = j from rfl)
        have HRW := Lib.hid (RowsAt.same hr4 hlo.same (.inl rfl) (.inr (.inl rfl)) (.inr (.inr (.inl rfl))))
        have HK := Lib.hid hK
        have HLo := Lib.hid hlo
        clear hlo hst hm hK hc11 hps
        gi_wp2
        refine wpIn_mono (Q := NoPanic _) ?_ NoPanic.imp
        gi_region_with (refine ⟨trivial, ?_⟩; gi_at_call 46; refine (callsIn_wide.2 (rows_len (r := 0) _ (RowsAt.kept HRW.out (own := fun _ => False) (Kept.refl _ _).drew_ id id id) (by omega))).mono ?_; rintro e w9 ⟨rfl, rfl⟩; rw [HNS.out])
        all_goals
          refine NoPanic.normal ?_
          gi_wp2
          have hK' : ((W.setCell ⟨w.heap.size + 1 + 1, 0, none⟩ (.bool true)).drew).heap[D]? = some (.deferred (some [])) := (KeepsOthers.setCell W _ _).same D _ HK.out rfl
          refine ⟨by simp, .inl ⟨_, _, rfl, run_takeDeferred hK', ?_⟩⟩
          have hcc : ((W.setCell ⟨w.heap.size + 1 + 1, 0, none⟩ (.bool true)).drew).cell? ⟨w.heap.size + 1 + 1, 0, none⟩ = some (.bool true) := World.cell?_setCell_same' W ⟨w.heap.size + 1 + 1, 0, none⟩ (.bool true) (by rw [e6]; rfl)
          have hc5 := cell_kept hcc (grownBy_putObj' _ D (.deferred none)) (fun r e => by cases e; exact ⟨_, hK', rfl⟩)
          refine ⟨.bool true, ?_, rfl, ((HLo.out.below.setCell (p := ⟨w.heap.size + 1 + 1, 0, none⟩) (by show w.heap.size ≤ w.heap.size + 1 + 1; omega) _).drew).trans (belowK_b (w := w) (Nat.le_refl _) _ D _ _ (by omega) hK' rfl rfl)⟩
          simp [results, Try.f10, go_sem, hc5]
set_option maxRecDepth 100000 in
theorem lifted (os : Os) (started : os.Started) (H : Type) (enc : TypeId × Value → H) :
    ReturnsInHanded {} Try.checked os 10 .any (Rows.dequeStopsSpec.pre6 enc Try.prog Try.f10 Rows.dequeStopsRow.domain false) (Rows.dequeStopsSpec.post enc Try.prog Try.f10 false true false false) := by
  refine returnsInHanded_of_change (C := Try.checked) own started (by kernel_rfl) Try.func10
    (ChangeSpec.witness6 (enc := enc) (C := Try.checked) false ⟨#[], #[.int .u8 0, .int .u8 0, .bool false], []⟩ 8 (by kernel_rfl) (by kernel_rfl) (by kernel_rfl) (by kernel_rfl)) ?_
  intro W base args ds gs before hval0 hW hcnd _
  have hval : ∀ (j : Nat) t v, Try.f10.params[j]? = some t → args[j]? = some v → Value.okWide Try.prog W .any base t v := hval0
  have hW' := hW
  obtain ⟨p, q, hA0, hV, rfl, hfz, hnd⟩ := hW
  have hA : DataW.TrodAll enc Try.prog W 0 (fun _ => true) true Try.f10.params.toList args.toList ds p := hA0
  rw [Try.params10] at hA hval
  obtain ⟨v0, vs0, d0, ds0, p0, q0, hargs, rfl, rfl, h0, r0⟩ := trodAll_cons hA
  obtain ⟨v1, vs1, d1, ds1, p1, q1, rfl, rfl, rfl, h1, r1⟩ := trodAll_cons r0
  obtain ⟨v2, vs2, d2, ds2, p2, q2, rfl, rfl, rfl, h2, r2⟩ := trodAll_cons r1
  obtain ⟨rfl, rfl, rfl⟩ := trodAll_nil r2
  obtain rfl : args = #[v0, v1, v2] := by cases args; simp_all
  obtain ⟨rfl, rfl⟩ := trodVars_none hV
  obtain ⟨a0, rfl, rfl, rfl, w0⟩ := open_int Try.underlying5 (hval 0 _ v0 rfl rfl) h0
  obtain ⟨a1, rfl, rfl, rfl, w1⟩ := open_int Try.underlying5 (hval 1 _ v1 rfl rfl) h1
  obtain ⟨b2, rfl, rfl, rfl⟩ := open_bool Try.underlying4 (hval 2 _ v2 rfl rfl) h2
  clear hA0 hval0
  obtain ⟨l0, m0⟩ := wf_u8 w0
  obtain ⟨l1, m1⟩ := wf_u8 w1
  refine (walk a0 a1 b2 W l0 m0 l1 m1).mono fun e W' ⟨he, hg⟩ => ?_
  subst he
  exact ⟨_, rfl, post_of_law hW' rfl laidOut reads rfl Try.underlying4 rfl rfl rfl hg⟩
theorem over : Rows.dequeStopsRow.holds Try.pinned (OpenSpec.ofChange Rows.dequeStopsSpec) :=
  OpenClaim.holds_of_wide 10 Try.f10 rfl rfl rfl rfl rfl rfl rfl ⟨rfl, rfl, rfl, rfl, rfl⟩ rfl rfl rfl rfl rfl (by kernel_rfl) Try.func10 (by kernel_rfl)
    (of_decide_eq_true (by kernel_rfl)) (by unfold Func.isWrapper; first | (rw [if_pos (by decide +kernel)]; kernel_rfl) | (rw [if_neg (by decide +kernel)]; exact ⟨rfl, rfl⟩))
    (fun os started H enc _ => lifted os started H enc)
theorem proved : Rows.DequeStopsSaid := over
end Go.Proofs.Ytgjfigjebojjdaa.dequeStops
