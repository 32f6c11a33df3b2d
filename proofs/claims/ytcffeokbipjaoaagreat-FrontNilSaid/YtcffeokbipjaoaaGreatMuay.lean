/- Texts of this claim, one behind the other: Coh Coi. -/
import Derived.Test.YtcffeokbipjaoaaGreatMuaw
namespace Go.Proofs.YtcffeokbipjaoaaGreat
open Go.ChangeShapes Go.WideShapes Go.RowKit Kn
set_option linter.unusedVariables false
set_option linter.unusedSimpArgs false
abbrev opT : TypeId := 33
def opv (a b c d : Int) : Value := .agg #[.int .u8 a, .int .i64 b, .int .i64 c, .int .i64 d]
section
variable {w w' w'' : World} {p q gc gm l : Nat} {r r' : Option Nat} {O Oq Oq' : Nat → Prop} {S S' : Cor}
def CfAt (w : World) (p : Nat) (c : Cf) : Prop := ∀ i, i < 16 → w.cell? ⟨p, i, none⟩ = c.l[i]?
theorem CoreB.cfat (h : CoreB w p q gc gm l r Oq S) : CfAt w p S.cf := by
 intro i hi
 have hl : S.cf.l.length = 16 := rfl
 have h1 : (coreCells S q gc gm l)[i]? = S.cf.l[i]? := by unfold coreCells; rw [List.getElem?_append_left (by omega)]
 rw [List.getElem?_eq_getElem (show i < S.cf.l.length by omega)] at h1 ⊢
 exact h.head.val (by simpa using h1)
theorem CfAt.below {c : Cf} (h : CfAt w p c) (hp : p < w.heap.size) (hb : Below w.heap.size w w') : CfAt w' p c := fun i hi => by
 have := h i hi
 rw [List.getElem?_eq_getElem (by show i < c.l.length; exact hi)] at this ⊢
 exact (hb.cell hp).trans this
theorem CfAt.drew {c : Cf} (h : CfAt w p c) : CfAt w.drew p c := fun i hi => h i hi
theorem CfAt.all {c : Cf} (h : CfAt w p c) : w.cell? ⟨p, 0, none⟩ = some (.int .i64 c.ti) ∧ w.cell? ⟨p, 1, none⟩ = some (.int .i64 c.ro) ∧ w.cell? ⟨p, 2, none⟩ = some (.int .i64 c.ta) ∧ w.cell? ⟨p, 3, none⟩ = some (.int .i64 c.iv) ∧ w.cell? ⟨p, 4, none⟩ = some (.int .i64 c.hg) ∧ w.cell? ⟨p, 5, none⟩ = some (.int .i64 c.lo) ∧ w.cell? ⟨p, 6, none⟩ = some (.int .i64 c.dw) ∧ w.cell? ⟨p, 7, none⟩ = some (.int .i64 c.ho) ∧ w.cell? ⟨p, 8, none⟩ = some (.int .i64 c.sp) ∧ w.cell? ⟨p, 9, none⟩ = some (.int .i64 c.kp) ∧ w.cell? ⟨p, 10, none⟩ = some (.int .i64 c.ki) ∧ w.cell? ⟨p, 11, none⟩ = some (.int .i64 c.kd) ∧ w.cell? ⟨p, 12, none⟩ = some (.int .i64 c.lm) ∧ w.cell? ⟨p, 13, none⟩ = some (.int .i64 c.st) ∧ w.cell? ⟨p, 14, none⟩ = some (.int .i64 c.th) ∧ w.cell? ⟨p, 15, none⟩ = some (.int .i64 c.rg) :=
 ⟨h 0 (by omega), h 1 (by omega), h 2 (by omega), h 3 (by omega), h 4 (by omega), h 5 (by omega), h 6 (by omega), h 7 (by omega), h 8 (by omega), h 9 (by omega), h 10 (by omega), h 11 (by omega), h 12 (by omega), h 13 (by omega), h 14 (by omega), h 15 (by omega)⟩
set_option maxRecDepth 100000 in
set_option maxHeartbeats 4000000 in
theorem co_judge (a b c d : Int) (h : CoreL w p O S) :
   Calls Tryz.prog 80 #[.pointer (some ⟨p, 0, none⟩), opv a b c d] w fun e w' => e = .returned (.int .u8 (judgeG S.cf.ti S.pid.le S.clk b c d)) ∧ Below w.heap.size w w' := by
 obtain ⟨q, gc, gm, l, r, Oq, h1, -⟩ := h.cells
 have hti : S.cf.ti ≤ 1000 := by have := h1.ok.hN; have := h1.ok.N8; omega
 obtain ⟨hle0, hle1⟩ : I64_ S.pid.le := by
   have := h1.ok.pid
   unfold I64_
   obtain ⟨x1, x2⟩ := this
   constructor <;> omega
 unfold opv
 have HC := Lib.hid h
 have HB := Lib.hid h1
 have hp : p < w.heap.size := h1.head.size
 clear h h1
 go_enter Tryz.func80, Tryz.ntmps80
 go_upto_region 1 with fail
 obtain ⟨W0, hW0⟩ : ∃ W, w.alloc (.cells #[.int .u8 a, .int .i64 b, .int .i64 c, .int .i64 d] opT) = W := ⟨_, rfl⟩
 have hb0 : Below w.heap.size w W0 := by rw [← hW0]; exact (Below.refl _ _).alloc (Nat.le_refl _) _
 have hx0 : Blk W0 w.heap.size opT #[.int .u8 a, .int .i64 b, .int .i64 c, .int .i64 d] := by rw [← hW0]; exact Blk.made _ _ _
 rw [hW0]
 clear hW0
 have hB0 := HB.out.below hb0
 have hL0 := HC.out.below hb0
 obtain ⟨k0, k1, k2, k3, k4, k5, k6, k7, k8, k9, k10, k11, k12, k13, k14, k15⟩ := hB0.cfat.all
 have k25 := hB0.c25
 have b1 : W0.cell? ⟨w.heap.size, 1, none⟩ = some (.int .i64 b) := hx0.val rfl
 have b2 : W0.cell? ⟨w.heap.size, 2, none⟩ = some (.int .i64 c) := hx0.val rfl
 have b3 : W0.cell? ⟨w.heap.size, 3, none⟩ = some (.int .i64 d) := hx0.val rfl
 have hg : w.heap.size < W0.heap.size := klt b1
 have hp0 : p < W0.heap.size := Nat.lt_of_lt_of_le hp hb0.size
 have HB0 := Lib.hid hb0
 have HL0 := Lib.hid hL0
 obtain ⟨g, hgg⟩ : ∃ g, w.heap.size = g := ⟨_, rfl⟩
 rw [hgg] at b1 b2 b3 hg ⊢
 have HG := Lib.hid hgg
 clear hb0 hx0 hB0 hL0 hgg
 go_region_held3 (fun w' => w'.cell? ⟨p, 0, none⟩ = some (.int .i64 S.cf.ti) ∧ w'.cell? ⟨p, 1, none⟩ = some (.int .i64 S.cf.ro) ∧ w'.cell? ⟨p, 2, none⟩ = some (.int .i64 S.cf.ta) ∧ w'.cell? ⟨p, 3, none⟩ = some (.int .i64 S.cf.iv) ∧ w'.cell? ⟨p, 4, none⟩ = some (.int .i64 S.cf.hg) ∧ w'.cell? ⟨p, 5, none⟩ = some (.int .i64 S.cf.lo) ∧ w'.cell? ⟨p, 6, none⟩ = some (.int .i64 S.cf.dw) ∧ w'.cell? ⟨p, 7, none⟩ = some (.int .i64 S.cf.ho) ∧ w'.cell? ⟨p, 8, none⟩ = some (.int .i64 S.cf.sp) ∧ w'.cell? ⟨p, 9, none⟩ = some (.int .i64 S.cf.kp) ∧ w'.cell? ⟨p, 10, none⟩ = some (.int .i64 S.cf.ki) ∧ w'.cell? ⟨p, 11, none⟩ = some (.int .i64 S.cf.kd) ∧ w'.cell? ⟨p, 12, none⟩ = some (.int .i64 S.cf.lm) ∧ w'.cell? ⟨p, 13, none⟩ = some (.int .i64 S.cf.st) ∧ w'.cell? ⟨p, 14, none⟩ = some (.int .i64 S.cf.th) ∧ w'.cell? ⟨p, 15, none⟩ = some (.int .i64 S.cf.rg) ∧ w'.cell? ⟨p, 25, none⟩ = some (.int .i64 S.clk) ∧ w'.cell? ⟨g, 1, none⟩ = some (.int .i64 b) ∧ w'.cell? ⟨g, 2, none⟩ = some (.int .i64 c) ∧ w'.cell? ⟨g, 3, none⟩ = some (.int .i64 d)) (repeat (first | with_reducible assumption | refine ⟨?_, ?_⟩ | with_reducible refine kdrew ?_ | with_reducible refine kalloc ?_ _)) (first | (go_at_call 117; refine (co_level (HL0.out.below (Below.drew (Below.refl _ _)))).mono ?_; rintro e w1 ⟨rfl, hb⟩; have hp1 : p < w1.heap.size := Nat.lt_of_lt_of_le hp0 hb.size; have hg1 : g < w1.heap.size := Nat.lt_of_lt_of_le hg hb.size; have d0 : w1.cell? ⟨p, 0, none⟩ = some (.int .i64 S.cf.ti) := (hb.cell hp0).trans k0; have d1 : w1.cell? ⟨p, 1, none⟩ = some (.int .i64 S.cf.ro) := (hb.cell hp0).trans k1; have d2 : w1.cell? ⟨p, 2, none⟩ = some (.int .i64 S.cf.ta) := (hb.cell hp0).trans k2; have d3 : w1.cell? ⟨p, 3, none⟩ = some (.int .i64 S.cf.iv) := (hb.cell hp0).trans k3; have d4 : w1.cell? ⟨p, 4, none⟩ = some (.int .i64 S.cf.hg) := (hb.cell hp0).trans k4; have d5 : w1.cell? ⟨p, 5, none⟩ = some (.int .i64 S.cf.lo) := (hb.cell hp0).trans k5; have d6 : w1.cell? ⟨p, 6, none⟩ = some (.int .i64 S.cf.dw) := (hb.cell hp0).trans k6; have d7 : w1.cell? ⟨p, 7, none⟩ = some (.int .i64 S.cf.ho) := (hb.cell hp0).trans k7; have d8 : w1.cell? ⟨p, 8, none⟩ = some (.int .i64 S.cf.sp) := (hb.cell hp0).trans k8; have d9 : w1.cell? ⟨p, 9, none⟩ = some (.int .i64 S.cf.kp) := (hb.cell hp0).trans k9; have d10 : w1.cell? ⟨p, 10, none⟩ = some (.int .i64 S.cf.ki) := (hb.cell hp0).trans k10; have d11 : w1.cell? ⟨p, 11, none⟩ = some (.int .i64 S.cf.kd) := (hb.cell hp0).trans k11; have d12 : w1.cell? ⟨p, 12, none⟩ = some (.int .i64 S.cf.lm) := (hb.cell hp0).trans k12; have d13 : w1.cell? ⟨p, 13, none⟩ = some (.int .i64 S.cf.st) := (hb.cell hp0).trans k13; have d14 : w1.cell? ⟨p, 14, none⟩ = some (.int .i64 S.cf.th) := (hb.cell hp0).trans k14; have d15 : w1.cell? ⟨p, 15, none⟩ = some (.int .i64 S.cf.rg) := (hb.cell hp0).trans k15; have d25 : w1.cell? ⟨p, 25, none⟩ = some (.int .i64 S.clk) := (hb.cell hp0).trans k25; have e1 : w1.cell? ⟨g, 1, none⟩ = some (.int .i64 b) := (hb.cell hg).trans b1; have e2 : w1.cell? ⟨g, 2, none⟩ = some (.int .i64 c) := (hb.cell hg).trans b2; have e3 : w1.cell? ⟨g, 3, none⟩ = some (.int .i64 d) := (hb.cell hg).trans b3; have HB1 := Lib.hid hb; clear hb) | (go_at_call 116; refine (gjudge_any S.cf _ _ _ _ _ hti hle0 hle1 _).mono ?_; rintro e w2 ⟨rfl, hb⟩; have f0 : w2.cell? ⟨p, 0, none⟩ = some (.int .i64 S.cf.ti) := (hb.cell hp1).trans d0; have f1 : w2.cell? ⟨p, 1, none⟩ = some (.int .i64 S.cf.ro) := (hb.cell hp1).trans d1; have f2 : w2.cell? ⟨p, 2, none⟩ = some (.int .i64 S.cf.ta) := (hb.cell hp1).trans d2; have f3 : w2.cell? ⟨p, 3, none⟩ = some (.int .i64 S.cf.iv) := (hb.cell hp1).trans d3; have f4 : w2.cell? ⟨p, 4, none⟩ = some (.int .i64 S.cf.hg) := (hb.cell hp1).trans d4; have f5 : w2.cell? ⟨p, 5, none⟩ = some (.int .i64 S.cf.lo) := (hb.cell hp1).trans d5; have f6 : w2.cell? ⟨p, 6, none⟩ = some (.int .i64 S.cf.dw) := (hb.cell hp1).trans d6; have f7 : w2.cell? ⟨p, 7, none⟩ = some (.int .i64 S.cf.ho) := (hb.cell hp1).trans d7; have f8 : w2.cell? ⟨p, 8, none⟩ = some (.int .i64 S.cf.sp) := (hb.cell hp1).trans d8; have f9 : w2.cell? ⟨p, 9, none⟩ = some (.int .i64 S.cf.kp) := (hb.cell hp1).trans d9; have f10 : w2.cell? ⟨p, 10, none⟩ = some (.int .i64 S.cf.ki) := (hb.cell hp1).trans d10; have f11 : w2.cell? ⟨p, 11, none⟩ = some (.int .i64 S.cf.kd) := (hb.cell hp1).trans d11; have f12 : w2.cell? ⟨p, 12, none⟩ = some (.int .i64 S.cf.lm) := (hb.cell hp1).trans d12; have f13 : w2.cell? ⟨p, 13, none⟩ = some (.int .i64 S.cf.st) := (hb.cell hp1).trans d13; have f14 : w2.cell? ⟨p, 14, none⟩ = some (.int .i64 S.cf.th) := (hb.cell hp1).trans d14; have f15 : w2.cell? ⟨p, 15, none⟩ = some (.int .i64 S.cf.rg) := (hb.cell hp1).trans d15; have f25 : w2.cell? ⟨p, 25, none⟩ = some (.int .i64 S.clk) := (hb.cell hp1).trans d25; have j1 : w2.cell? ⟨g, 1, none⟩ = some (.int .i64 b) := (hb.cell hg1).trans e1; have j2 : w2.cell? ⟨g, 2, none⟩ = some (.int .i64 c) := (hb.cell hg1).trans e2; have j3 : w2.cell? ⟨g, 3, none⟩ = some (.int .i64 d) := (hb.cell hg1).trans e3; have HB2 := Lib.hid hb; clear hb))
 go_wp2
 go_ret
 exact ⟨rfl, (HB0.out.trans ((Below.drew (Below.refl _ _)).mono HB0.out.size)).trans ((HB1.out.mono (by simpa using HB0.out.size)).trans (HB2.out.mono (by have := HB1.out.size; have := HB0.out.size; simp at *; omega)))⟩
def refuseE (S : Cor) (a b c d : Int) : Int := if a = 0 ∧ S.ph = 0 then (if judgeG S.cf.ti S.pid.le S.clk b c d = 4 then 0 else judgeG S.cf.ti S.pid.le S.clk b c d) else 0
set_option maxRecDepth 100000 in
set_option maxHeartbeats 4000000 in
theorem co_refusal (a b c d : Int) (h : CoreL w p O S) :
   Calls Tryz.prog 44 #[.pointer (some ⟨p, 0, none⟩), opv a b c d] w fun e w' => e = .returned (.int .u8 (refuseE S a b c d)) ∧ Below w.heap.size w w' := by
 obtain ⟨q, gc, gm, l, r, Oq, h1, -⟩ := h.cells
 have c23 := h1.c23
 have hp : p < w.heap.size := h1.head.size
 obtain ⟨z, hz⟩ : ∃ z, refuseE S a b c d = z := ⟨_, rfl⟩
 rw [hz]
 obtain ⟨v, hv⟩ : ∃ v, judgeG S.cf.ti S.pid.le S.clk b c d = v := ⟨_, rfl⟩
 unfold refuseE at hz
 rw [hv] at hz
 have HC := Lib.hid h
 have HV := Lib.hid hv
 have HZ := Lib.hid hz
 unfold opv
 have hpn : ¬ w.heap.size = p := by omega
 have hpn2 : ¬ p = w.heap.size := by omega
 clear h h1 hv hz
 by_cases ha : a = 0
 · subst ha
   by_cases hph : S.ph = 0
   · rw [hph] at c23
     have hjd := co_judge (w := w.alloc (.cells #[.int .u8 0, .int .i64 b, .int .i64 c, .int .i64 d] opT)) 0 b c d (HC.out.below ((Below.refl _ _).alloc (Nat.le_refl _) _))
     rw [HV.out] at hjd
     unfold opv at hjd
     have HJ := Lib.hid hjd
     have hzz := HZ.out
     rw [if_pos (And.intro rfl hph)] at hzz
     clear hjd hph HZ
     by_cases hv4 : v = 4
     · rw [if_pos hv4] at hzz
       subst hv4
       subst hzz
       go_enter Tryz.func44, Tryz.ntmps44
       go_wp2_with fail
       refine HJ.out.mono ?_
       rintro e w1 ⟨rfl, hb⟩
       have HB := Lib.hid hb
       clear hb
       go_wp2
       go_ret
       exact ⟨rfl, ((Below.refl _ _).alloc (Nat.le_refl _) _).trans (HB.out.mono (by simp))⟩
     · have hv5 : (v == 4) = false := by rw [beq_eq_false_iff_ne]; exact hv4
       rw [if_neg hv4] at hzz
       subst hzz
       go_enter Tryz.func44, Tryz.ntmps44
       go_wp2_with fail
       refine HJ.out.mono ?_
       rintro e w1 ⟨rfl, hb⟩
       have HB := Lib.hid hb
       clear hb
       go_wp2
       go_ret
       exact ⟨rfl, ((Below.refl _ _).alloc (Nat.le_refl _) _).trans (HB.out.mono (by simp))⟩
   · have hph2 : (S.ph == 0) = false := by rw [beq_eq_false_iff_ne]; exact hph
     have hph3 : (S.ph != 0) = true := by rw [bne, hph2]; rfl
     have hz0 : z = 0 := by rw [← HZ.out, if_neg (fun e => hph e.2)]
     subst hz0
     go_enter Tryz.func44, Tryz.ntmps44
     go_wp2
     go_ret
     exact ⟨rfl, (Below.refl _ _).alloc (Nat.le_refl _) _⟩
 · have ha2 : (a == 0) = false := by rw [beq_eq_false_iff_ne]; exact ha
   have ha3 : (a != 0) = true := by rw [bne, ha2]; rfl
   have hz0 : z = 0 := by rw [← HZ.out, if_neg (fun e => ha e.1)]
   subst hz0
   go_enter Tryz.func44, Tryz.ntmps44
   go_wp2
   go_ret
   exact ⟨rfl, (Below.refl _ _).alloc (Nat.le_refl _) _⟩
end
end Go.Proofs.YtcffeokbipjaoaaGreat
namespace Go.Proofs.YtcffeokbipjaoaaGreat
open Go.ChangeShapes Go.WideShapes Go.RowKit Kn
set_option linter.unusedVariables false
set_option linter.unusedSimpArgs false
abbrev resT : TypeId := 39
theorem resT_not : resT ∉ tqTypes := by decide
def resv (a t b c s : Int) : Value := .agg #[.int .u8 a, .int .u64 t, .int .i64 b, .int .i64 c, .int .i64 s]
theorem last_ge (P : Nat → Prop) (N : Nat) (h : ∃ u, u < N ∧ P u) : ∃ u, u < N ∧ P u ∧ ∀ r, u < r → r < N → ¬ P r := by
 induction N with
 | zero => obtain ⟨u, hu, _⟩ := h; omega
 | succ N ih =>
   by_cases hN : P N
   · exact ⟨N, by omega, hN, fun r h1 h2 => by omega⟩
   · obtain ⟨u, hu, hp⟩ := h
     have hne : u ≠ N := fun e => hN (e ▸ hp)
     obtain ⟨v, hv, hpv, hr⟩ := ih ⟨u, by omega, hp⟩
     refine ⟨v, by omega, hpv, fun r h1 h2 => ?_⟩
     by_cases hrN : r = N
     · rw [hrN]; exact hN
     · exact hr r h1 (by omega)
open Classical in
noncomputable def lastE (S : Cor) : Nat := if h : ∃ u, LastIs S u then Classical.choose h else 0
theorem lastE_is {S : Cor} (h : ∃ u, LastIs S u) : LastIs S (lastE S) := by
 unfold lastE; rw [dif_pos h]; exact Classical.choose_spec h
noncomputable def roomB (S : Cor) (t : Int) : Bool := decide (0 < S.q.m ∨ t < (lastE S : Int))
noncomputable def roomS (S : Cor) (t : Int) : Cor := if 0 < S.q.m then S else if t < (lastE S : Int) then settleS S (laE (S.q.L (lastE S))) 4 else S
section
variable {w w' w'' : World} {p q gc gm l g b : Nat} {r r' : Option Nat} {O Oq Oq' : Nat → Prop} {S S' : Cor} {T : TypeId} {cs : Array Value}
theorem CoreL.last_ex (h : CoreL w p O S) (hm : S.q.m = 0) : ∃ u, LastIs S u := by
 obtain ⟨q, gc, gm, l, r, Oq, h1, -⟩ := h.cells
 have hi := h1.que.inv
 have h0 : 0 < S.n := h1.ok.n1
 have ht : S.q.T 0 = true := by
   cases e : S.q.T 0 with
   | true => rfl
   | false => obtain ⟨j, hj, _⟩ := hi.fs 0 h0 e; omega
 obtain ⟨b0, b1, hb⟩ := hi.tr 0 h0 ht
 obtain ⟨u, hu, hp, hr⟩ := last_ge (fun u => 0 < (S.q.L u).length) S.N ⟨(S.q.R 0).b.toNat, by omega, List.length_pos_of_mem hb⟩
 exact ⟨u, hu, hp, fun r h1 h2 => by have := hr r h1 h2; omega⟩
theorem co_room (t : Int) (h : CoreL w p O S) (hK : S.K ≤ 1000) :
   Calls Tryz.prog 122 #[.pointer (some ⟨p, 0, none⟩), .int .i64 t] w fun e w' => e = .returned (.bool (roomB S t)) ∧ CStep w p O (roomS S t) w' := by
 unfold roomB roomS
 by_cases hm : 0 < S.q.m
 · rw [if_pos hm, decide_eq_true (.inl hm)]
   exact (co_room_free h hm).mono fun _ _ e => ⟨e.1, CStep.refl_ h e.2⟩
 · have hm0 : S.q.m = 0 := by omega
   have hl := lastE_is (h.last_ex hm0)
   rw [if_neg hm]
   by_cases ht : t < (lastE S : Int)
   · rw [if_pos ht, decide_eq_true (.inr ht)]
     exact co_room_yes h hm0 hl ht hK
   · rw [if_neg ht, decide_eq_false (by omega)]
     exact (co_room_no h hm0 hl (by omega)).mono fun _ _ e => ⟨e.1, CStep.refl_ h e.2⟩
theorem CoreL.box_ (h : CoreL w p O S) (hb : Blk w b T cs) (hT : T ∉ tqTypes) (hn : ¬ O b) (hk : Kept (fun k => k = b) w w') : CoreL w' p O S := by
 obtain ⟨⟨q, gc, gm, l, r, Oq, h1, h2⟩⟩ := h
 refine ⟨⟨q, gc, gm, l, r, Oq, h1.box_ hb hT ⟨fun e => hn ((h2 b).2 (.inl e)), fun e => hn ((h2 b).2 (.inr (.inl e))), fun e => hn ((h2 b).2 (.inr (.inr (.inl e)))), fun e => hn ((h2 b).2 (.inr (.inr (.inr (.inl e))))), fun e => hn ((h2 b).2 (.inr (.inr (.inr (.inr (.inl e))))))⟩ hk, h2⟩⟩
theorem CStep.blk (h : CStep w p O S w') (hb : Blk w b T cs) (hn : ¬ O b) : Blk w' b T cs := by
 obtain ⟨O1, h1, h2, h3⟩ := h
 exact hb.kept h3 hn
theorem CStep.box_ {w0 : World} (h : CStep w p O S w') (hst : Below w0.heap.size w0 w) (hb : Blk w' b T cs) (hT : T ∉ tqTypes) (hge : w0.heap.size ≤ b) (hlt : b < w.heap.size) (hn : ¬ O b) (hk : Kept (fun k => k = b) w' w'') : CStep w0 p O S w'' := by
 obtain ⟨O1, h1, h2, h3⟩ := h
 refine ⟨O1, h1.box_ hb hT (fun e => by rcases h2 b e with c | c; exact hn c; omega) hk, fun k hk => ?_, ?_⟩
 · rcases h2 k hk with c | c
   · exact .inl c
   · right; have := hst.size; omega
 · exact kept_step (kept_step (O := O) (Kept.of_below hst) (fun k hk => .inl hk) h3) (O' := fun k => k = b) (fun k hk => .inr (by omega)) hk
def put5 (w : World) (g : Nat) (a b c d e : Value) : World := ((((w.setCell ⟨g, 0, none⟩ a).setCell ⟨g, 1, none⟩ b).setCell ⟨g, 2, none⟩ c).setCell ⟨g, 3, none⟩ d).setCell ⟨g, 4, none⟩ e
theorem put5_blk {x0 x1 x2 x3 x4 a b c d e : Value} (h : Blk w g T #[x0, x1, x2, x3, x4]) : Blk (put5 w g a b c d e) g T #[a, b, c, d, e] := by
 have := ((((h.set_ 0 a).set_ 1 b).set_ 2 c).set_ 3 d).set_ 4 e
 simpa [put5] using this
theorem put5_kept {a b c d e : Value} : Kept (fun k => k = g) w (put5 w g a b c d e) :=
 ((((((Kept.refl (fun k => k = g) w).set_ (p := ⟨g, 0, none⟩) (.inl rfl) _).set_ (p := ⟨g, 1, none⟩) (.inl rfl) _).set_ (p := ⟨g, 2, none⟩) (.inl rfl) _).set_ (p := ⟨g, 3, none⟩) (.inl rfl) _).set_ (p := ⟨g, 4, none⟩) (.inl rfl) _)
end
end Go.Proofs.YtcffeokbipjaoaaGreat
