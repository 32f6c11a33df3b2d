/- Texts of this claim, one behind the other: Fns Fnt Fnu Ost16 Ofo. -/
import Derived.ScopeJumps
import Derived.Deep.DeepCutAuto
import Derived.Test.YtcffeokbipjaoaaGreatProg
import Derived.ChangeArms
import Derived.Test.YtcffeokbipjaoaaGreatMuae
import Derived.Test.YtcffeokbipjaoaaGreatMubo
namespace Go.Proofs.YtcffeokbipjaoaaGreat
open Go.ChangeShapes Go.WideShapes Go.RowKit Go.Deep Kn
set_option linter.unusedVariables false
set_option linter.unusedSimpArgs false
def isT (F : FrS) (i : Int) : Prop := 0 ≤ i ∧ i < F.N
instance (F : FrS) (i : Int) : Decidable (isT F i) := by unfold isT; exact inferInstance
def whI (F : FrS) (i : Int) : Int := if isT F i then (F.ca i.toNat).nx else 0
noncomputable def stI (F : FrS) (i : Int) : FrS := if isT F i then fsStep F i.toNat else F
def srI (F : FrS) (i : Int) : ReV × Bool := if isT F i then frStep F i.toNat else (re0, false)
def beE (F : FrS) (i : Int) : Int := if isT F i then (if (F.ca i.toNat).nx = 0 then 0 else 10) else 1
def beF (F : FrS) (i : Int) (o : OpV) : FrS := if isT F i then (if (F.ca i.toNat).nx = 0 then F.setCa i.toNat (fnBegin o) else F) else F
def tiF (F : FrS) (d : Int) : FrS := { F with clk := tickE F.clk d }
structure FBd (F : FrS) (B : Nat) : Prop where
 ok : FOk F B
 K : F.S.K ≤ B
 L : F.L.length ≤ B
theorem fs_step_L (F : FrS) (i : Nat) : (fsStep F i).L.length ≤ F.L.length + 1 := by
 unfold fsStep
 split
 · exact Nat.le_succ _
 split
 · unfold fsJoin; split; exact Nat.le_succ _; split <;> exact Nat.le_succ _
 split
 · unfold fsWait; split <;> exact Nat.le_succ _
 split
 · unfold fsTry; split <;> exact Nat.le_succ _
 split
 · unfold fsTake; split; exact Nat.le_succ _; split <;> exact Nat.le_succ _
 split
 · show (F.L ++ [apV F i]).length ≤ _; simp
 split
 · exact Nat.le_succ _
 split
 · exact Nat.le_succ _
 · exact Nat.le_succ _
theorem fs_step_N (F : FrS) (i : Nat) : (fsStep F i).N = F.N ∧ (fsStep F i).n = F.n := by
 unfold fsStep
 split
 · exact ⟨rfl, rfl⟩
 split
 · unfold fsJoin; split; exact ⟨rfl, rfl⟩; split <;> exact ⟨rfl, rfl⟩
 split
 · unfold fsWait; split <;> exact ⟨rfl, rfl⟩
 split
 · unfold fsTry; split <;> exact ⟨rfl, rfl⟩
 split
 · unfold fsTake; split; exact ⟨rfl, rfl⟩; split <;> exact ⟨rfl, rfl⟩
 split
 · exact ⟨rfl, rfl⟩
 split
 · exact ⟨rfl, rfl⟩
 split
 · exact ⟨rfl, rfl⟩
 · exact ⟨rfl, rfl⟩
theorem isT_nat {F : FrS} {i : Int} (h : isT F i) : i.toNat < F.N ∧ ((i.toNat : Nat) : Int) = i := by
 obtain ⟨h0, h1⟩ := h
 omega
theorem FBd.st {F : FrS} {B : Nat} (h : FBd F B) (i : Int) : FBd (stI F i) (B + 1) := by
 unfold stI
 split
 · rename_i hi
   exact ⟨fs_step_ok h.ok (isT_nat hi).1, by have := fs_step_K F i.toNat; have := h.K; omega, by have := fs_step_L F i.toNat; have := h.L; omega⟩
 · exact ⟨h.ok.mono (Nat.le_succ B), by have := h.K; omega, by have := h.L; omega⟩
theorem FBd.mono {F : FrS} {B B' : Nat} (h : FBd F B) (hb : B ≤ B') : FBd F B' := ⟨h.ok.mono hb, Nat.le_trans h.K hb, Nat.le_trans h.L hb⟩
theorem fnBegin_ok {F : FrS} {B : Nat} (h : FOk F B) (i : Nat) {o : OpV} (ho : o.ok) : FOk (F.setCa i (fnBegin o)) B := by
 have h1 := h.N1
 have hc : CaOk F.N B (fnBegin o) := by
   refine ⟨by show (0 : Int) ≤ 1 ∧ (1 : Int) ≤ 8; omega, ?_, ?_, by show (0 : Int) ≤ 0 ∧ (0 : Int) < (F.N : Int); omega, by show (0 : Int) ≤ 0 ∧ (0 : Int) ≤ 16; omega, ?_, ho⟩
   · intro e
     have e' : (1 : Int) = 2 ∨ (1 : Int) = 5 := e
     omega
   · intro a e
     have e' : (none : Option Ac) = some a := e
     cases e'
   · intro e
     have e' : (1 : Int) = 5 ∨ (1 : Int) = 6 ∨ (1 : Int) = 7 := e
     omega
 exact h.setCa i hc
theorem FBd.be {F : FrS} {B : Nat} (h : FBd F B) (i : Int) {o : OpV} (ho : o.ok) : FBd (beF F i o) B := by
 unfold beF
 split
 · split
   · exact ⟨fnBegin_ok h.ok _ ho, h.K, h.L⟩
   · exact h
 · exact h
theorem tickE_in {c d : Int} (hc : I64_ c) : I64_ (tickE c d) := by
 unfold tickE
 split
 · exact hc
 · exact sat_in _
theorem FBd.ti {F : FrS} {B : Nat} (h : FBd F B) (d : Int) : FBd (tiF F d) B :=
 ⟨⟨h.ok.N1, h.ok.N2, h.ok.n1, h.ok.n2, h.ok.g, h.ok.ca, h.ok.bo, tickE_in h.ok.clk⟩, h.K, h.L⟩
section
variable {w w' w'' : World} {f : Nat} {O : Nat → Prop} {F F' : FrS} {B : Nat}
theorem FrL.call (h : FrL w f O F) {g : FuncId} {args : Array Value} {E : Ending → Prop} (hc : ∀ A, FrB w f A F → Calls Tryz.prog g args w fun e w' => E e ∧ FTo w f A F F' w') : Calls Tryz.prog g args w fun e w' => E e ∧ FStep w f O F' w' := by
 obtain ⟨⟨A, h1, h2⟩⟩ := h
 have e : O = fOwn f A F := funext fun k => propext (h2 k)
 subst e
 exact (hc A h1).mono fun e w' ⟨he, ht⟩ => ⟨he, ht.step⟩
theorem FrL.look (h : FrL w f O F) {g : FuncId} {args : Array Value} {Q : Ending → World → Prop} (hc : ∀ A, FrB w f A F → Calls Tryz.prog g args w Q) : Calls Tryz.prog g args w Q := by
 obtain ⟨⟨A, h1, h2⟩⟩ := h
 exact hc A h1
theorem fl_where (h : FrL w f O F) (i : Int) : Calls Tryz.prog 28 #[.pointer (some ⟨f, 0, none⟩), .int .i64 i] w fun e w' => e = .returned (.int .i64 (whI F i)) ∧ w = w' :=
 h.look fun A hA => by
   unfold whI
   by_cases hi : isT F i
   · rw [if_pos hi]
     have := fr_where hA i.toNat (isT_nat hi).1
     rw [(isT_nat hi).2] at this
     exact this
   · rw [if_neg hi]
     exact fr_wheren hA i hi
theorem fl_step (h : FrL w f O F) (hb : FBd F B) (hB : B ≤ 100000) (i : Int) (hdo : isT F i → (F.ca i.toNat).nx = 6 → DoAt F i.toNat) : Calls Tryz.prog 24 #[.pointer (some ⟨f, 0, none⟩), .int .i64 i] w fun e w' => e = .returned (.tuple #[(srI F i).1.v, .bool (srI F i).2]) ∧ FStep w f O (stI F i) w' := by
 refine h.call fun A hA => ?_
 unfold srI stI
 by_cases hi : isT F i
 · rw [if_pos hi, if_pos hi]
   have := fr_step hA hb.ok (by omega) (by have := hb.L; omega) (isT_nat hi).1 (hdo hi)
   rw [(isT_nat hi).2] at this
   exact this
 · rw [if_neg hi, if_neg hi]
   exact fr_stepn hA i hi
theorem fl_begin (h : FrL w f O F) (i : Int) (o : OpV) : Calls Tryz.prog 26 #[.pointer (some ⟨f, 0, none⟩), .int .i64 i, o.v] w fun e w' => e = .returned (.int .i64 (beE F i)) ∧ FStep w f O (beF F i o) w' := by
 refine h.call fun A hA => ?_
 unfold beE beF
 by_cases hi : isT F i
 · rw [if_pos hi, if_pos hi]
   by_cases hx : (F.ca i.toNat).nx = 0
   · rw [if_pos hx, if_pos hx]
     have := fr_begin hA (isT_nat hi).1 hx o
     rw [(isT_nat hi).2] at this
     exact this
   · rw [if_neg hx, if_neg hx]
     have := fr_beginb hA (isT_nat hi).1 hx o
     rw [(isT_nat hi).2] at this
     exact this.mono fun e w' ⟨he, hb⟩ => ⟨he, ((FOn.refl hA).below hb).to⟩
 · rw [if_neg hi, if_neg hi]
   exact (fr_beginn hA i hi o).mono fun e w' ⟨he, hb⟩ => ⟨he, ((FOn.refl hA).below hb).to⟩
theorem fl_tick (h : FrL w f O F) (hb : FOk F B) (d : Int) (hd : I64_ d) : Calls Tryz.prog 23 #[.pointer (some ⟨f, 0, none⟩), .int .i64 d] w fun e w' => e = .returned (.tuple #[]) ∧ FStep w f O (tiF F d) w' :=
 h.call fun A hA => fr_tick hA d hd hb.clk
theorem fl_now (h : FrL w f O F) : Calls Tryz.prog 29 #[.pointer (some ⟨f, 0, none⟩)] w fun e w' => e = .returned (.int .i64 F.clk) ∧ w = w' := h.look fun A hA => fr_now hA
end
end Go.Proofs.YtcffeokbipjaoaaGreat
namespace Go.Proofs.YtcffeokbipjaoaaGreat
open Go.ChangeShapes Go.WideShapes Go.RowKit Go.Deep Kn
set_option linter.unusedVariables false
set_option linter.unusedSimpArgs false
theorem do_first : doV (newC Cf.dflt 4 64) 0 0 0 0 9 = resv 1 1 0 0 0 ∧ doS (newC Cf.dflt 4 64) 0 0 0 0 9 = A0 0 0 9 := by
 have hj := new_judge (b := 0) (c := 0) (d := 9) ⟨by omega, by omega⟩ ⟨by omega, by omega⟩ (by omega)
 have hr : refuseE (clkS (newC Cf.dflt 4 64) 0) 0 0 0 9 = 0 := by
   show (if (0 : Int) = 0 ∧ (0 : Int) = 0 then (if judgeG 4 0 0 0 0 9 = 4 then 0 else judgeG 4 0 0 0 0 9) else 0) = 0
   rw [if_pos ⟨rfl, rfl⟩, hj, if_neg (by omega)]
 have hrb : roomB (newC Cf.dflt 4 64) 0 = true := decide_eq_true (.inl (by show (0 : Nat) < 64; omega))
 have hrs : roomS (newC Cf.dflt 4 64) 0 = newC Cf.dflt 4 64 := if_pos (by show (0 : Nat) < 64; omega)
 have hv : submitV (newC Cf.dflt 4 64) 0 0 9 = resv 1 1 0 0 0 := by
   unfold submitV
   rw [if_pos (show (newC Cf.dflt 4 64).ph = 0 from rfl), if_pos (show judgeG (newC Cf.dflt 4 64).cf.ti (newC Cf.dflt 4 64).pid.le (newC Cf.dflt 4 64).clk 0 0 9 = 0 from hj), if_pos hrb]
   rfl
 have hs : submitS (newC Cf.dflt 4 64) 0 0 9 = A0 0 0 9 := by
   unfold submitS
   rw [if_pos (show (newC Cf.dflt 4 64).ph = 0 from rfl), if_pos (show judgeG (newC Cf.dflt 4 64).cf.ti (newC Cf.dflt 4 64).pid.le (newC Cf.dflt 4 64).clk 0 0 9 = 0 from hj), if_pos hrb, hrs]
   rfl
 unfold doV doS
 rw [if_neg (by omega), if_neg (fun e => e hr), if_pos rfl, if_neg (by omega), if_neg (fun e => e hr), if_pos rfl, new_swept, hv, hs]
 exact ⟨rfl, endS_run rfl⟩
theorem first_R : doR (newC Cf.dflt 4 64) 0 ⟨0, 0, 0, 9⟩ = ⟨1, 1, 0, 0, 0⟩ := by
 have h := (doR_eq (newC Cf.dflt 4 64) 0 ⟨0, 0, 0, 9⟩).symm.trans do_first.1
 generalize doR (newC Cf.dflt 4 64) 0 ⟨0, 0, 0, 9⟩ = r at h
 obtain ⟨a, b, c, d, e⟩ := r
 unfold resv at h
 simp only [ReV.v, Value.agg.injEq, Array.mk.injEq, List.cons.injEq, Value.int.injEq, true_and, and_true] at h
 obtain ⟨rfl, rfl, rfl, rfl, rfl⟩ := h
 rfl
def aw0 : FrS := (newF Cf.dflt 4 4 4 64).setCa 0 (fnBegin ⟨0, 0, 0, 9⟩)
noncomputable def aws : Nat → FrS
 | 0 => aw0
 | k + 1 => fsStep (aws k) 0
def awW (k : Nat) : Int := [1, 2, 2, 3, 4, 5, 5, 5, 5, 6, 7, 5, 5, 8][k]?.getD 0
theorem lt14 {k : Nat} (h : k < 14) : k = 0 ∨ k = 1 ∨ k = 2 ∨ k = 3 ∨ k = 4 ∨ k = 5 ∨ k = 6 ∨ k = 7 ∨ k = 8 ∨ k = 9 ∨ k = 10 ∨ k = 11 ∨ k = 12 ∨ k = 13 := by omega
theorem aw_nx {k : Nat} (h : k < 14) : ((aws k).ca 0).nx = awW k := by
 rcases lt14 h with rfl | rfl | rfl | rfl | rfl | rfl | rfl | rfl | rfl | rfl | rfl | rfl | rfl | rfl <;> rfl
theorem aw_no {k : Nat} (h : k < 14) : (frStep (aws k) 0).2 = false := by
 rcases lt14 h with rfl | rfl | rfl | rfl | rfl | rfl | rfl | rfl | rfl | rfl | rfl | rfl | rfl | rfl <;> rfl
theorem aw_six {k : Nat} (h : k < 14) (h6 : awW k = 6) : k = 9 := by
 rcases lt14 h with rfl | rfl | rfl | rfl | rfl | rfl | rfl | rfl | rfl | rfl | rfl | rfl | rfl | rfl <;> first | rfl | (exact absurd h6 (by decide))
theorem aw_last : ((aws 14).ca 0).nx = 3 ∧ ((aws 15).ca 0).nx = 0 := ⟨rfl, rfl⟩
theorem aw_end : frStep (aws 14) 0 = (doR (newC Cf.dflt 4 64) 0 ⟨0, 0, 0, 9⟩, true) := rfl
theorem aws_N : ∀ k, (aws k).N = 4
 | 0 => rfl
 | k + 1 => by show (fsStep (aws k) 0).N = 4; rw [(fs_step_N _ _).1]; exact aws_N k
theorem aws_T (k : Nat) : isT (aws k) 0 := ⟨Int.le_refl _, by rw [aws_N]; omega⟩
theorem aws_st (k : Nat) : stI (aws k) 0 = aws (k + 1) := if_pos (aws_T k)
theorem aws_bd : ∀ k, FBd (aws k) k
 | 0 => ⟨fnBegin_ok (newF_ok Cf.dflt (by omega) (by omega) (by omega) (by omega)) 0 (by unfold OpV.ok I64_; simp), Nat.le_refl _, Nat.le_refl _⟩
 | k + 1 => by rw [← aws_st]; exact (aws_bd k).st 0
theorem aws_do : DoAt (aws 9) 0 := by
 intro w p O hL
 have h := first_submit (b := 0) (c := 0) (d := 9) ⟨by omega, by omega⟩ ⟨by omega, by omega⟩ (by omega) ⟨by omega, by omega⟩ (show CoreL w p O (newC Cf.dflt 4 64) from hL)
 show Calls Tryz.prog 15 #[.pointer (some ⟨p, 0, none⟩), .int .i64 0, (⟨0, 0, 0, 9⟩ : OpV).v] w fun e w' => e = .returned (doR (newC Cf.dflt 4 64) 0 ⟨0, 0, 0, 9⟩).v ∧ CStep w p O (doO (newC Cf.dflt 4 64) 0 ⟨0, 0, 0, 9⟩) w'
 rw [first_R, show doO (newC Cf.dflt 4 64) 0 ⟨0, 0, 0, 9⟩ = A0 0 0 9 from do_first.2]
 exact h
end Go.Proofs.YtcffeokbipjaoaaGreat
namespace Go.Proofs.YtcffeokbipjaoaaGreat
open Go.ChangeShapes Go.WideShapes Go.RowKit Go.Deep Kn
set_option linter.unusedVariables false
set_option linter.unusedSimpArgs false
theorem aw_cells {k : Nat} (h : k < 14) : (#[.int .i64 1, .int .i64 2, .int .i64 2, .int .i64 3, .int .i64 4, .int .i64 5, .int .i64 5, .int .i64 5, .int .i64 5, .int .i64 6, .int .i64 7, .int .i64 5, .int .i64 5, .int .i64 8] : Array Value)[k]? = some (.int .i64 (awW k)) := by
 rcases lt14 h with rfl | rfl | rfl | rfl | rfl | rfl | rfl | rfl | rfl | rfl | rfl | rfl | rfl | rfl <;> rfl
set_option maxRecDepth 100000 in
set_option maxHeartbeats 8000000 in
theorem frn_call (i : Int) (o : OpV) (w : World) : Calls Tryz.prog 27 #[.pointer none, .int .i64 i, o.v] w fun e w' => e = .returned re0.v ∧ Below w.heap.size w w' := by
 obtain ⟨ok, ot, oc, on⟩ := o
 go_enter Tryz.func27, Tryz.ntmps27
 go_upto_region 1 with fail
 refine wp_worldx (fun wx => Below w.heap.size w wx ∧ Blk wx w.heap.size opfT #[.int .u8 ok, .int .i64 ot, .int .i64 oc, .int .i64 on] ∧ Blk wx (w.heap.size + 1) reT #[.int .u8 0, .int .u64 0, .int .i64 0, .int .i64 0, .int .i64 0]) ⟨((Below.refl _ _).alloc (Nat.le_refl _) _).alloc (by simp) _, (Blk.made w _ _).alloc_ _, Blk.new_ (by simp)⟩ ?_
 obtain ⟨g, hg⟩ : ∃ g, w.heap.size = g := ⟨_, rfl⟩
 rw [hg]
 rintro w1 ⟨hbw, hb0, hb1⟩
 have o0 : w1.cell? ⟨g, 0, none⟩ = some (.int .u8 ok) := hb0.val (i := 0) rfl
 have o1 : w1.cell? ⟨g, 1, none⟩ = some (.int .i64 ot) := hb0.val (i := 1) rfl
 have o2 : w1.cell? ⟨g, 2, none⟩ = some (.int .i64 oc) := hb0.val (i := 2) rfl
 have o3 : w1.cell? ⟨g, 3, none⟩ = some (.int .i64 on) := hb0.val (i := 3) rfl
 have HBW := Lib.hid (show Below w.heap.size w w1 from by rw [hg]; exact hbw)
 have HB1 := Lib.hid hb1
 have HG := Lib.hid hg
 clear hbw hb0 hb1
 go_wp2_with fail
 refine wp_scope_jumps 0 (fun _ _ => False) (fun _ _ => 0) rfl ?_ ?_
 · go_wp2_with fail
   refine (frn_begin i ⟨ok, ot, oc, on⟩ w1).mono ?_
   rintro e w2 ⟨rfl, hb⟩
   have HB2 := Lib.hid (HB1.out.below_ hb HB1.out.size)
   have HBW2 := Lib.hid (HBW.out.trans (hb.mono HBW.out.size))
   clear hb HB1 HBW o0 o1 o2 o3
   have y0 : w2.cell? ⟨g + 1, 0, none⟩ = some (.int .u8 0) := HB2.out.val (i := 0) rfl
   have y1 : w2.cell? ⟨g + 1, 1, none⟩ = some (.int .u64 0) := HB2.out.val (i := 1) rfl
   have y2 : w2.cell? ⟨g + 1, 2, none⟩ = some (.int .i64 0) := HB2.out.val (i := 2) rfl
   have y3 : w2.cell? ⟨g + 1, 3, none⟩ = some (.int .i64 0) := HB2.out.val (i := 3) rfl
   have y4 : w2.cell? ⟨g + 1, 4, none⟩ = some (.int .i64 0) := HB2.out.val (i := 4) rfl
   have yz := HB2.out.free
   go_wp2_with fail
   have hbf : Blk (((((w2.setCell ⟨g + 1, 0, none⟩ (.int .u8 0)).setCell ⟨g + 1, 1, none⟩ (.int .u64 0)).setCell ⟨g + 1, 2, none⟩ (.int .i64 0)).setCell ⟨g + 1, 3, none⟩ (.int .i64 0)).setCell ⟨g + 1, 4, none⟩ (.int .i64 0)) (g + 1) reT #[.int .u8 0, .int .u64 0, .int .i64 0, .int .i64 0, .int .i64 0] := by
     have := (((((HB2.out.set_ 0 (.int .u8 0)).set_ 1 (.int .u64 0)).set_ 2 (.int .i64 0)).set_ 3 (.int .i64 0)).set_ 4 (.int .i64 0))
     simpa using this
   have hk : Kept (fun k => k = g + 1) w2 (((((w2.setCell ⟨g + 1, 0, none⟩ (.int .u8 0)).setCell ⟨g + 1, 1, none⟩ (.int .u64 0)).setCell ⟨g + 1, 2, none⟩ (.int .i64 0)).setCell ⟨g + 1, 3, none⟩ (.int .i64 0)).setCell ⟨g + 1, 4, none⟩ (.int .i64 0)) := by
     repeat (first | with_reducible exact Kept.refl _ _ | refine Kept.set1 ?_ _ _)
   obtain ⟨W, hW⟩ : ∃ W, (((((w2.setCell ⟨g + 1, 0, none⟩ (.int .u8 0)).setCell ⟨g + 1, 1, none⟩ (.int .u64 0)).setCell ⟨g + 1, 2, none⟩ (.int .i64 0)).setCell ⟨g + 1, 3, none⟩ (.int .i64 0)).setCell ⟨g + 1, 4, none⟩ (.int .i64 0)) = W := ⟨_, rfl⟩
   rw [hW] at hbf hk ⊢
   have d0 : W.cell? ⟨g + 1, 0, none⟩ = some (.int .u8 0) := hbf.val (i := 0) rfl
   have d1 : W.cell? ⟨g + 1, 1, none⟩ = some (.int .u64 0) := hbf.val (i := 1) rfl
   have d2 : W.cell? ⟨g + 1, 2, none⟩ = some (.int .i64 0) := hbf.val (i := 2) rfl
   have d3 : W.cell? ⟨g + 1, 3, none⟩ = some (.int .i64 0) := hbf.val (i := 3) rfl
   have d4 : W.cell? ⟨g + 1, 4, none⟩ = some (.int .i64 0) := hbf.val (i := 4) rfl
   show bodyPost Tryz.prog Tryz.f27 (fun e w' => e = Ending.returned re0.v ∧ Below w.heap.size w w') Exit.ret _ _
   exact bodyPost_ret (v := .agg #[.int .u8 0, .int .u64 0, .int .i64 0, .int .i64 0, .int .i64 0]) (by simp [results, Tryz.results27, go_sem, d0, d1, d2, d3, d4]) rfl ⟨rfl, HBW2.out.trans (hk.below (fun k hk' => by have h2 : k = g + 1 := hk'; omega) HBW2.out.size)⟩
 · rintro a' w' hf
   exact hf.elim
set_option maxRecDepth 100000 in
set_option maxHeartbeats 16000000 in
theorem awake20 (w : World) : Calls Tryz.prog 21 #[] w fun e w' => e = .returned (.bool true) ∧ Below w.heap.size w w' := by
 go_enter Tryz.func21, Tryz.ntmps21
 go_wp2_with fail
 refine (cdef_any _).mono ?_
 rintro e w1 ⟨rfl, hb1⟩
 have HB1 := Lib.hid hb1
 clear hb1
 go_wp2_with fail
 refine (fr_new Cf.dflt w1 dflt_fits).mono ?_
 rintro e w2 ⟨hc, hb2⟩
 rcases hc with ⟨hv, -⟩ | ⟨hv, f, O, N, n, Nc, nc, rfl, hN, hn, hco, hF, hO⟩
 · exact absurd (dflt_valid.symm.trans hv) (by decide)
 · obtain rfl : N = 4 := by have h4 : (4 : Int) = (N : Int) := hN; omega
   obtain rfl : n = 4 := by have h4 : (4 : Int) = (n : Int) := hn; omega
   obtain rfl : Nc = 4 := by have h4 : (4 : Int) = (Nc : Int) := hco.1; omega
   obtain rfl : nc = 64 := by have h4 : (64 : Int) = (nc : Int) := hco.2; omega
   have HF := Lib.hid hF
   have HO := Lib.hid (fun k hk => show w.heap.size ≤ k from by have := hO k hk; have := HB1.out.size; omega)
   have HB2 := Lib.hid (HB1.out.trans (hb2.mono HB1.out.size))
   clear hv hN hn hco hF hO hb2 HB1
   go_wp2_with fail
   refine (fl_begin HF.out 0 ⟨0, 0, 0, 9⟩).mono ?_
   rintro e w3 ⟨he, hst⟩
   replace he : e = .returned (.int .i64 0) := he
   subst he
   obtain ⟨O3, hF3, hO3, hk3⟩ := hst
   replace hF3 : FrL w3 f O3 (aws 0) := hF3
   have hb3 : Below w.heap.size w w3 := HB2.out.trans (hk3.below (fun k hk => HO.out k hk) HB2.out.size)
   have hO3' : ∀ k, O3 k → w.heap.size ≤ k := fun k hk => by rcases hO3 k hk with e | e; exact HO.out k e; have := HB2.out.size; omega
   obtain ⟨gq, hgq⟩ : ∃ g, w3.heap.size = g := ⟨_, rfl⟩
   have hab := ((Below.refl w3.heap.size w3).alloc (Nat.le_refl _) (.cells #[.int .i64 1, .int .i64 2, .int .i64 2, .int .i64 3, .int .i64 4, .int .i64 5, .int .i64 5, .int .i64 5, .int .i64 5, .int .i64 6, .int .i64 7, .int .i64 5, .int .i64 5, .int .i64 8] 3))
   have hF4 := hF3.below hab
   have hq4 : Blk (w3.alloc (.cells #[.int .i64 1, .int .i64 2, .int .i64 2, .int .i64 3, .int .i64 4, .int .i64 5, .int .i64 5, .int .i64 5, .int .i64 5, .int .i64 6, .int .i64 7, .int .i64 5, .int .i64 5, .int .i64 8] 3)) gq 3 #[.int .i64 1, .int .i64 2, .int .i64 2, .int .i64 3, .int .i64 4, .int .i64 5, .int .i64 5, .int .i64 5, .int .i64 5, .int .i64 6, .int .i64 7, .int .i64 5, .int .i64 5, .int .i64 8] := Blk.new_ hgq.symm
   have hb4 := hb3.trans (hab.mono hb3.size)
   have hn4 : ∀ x, O3 x → w.heap.size ≤ x ∧ x ≠ gq := fun x hx => ⟨hO3' x hx, fun e => by
     obtain ⟨⟨A, h1, h2⟩⟩ := hF3
     have := h1.own_lt ((h2 x).1 hx)
     omega⟩
   have HF4 := Lib.hid hF4
   have HQ4 := Lib.hid hq4
   have HB4 := Lib.hid hb4
   have HN4 := Lib.hid hn4
   clear hF3 hO3 hk3 hb3 hO3' hab hF4 hq4 hb4 hn4 HF HO HB2
   go_upto_region 5 with fail
   go_loopw [28] (fun s28 wr => ∃ (k : Nat) (Ok : Nat → Prop), k ≤ 14 ∧ s28 = .int .i64 (k : Int) ∧ FrL wr f Ok (aws k) ∧ (∀ x, Ok x → w.heap.size ≤ x ∧ x ≠ gq) ∧ Blk wr gq 3 #[.int .i64 1, .int .i64 2, .int .i64 2, .int .i64 3, .int .i64 4, .int .i64 5, .int .i64 5, .int .i64 5, .int .i64 5, .int .i64 6, .int .i64 7, .int .i64 5, .int .i64 5, .int .i64 8] ∧ Below w.heap.size w wr) (fun s _ => 14 - (intOf s).toNat)
   case atStart => exact ⟨0, O3, by omega, rfl, HF4.out, HN4.out, HQ4.out, HB4.out⟩
   case round =>
     obtain ⟨k, Ok, hk14, rfl, hF, hN, hQ, hB⟩ := hrel
     have HF := Lib.hid hF
     have HN := Lib.hid hN
     have HQ := Lib.hid hQ
     have HB := Lib.hid hB
     clear hF hN hQ hB HF4 HN4 HQ4 HB4 hgq
     by_cases hk : k < 14
     · have hw := aw_nx hk
       have hno := aw_no hk
       have hsix := aw_six hk
       obtain ⟨x, hx⟩ : ∃ x, awW k = x := ⟨_, rfl⟩
       have c1 : wr.cell? ⟨gq, k, none⟩ = some (.int .i64 x) := by rw [← hx]; exact HQ.out.val (aw_cells hk)
       have j1 : (k : Int) < 14 := by omega
       have j0 : (0 : Int) ≤ (k : Int) := by omega
       have hwh : whI (aws k) 0 = x := by rw [← hx, ← hw]; exact if_pos (aws_T k)
       have HWH := Lib.hid hwh
       have HNO := Lib.hid (show (srI (aws k) 0).2 = false from (congrArg Prod.snd (if_pos (aws_T k))).trans hno)
       have HSX := Lib.hid (show ((aws k).ca 0).nx = 6 → k = 9 from fun h => hsix (hw.symm.trans h))
       clear hw hno hsix hx hwh
       go_wp2_with fail
       refine (fl_where HF.out 0).mono ?_
       rw [HWH.out]
       rintro e w4 ⟨rfl, rfl⟩
       go_wp2_with fail
       refine (fl_step HF.out (aws_bd k) (by omega) 0 (fun _ h6 => by have h9 := HSX.out h6; subst h9; exact aws_do)).mono ?_
       rw [HNO.out, aws_st]
       obtain ⟨⟨ra, rk, rt, rc, rs⟩, hr⟩ : ∃ r, (srI (aws k) 0).1 = r := ⟨_, rfl⟩
       rw [hr]
       rintro e w4 ⟨rfl, O4, hF4, hO4, hk4⟩
       have HF4 := Lib.hid hF4
       have HN4 := Lib.hid (show ∀ y, O4 y → w.heap.size ≤ y ∧ y ≠ gq from fun y hy => by
         have hg := HQ.out.size
         have hs := HB.out.size
         rcases hO4 y hy with e | e
         · exact HN.out y e
         · exact ⟨by omega, by omega⟩)
       have HQ4 := Lib.hid (HQ.out.kept hk4 (fun e => (HN.out gq e).2 rfl))
       have HB4 := Lib.hid (HB.out.trans (hk4.below (fun y hy => (HN.out y hy).1) HB.out.size))
       clear hF4 hO4 hk4 hr HF HN HQ HB HWH HNO HSX c1
       go_wp2_with fail
       go_roundw
       case rel =>
         have hab := ((Below.refl w4.heap.size w4).alloc (Nat.le_refl _) (.cells #[.int .u8 ra, .int .u64 rk, .int .i64 rt, .int .i64 rc, .int .i64 rs] reT))
         exact ⟨k + 1, O4, by omega, by go_num, HF4.out.below hab, HN4.out, HQ4.out.below_ hab HQ4.out.size, HB4.out.trans (hab.mono HB4.out.size)⟩
       case measure => simp [intOf]; omega
     · obtain rfl : k = 14 := by omega
       have hsr : srI (aws 14) 0 = (⟨1, 1, 0, 0, 0⟩, true) := (if_pos (aws_T 14)).trans (aw_end.trans (by rw [first_R]))
       have HSR := Lib.hid hsr
       have HWH := Lib.hid (show whI (aws 15) 0 = 0 from (if_pos (aws_T 15)).trans aw_last.2)
       clear hsr
       go_wp2_with fail
       refine (fl_step HF.out (aws_bd 14) (by omega) 0 (fun _ h6 => absurd (aw_last.1.symm.trans h6) (by decide))).mono ?_
       rw [HSR.out, aws_st]
       rintro e w4 ⟨he, O4, hF4, hO4, hk4⟩
       replace he : e = .returned (.tuple #[.agg #[.int .u8 1, .int .u64 1, .int .i64 0, .int .i64 0, .int .i64 0], .bool true]) := he
       subst he
       have HF4 := Lib.hid hF4
       have HB4 := Lib.hid (HB.out.trans (hk4.below (fun y hy => (HN.out y hy).1) HB.out.size))
       clear hF4 hO4 hk4 HF HN HQ HB HSR
       go_upto_region 14 with fail
       have hab := ((Below.refl w4.heap.size w4).alloc (Nat.le_refl _) (.cells #[.int .u8 1, .int .u64 1, .int .i64 0, .int .i64 0, .int .i64 0] reT))
       refine wp_worldx (fun wx => FrL wx f O4 (aws 15) ∧ Blk wx w4.heap.size reT #[.int .u8 1, .int .u64 1, .int .i64 0, .int .i64 0, .int .i64 0] ∧ Below w.heap.size w wx) ⟨HF4.out.below hab, Blk.made w4 _ _, HB4.out.trans (hab.mono HB4.out.size)⟩ ?_
       clear hab
       obtain ⟨g4, hg4⟩ : ∃ g, w4.heap.size = g := ⟨_, rfl⟩
       rw [hg4]
       rintro w5 ⟨h1, h2, h3⟩
       have x0 : w5.cell? ⟨g4, 0, none⟩ = some (.int .u8 1) := h2.val (i := 0) rfl
       have HF5 := Lib.hid h1
       have HB5 := Lib.hid h3
       clear h1 h2 h3 hg4 HF4 HB4
       go_wp2_with (go_at_call 28; refine (fl_where HF5.out 0).mono ?_; rw [HWH.out]; rintro e w6 ⟨rfl, rfl⟩)
       go_ret
       exact ⟨rfl, HB5.out⟩
end Go.Proofs.YtcffeokbipjaoaaGreat
namespace Go.Proofs.YtcffeokbipjaoaaGreat
open Go.RowKit Go.ChangeShapes Go.WideShapes Go.Deep
set_option linter.unusedVariables false
section
variable {H : Type} {enc : TypeId × Value → H} {P : Program} {w : World} {base : Nat} {spare : Nat → Bool} {held : Bool}
theorem open_16 {r : Reach} {b0 : Nat} {t : TypeId} {f0 f1 f2 f3 f4 f5 f6 f7 f8 f9 f10 f11 f12 f13 f14 f15 : Field} {v : Value} {d : DataW H} {p : List MemPlace} (hs : P.underlying t = some (.struct #[f0, f1, f2, f3, f4, f5, f6, f7, f8, f9, f10, f11, f12, f13, f14, f15])) (hone : oneCellFields P #[f0, f1, f2, f3, f4, f5, f6, f7, f8, f9, f10, f11, f12, f13, f14, f15] = true) (hC : P.cellsOf t = 16)
   (hv : Value.okWide P w r b0 t v) (h : DataW.Trod enc P w base spare held t v d p) :
   ∃ (v0 v1 v2 v3 v4 v5 v6 v7 v8 v9 v10 v11 v12 v13 v14 v15 : Value) (y0 y1 y2 y3 y4 y5 y6 y7 y8 y9 y10 y11 y12 y13 y14 y15 : DataW H × List MemPlace) (n : Nat), v = .agg #[v0, v1, v2, v3, v4, v5, v6, v7, v8, v9, v10, v11, v12, v13, v14, v15] ∧
     DataW.trod enc P w base spare held n f0.type [v0] = some y0 ∧ DataW.trod enc P w base spare held n f1.type [v1] = some y1 ∧ DataW.trod enc P w base spare held n f2.type [v2] = some y2 ∧ DataW.trod enc P w base spare held n f3.type [v3] = some y3 ∧ DataW.trod enc P w base spare held n f4.type [v4] = some y4 ∧ DataW.trod enc P w base spare held n f5.type [v5] = some y5 ∧ DataW.trod enc P w base spare held n f6.type [v6] = some y6 ∧ DataW.trod enc P w base spare held n f7.type [v7] = some y7 ∧ DataW.trod enc P w base spare held n f8.type [v8] = some y8 ∧ DataW.trod enc P w base spare held n f9.type [v9] = some y9 ∧ DataW.trod enc P w base spare held n f10.type [v10] = some y10 ∧ DataW.trod enc P w base spare held n f11.type [v11] = some y11 ∧ DataW.trod enc P w base spare held n f12.type [v12] = some y12 ∧ DataW.trod enc P w base spare held n f13.type [v13] = some y13 ∧ DataW.trod enc P w base spare held n f14.type [v14] = some y14 ∧ DataW.trod enc P w base spare held n f15.type [v15] = some y15 := by
 obtain ⟨cs, rfl, hsz⟩ := okWide_struct hs hv
 obtain ⟨l⟩ := cs
 match l, hsz.trans hC with
 | [c0, c1, c2, c3, c4, c5, c6, c7, c8, c9, c10, c11, c12, c13, c14, c15], _ =>
   obtain ⟨fuel, hf⟩ := h
   obtain ⟨xs, n, _, hx, _, hlen, hg⟩ := DataW.trod_struct hs hf
   obtain ⟨o0, k0⟩ := Go.Deep.hone_of hone 0 f0 rfl
   obtain ⟨o1, k1⟩ := Go.Deep.hone_of hone 1 f1 rfl
   obtain ⟨o2, k2⟩ := Go.Deep.hone_of hone 2 f2 rfl
   obtain ⟨o3, k3⟩ := Go.Deep.hone_of hone 3 f3 rfl
   obtain ⟨o4, k4⟩ := Go.Deep.hone_of hone 4 f4 rfl
   obtain ⟨o5, k5⟩ := Go.Deep.hone_of hone 5 f5 rfl
   obtain ⟨o6, k6⟩ := Go.Deep.hone_of hone 6 f6 rfl
   obtain ⟨o7, k7⟩ := Go.Deep.hone_of hone 7 f7 rfl
   obtain ⟨o8, k8⟩ := Go.Deep.hone_of hone 8 f8 rfl
   obtain ⟨o9, k9⟩ := Go.Deep.hone_of hone 9 f9 rfl
   obtain ⟨o10, k10⟩ := Go.Deep.hone_of hone 10 f10 rfl
   obtain ⟨o11, k11⟩ := Go.Deep.hone_of hone 11 f11 rfl
   obtain ⟨o12, k12⟩ := Go.Deep.hone_of hone 12 f12 rfl
   obtain ⟨o13, k13⟩ := Go.Deep.hone_of hone 13 f13 rfl
   obtain ⟨o14, k14⟩ := Go.Deep.hone_of hone 14 f14 rfl
   obtain ⟨o15, k15⟩ := Go.Deep.hone_of hone 15 f15 rfl
   match xs, hlen with
   | [y0, y1, y2, y3, y4, y5, y6, y7, y8, y9, y10, y11, y12, y13, y14, y15], _ =>
     exact ⟨c0, c1, c2, c3, c4, c5, c6, c7, c8, c9, c10, c11, c12, c13, c14, c15, y0, y1, y2, y3, y4, y5, y6, y7, y8, y9, y10, y11, y12, y13, y14, y15, n, rfl, by simpa [Value.cells, o0, k0] using hg 0 f0 rfl, by simpa [Value.cells, o1, k1] using hg 1 f1 rfl, by simpa [Value.cells, o2, k2] using hg 2 f2 rfl, by simpa [Value.cells, o3, k3] using hg 3 f3 rfl, by simpa [Value.cells, o4, k4] using hg 4 f4 rfl, by simpa [Value.cells, o5, k5] using hg 5 f5 rfl, by simpa [Value.cells, o6, k6] using hg 6 f6 rfl, by simpa [Value.cells, o7, k7] using hg 7 f7 rfl, by simpa [Value.cells, o8, k8] using hg 8 f8 rfl, by simpa [Value.cells, o9, k9] using hg 9 f9 rfl, by simpa [Value.cells, o10, k10] using hg 10 f10 rfl, by simpa [Value.cells, o11, k11] using hg 11 f11 rfl, by simpa [Value.cells, o12, k12] using hg 12 f12 rfl, by simpa [Value.cells, o13, k13] using hg 13 f13 rfl, by simpa [Value.cells, o14, k14] using hg 14 f14 rfl, by simpa [Value.cells, o15, k15] using hg 15 f15 rfl⟩
end
end Go.Proofs.YtcffeokbipjaoaaGreat
namespace Go.Proofs.YtcffeokbipjaoaaGreat
open Go.RowKit Go.ChangeShapes Go.WideShapes Go.Deep
set_option linter.unusedVariables false
section
variable {H : Type} {enc : TypeId × Value → H} {P : Program} {w : World} {base : Nat} {spare : Nat → Bool} {held : Bool}
theorem open_four {r : Reach} {b0 : Nat} {t : TypeId} {f0 f1 f2 f3 : Field} {v : Value} {d : DataW H} {p : List MemPlace} (hs : P.underlying t = some (.struct #[f0, f1, f2, f3])) (hone : oneCellFields P #[f0, f1, f2, f3] = true) (hC : P.cellsOf t = 4)
   (hv : Value.okWide P w r b0 t v) (h : DataW.Trod enc P w base spare held t v d p) :
   ∃ (v0 v1 v2 v3 : Value) (y0 y1 y2 y3 : DataW H × List MemPlace) (n : Nat), v = .agg #[v0, v1, v2, v3] ∧
     DataW.trod enc P w base spare held n f0.type [v0] = some y0 ∧ DataW.trod enc P w base spare held n f1.type [v1] = some y1 ∧ DataW.trod enc P w base spare held n f2.type [v2] = some y2 ∧ DataW.trod enc P w base spare held n f3.type [v3] = some y3 := by
 obtain ⟨cs, rfl, hsz⟩ := okWide_struct hs hv
 obtain ⟨l⟩ := cs
 match l, hsz.trans hC with
 | [c0, c1, c2, c3], _ =>
   obtain ⟨fuel, hf⟩ := h
   obtain ⟨xs, n, _, hx, _, hlen, hg⟩ := DataW.trod_struct hs hf
   obtain ⟨o0, k0⟩ := Go.Deep.hone_of hone 0 f0 rfl
   obtain ⟨o1, k1⟩ := Go.Deep.hone_of hone 1 f1 rfl
   obtain ⟨o2, k2⟩ := Go.Deep.hone_of hone 2 f2 rfl
   obtain ⟨o3, k3⟩ := Go.Deep.hone_of hone 3 f3 rfl
   match xs, hlen with
   | [y0, y1, y2, y3], _ =>
     exact ⟨c0, c1, c2, c3, y0, y1, y2, y3, n, rfl, by simpa [Value.cells, o0, k0] using hg 0 f0 rfl, by simpa [Value.cells, o1, k1] using hg 1 f1 rfl, by simpa [Value.cells, o2, k2] using hg 2 f2 rfl, by simpa [Value.cells, o3, k3] using hg 3 f3 rfl⟩
end
end Go.Proofs.YtcffeokbipjaoaaGreat
