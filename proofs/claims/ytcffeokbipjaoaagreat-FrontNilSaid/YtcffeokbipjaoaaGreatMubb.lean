/- Texts of this claim, one behind the other: Crh Cql Cqn. -/
import Derived.Test.YtcffeokbipjaoaaGreatMuba
namespace Go.Proofs.YtcffeokbipjaoaaGreat
open Go.ChangeShapes Go.WideShapes Go.RowKit Go.Sort Kn
set_option linter.unusedVariables false
set_option linter.unusedSimpArgs false
open Classical in
noncomputable def keepQ (E : Int) (L : List Qu) : List Qu := L.filter fun x => !decide (loQ E x)
section
variable {E : Int} {L : List Qu} {j : Nat}
end
section
variable {w w' : World} {g o B n m : Nat} {cur : Array Value} {h a b c d e : Int} {T : TypeId}
end
end Go.Proofs.YtcffeokbipjaoaaGreat
namespace Go.Proofs.YtcffeokbipjaoaaGreat
open Go.ChangeShapes Go.WideShapes Go.RowKit Kn
set_option linter.unusedVariables false
set_option linter.unusedSimpArgs false
section
variable {w w' w'' : World} {p q gc gm l g b : Nat} {r r' : Option Nat} {O Oq Oq' O1 : Nat → Prop} {S S' : Cor} {T : TypeId} {cs : Array Value}
set_option maxRecDepth 100000 in
set_option maxHeartbeats 4000000 in
theorem co_end_idle (h : CoreL w p O S) (hph : S.ph ≠ 1) :
   Calls Tryz.prog 47 #[.pointer (some ⟨p, 0, none⟩)] w fun e w' => e = .returned (.tuple #[]) ∧ Below w.heap.size w w' := by
 obtain ⟨q, gc, gm, l, r, Oq, h1, -⟩ := h.cells
 have c23 := h1.c23
 have h2 : (S.ph == 1) = false := by rw [beq_eq_false_iff_ne]; exact hph
 have h3 : (S.ph != 1) = true := by rw [bne, h2]; rfl
 have h4 : decide (S.ph = 1) = false := decide_eq_false hph
 clear h h1
 go_enter Tryz.func47, Tryz.ntmps47
 go_upto_region 0 with fail
 go_quiet (fail)
 go_wp2
 exact bodyPost_ret (results_none rfl _ _ _) rfl ⟨rfl, ⟨rfl, rfl, rfl, Nat.le_refl _, fun _ _ => rfl⟩⟩
set_option maxRecDepth 100000 in
set_option maxHeartbeats 4000000 in
theorem co_end_wait (h : CoreL w p O S) (hph : S.ph = 1) (hc : S.clk < S.lim) (hq : S.q.m < S.n) :
   Calls Tryz.prog 47 #[.pointer (some ⟨p, 0, none⟩)] w fun e w' => e = .returned (.tuple #[]) ∧ Below w.heap.size w w' := by
 obtain ⟨q, gc, gm, l, r, Oq, h1, -⟩ := h.cells
 have c23 := h1.c23
 have c24 := h1.c24
 have c25 := h1.c25
 have c16 := h1.c16
 have hp : p < w.heap.size := h1.head.size
 rw [hph] at c23
 have HQ := Lib.hid h1.que
 obtain ⟨x, hx⟩ : ∃ x, (S.n : Int) - S.q.m = x := ⟨_, rfl⟩
 have hx2 : decide (0 < x) = true := decide_eq_true (by omega)
 have hx3 : decide (S.clk < S.lim) = true := decide_eq_true hc
 have hx4 : 0 < x := by omega
 have HX := Lib.hid hx
 clear h h1 hx
 go_enter Tryz.func47, Tryz.ntmps47
 go_upto_region 0 with fail
 go_region_held3 (fun w' => w'.cell? ⟨p, 16, none⟩ = some (.pointer (some ⟨q, 0, none⟩)) ∧ w'.cell? ⟨p, 23, none⟩ = some (.int .u8 1) ∧ w'.cell? ⟨p, 24, none⟩ = some (.int .i64 S.lim) ∧ w'.cell? ⟨p, 25, none⟩ = some (.int .i64 S.clk)) (repeat (first | with_reducible assumption | refine ⟨?_, ?_⟩ | with_reducible refine kdrew ?_)) (first | (go_at_call 87; refine (tq_len (HQ.out.below (Below.drew (Below.refl _ _))).toL).mono ?_; rw [HX.out]; rintro e w1 ⟨rfl, hb⟩; have d1 : w1.cell? ⟨p, 16, none⟩ = some (.pointer (some ⟨q, 0, none⟩)) := (hb.cell hp).trans c16; have d2 : w1.cell? ⟨p, 23, none⟩ = some (.int .u8 1) := (hb.cell hp).trans c23; have d3 : w1.cell? ⟨p, 24, none⟩ = some (.int .i64 S.lim) := (hb.cell hp).trans c24; have d4 : w1.cell? ⟨p, 25, none⟩ = some (.int .i64 S.clk) := (hb.cell hp).trans c25; have HB := Lib.hid hb; clear hb))
 go_wp2
 exact bodyPost_ret (results_none rfl _ _ _) rfl ⟨rfl, (Below.drew (Below.refl _ _)).trans HB.out⟩
end
end Go.Proofs.YtcffeokbipjaoaaGreat
namespace Go.Proofs.YtcffeokbipjaoaaGreat
open Go.ChangeShapes Go.WideShapes Go.RowKit Kn
set_option linter.unusedVariables false
set_option linter.unusedSimpArgs false
def clkS (S : Cor) (now : Int) : Cor := { S with clk := max S.clk now }
theorem clkS_ok {S : Cor} {now : Int} (h : S.ok) (hn : I64_ now) : (clkS S now).ok := by
 obtain ⟨a1, a2, a3, a4, a5, a6, a7, a8, a9, a10, a11, a12, a13, a14, a15, a16, a17⟩ := h
 refine ⟨a1, a2, a3, a4, a5, a6, a7, a8, a9, a10, a11, a12, ?_, a14, a15, a16, a17⟩
 unfold clkS
 dsimp only
 unfold I64_ at *
 omega
def EndOk (E : Cor → Cor) (S : Cor) : Prop := ∀ (w : World) (p : Nat) (O : Nat → Prop), CoreL w p O S → Calls Tryz.prog 47 #[.pointer (some ⟨p, 0, none⟩)] w fun e w' => e = .returned (.tuple #[]) ∧ CStep w p O (E S) w'
section
variable {w w' w'' : World} {p q gc gm l g b : Nat} {r r' : Option Nat} {O Oq Oq' O1 : Nat → Prop} {S S' : Cor} {T : TypeId} {cs : Array Value}
theorem CoreL.p_mem (h : CoreL w p O S) : O p := by obtain ⟨q, gc, gm, l, r, Oq, h1, h2⟩ := h.cells; exact (h2 p).2 (.inl rfl)
theorem CoreL.clk_ {now : Int} (h : CoreL w p O S) (hn : I64_ now) : CoreL (w.setCell ⟨p, 25, none⟩ (.int .i64 (clkS S now).clk)) p O (clkS S now) := by
 obtain ⟨q, gc, gm, l, r, Oq, h1, h2⟩ := h.cells
 exact ⟨⟨q, gc, gm, l, r, Oq, h1.set_ 25 _ rfl (clkS_ok h1.ok hn) rfl rfl rfl rfl rfl rfl rfl, h2⟩⟩
theorem index_f0 (W : World) : (Instr.index 100 (.agg #[.func (.func 83) #[] #[], .func (.func 84) #[] #[], .func (.func 85) #[] #[], .func (.func 86) #[] #[]]) (.int .u8 0)).run Tryz.prog W = .ok (.func (.func 83) #[] #[]) W := by kernel_rfl
theorem store_fnc (a : Addr) (fn : Fn) (x y : Array Value) (w : World) : Sem.run Tryz.prog (store a (.func fn x y)) w = stored Tryz.prog w a (.func fn x y) .plain := run_store Tryz.prog w a _ _ rfl
theorem co_effects (w : World) : Calls Tryz.prog 46 #[] w fun e w' => e = .returned (.agg #[.func (.func 83) #[] #[], .func (.func 84) #[] #[], .func (.func 85) #[] #[], .func (.func 86) #[] #[]]) ∧ Below w.heap.size w w' := by
 have hst := store_fnc
 go_enter Tryz.func46, Tryz.ntmps46
 go_wp2
 refine bodyPost_ret (v := .agg #[.func (.func 83) #[] #[], .func (.func 84) #[] #[], .func (.func 85) #[] #[], .func (.func 86) #[] #[]]) (by simp [results, Tryz.results46, go_sem]) rfl ⟨rfl, ?_⟩
 repeat (first | with_reducible exact Below.refl _ _ | refine Below.setCell ?_ (by simp) _ | refine Below.alloc ?_ (by simp) _)
set_option maxRecDepth 100000 in
set_option maxHeartbeats 8000000 in
theorem co_do_submit {E : Cor → Cor} {S3 : Cor} {r0 r1 r2 r3 r4 : Int} (now b c d : Int) (h : CoreL w p O S) (hn : I64_ now) (hK : S.K ≤ 900) (hr : refuseE (clkS S now) 0 b c d = 0) (he1 : EndOk E (settleAll (clkS S now) 2 (dueL (clkS S now))))
   (hF : ∀ (wq : World) (Oq : Nat → Prop), CoreL wq p Oq (E (settleAll (clkS S now) 2 (dueL (clkS S now)))) → Calls Tryz.prog 83 #[.pointer (some ⟨p, 0, none⟩), opv 0 b c d] wq fun e w' => e = .returned (resv r0 r1 r2 r3 r4) ∧ CStep wq p Oq S3 w') (he2 : EndOk E S3) :
   Calls Tryz.prog 15 #[.pointer (some ⟨p, 0, none⟩), .int .i64 now, opv 0 b c d] w fun e w' => e = .returned (resv r0 r1 r2 r3 r4) ∧ CStep w p O (E S3) w' := by
 obtain ⟨S2, hS2⟩ : ∃ S2, E (settleAll (clkS S now) 2 (dueL (clkS S now))) = S2 := ⟨_, rfl⟩
 have hsw := fun (wq : World) (Oq : Nat → Prop) (hq : CoreL wq p Oq (clkS S now)) => co_sweep (E := E) hq (show S.K ≤ 1000 by omega) (fun w1 O1 hq1 => he1 w1 p O1 hq1)
 rw [hS2] at hF hsw
 unfold resv opv at hF
 have HRF := Lib.hid hr
 have HSW := Lib.hid hsw
 have HF := Lib.hid hF
 have HE2 := Lib.hid he2
 clear hr hsw hF he1 he2 hS2
 unfold resv
 obtain ⟨q, gc, gm, l, r, Oq, h1, hO⟩ := h.cells
 have hOs : ∀ k, O k → k < w.heap.size := fun k hk => h.lt hk
 have hp : p < w.heap.size := h1.head.size
 have HC := Lib.hid h
 have HB := Lib.hid h1
 have HOS := Lib.hid hOs
 have HNOW := Lib.hid hn
 unfold opv
 clear h h1 hOs hO hn
 obtain ⟨W0, hW0⟩ : ∃ W, (w.alloc (.cells #[.int .u8 0, .int .i64 b, .int .i64 c, .int .i64 d] opT)).alloc (.cells #[.int .u8 0, .int .u64 0, .int .i64 0, .int .i64 0, .int .i64 0] resT) = W := ⟨_, rfl⟩
 have hb0 : Below w.heap.size w W0 := by rw [← hW0]; exact ((Below.refl _ _).alloc (Nat.le_refl _) _).alloc (by simp) _
 have hx0 : Blk W0 w.heap.size opT #[.int .u8 0, .int .i64 b, .int .i64 c, .int .i64 d] := by
   rw [← hW0]; exact (Blk.made w _ _).below_ ((Below.refl _ _).alloc (Nat.le_refl _) _) (by simp)
 have hy0 : Blk W0 (w.heap.size + 1) resT #[.int .u8 0, .int .u64 0, .int .i64 0, .int .i64 0, .int .i64 0] := by
   have := Blk.made (w.alloc (.cells #[.int .u8 0, .int .i64 b, .int .i64 c, .int .i64 d] opT)) resT #[.int .u8 0, .int .u64 0, .int .i64 0, .int .i64 0, .int .i64 0]
   rw [hW0] at this
   simpa using this
 have hz0 : W0.heap.size = w.heap.size + 2 := by rw [← hW0]; simp
 have hL0 := HC.out.below hb0
 have hB0 := HB.out.below hb0
 have c25 := hB0.c25
 have f25 := hB0.head.free 25
 obtain ⟨g, hg⟩ : ∃ g, w.heap.size = g := ⟨_, rfl⟩
 rw [hg] at hx0 hy0
 have hg1 : ¬ O g := fun hc => by have := HOS.out g hc; omega
 have hg2 : ¬ O (g + 1) := fun hc => by have := HOS.out _ hc; omega
 have hgp : g ≠ p := by omega
 have hgp2 : g + 1 ≠ p := by omega
 obtain ⟨ck, hck⟩ : ∃ ck, (clkS S now).clk = ck := ⟨_, rfl⟩
 obtain ⟨W1, hW1⟩ : ∃ W, W0.setCell ⟨p, 25, none⟩ (.int .i64 ck) = W := ⟨_, rfl⟩
 have hL1 := hL0.clk_ HNOW.out
 rw [hck, hW1] at hL1
 have hk1 : Kept (fun k => k = p) W0 W1 := by rw [← hW1]; exact Kept.set_ (own := fun k => k = p) (Kept.refl _ _) (p := ⟨p, 25, none⟩) (.inl rfl) _
 have hx1 := hx0.kept hk1 hgp
 have hy1 := hy0.kept hk1 hgp2
 have hst1 : CStep W0 p O (clkS S now) W1 := ⟨O, hL1, fun k hk => .inl hk, hk1.more fun k _ hk => hk ▸ HC.out.p_mem⟩
 have hmx : max S.clk now = ck := hck
 have HMX := Lib.hid hmx
 have HG := Lib.hid hg
 have HB0 := Lib.hid hb0
 have HX1 := Lib.hid hx1
 have HY0 := Lib.hid hy0
 have HX0 := Lib.hid hx0
 have HKW := Lib.hid (hk1.more (own' := O) fun k _ hk => hk ▸ HC.out.p_mem)
 have HY1 := Lib.hid hy1
 have HZ0 := Lib.hid hz0
 have HL1 := Lib.hid hL1
 have HN1 := Lib.hid hg1
 have HN2 := Lib.hid hg2
 have HST1 := Lib.hid hst1
 clear hb0 hx0 hy0 hz0 hL0 hB0 hg1 hg2 hgp hgp2 hck hL1 hk1 hx1 hy1 hst1
 -- the end: an answer is put into the box
 have fin : ∀ (wq : World) (S1 : Cor) (x0 x1 x2 x3 x4 : Value) (wz : World), CStep W0 p O S1 wq → wz = put5 wq (g + 1) x0 x1 x2 x3 x4 → CStep w p O S1 wz ∧ Blk wz (g + 1) resT #[x0, x1, x2, x3, x4] := by
   intro wq S1 x0 x1 x2 x3 x4 wz hs hz
   have hy := (hs.blk (b := g + 1) (HY0.out) HN2.out)
   subst hz
   exact ⟨hs.box_ HB0.out hy resT_not (by have := HG.out; omega) (by have := HZ0.out; have := HG.out; omega) HN2.out put5_kept, put5_blk hy⟩
 have FIN := Lib.hid fin
 clear fin
 have x0 : W1.cell? ⟨g, 0, none⟩ = some (.int .u8 0) := HX1.out.val rfl
 have x1 : W1.cell? ⟨g, 1, none⟩ = some (.int .i64 b) := HX1.out.val rfl
 have x2 : W1.cell? ⟨g, 2, none⟩ = some (.int .i64 c) := HX1.out.val rfl
 have x3 : W1.cell? ⟨g, 3, none⟩ = some (.int .i64 d) := HX1.out.val rfl
 go_enter Tryz.func15, Tryz.ntmps15
 go_upto_region 4 with fail
 (try rw [hmx])
 (try rw [hW1])
 clear hmx hW1 hW0 hg c25 f25
 go_wp2_with fail
 refine (co_refusal 0 b c d HL1.out).mono ?_
 rintro e w2 ⟨rfl, hb2⟩
 have hst2 := HST1.out.below hb2
 have hx2 := HX1.out.below_ hb2 HX1.out.size
 have hy2 := HY1.out.below_ hb2 HY1.out.size
 have HST2 := Lib.hid hst2
 have HBW2 := Lib.hid hb2
 have HL2 := Lib.hid (HL1.out.below hb2)
 have HX2 := Lib.hid hx2
 have HY2 := Lib.hid hy2
 clear hst2 hx2 hy2 hb2 x0 x1 x2 x3
 rw [HRF.out]
 have hkw2 : Kept O W0 w2 := HKW.out.trans (Kept.of_below HBW2.out)
 have HKW2 := Lib.hid hkw2
 clear hkw2
 go_wp2_with fail
 refine (HSW.out _ _ HL2.out).mono ?_
 rintro e w3 ⟨rfl, hs3⟩
 obtain ⟨O3, hL3, hO3, hk3⟩ := CStep.then_ (fun k hk => .inl hk) HKW2.out hs3
 have hn3 : ¬ O3 g := fun hc => by
   rcases hO3 g hc with e | e
   · exact HN1.out e
   · have := HZ0.out; have := HG.out; omega
 have hx3 := HX0.out.kept hk3 HN1.out
 have HX3 := Lib.hid hx3
 have HL3 := Lib.hid hL3
 have HO3 := Lib.hid hO3
 have HK3 := Lib.hid hk3
 have HN3 := Lib.hid hn3
 have x0 : w3.cell? ⟨g, 0, none⟩ = some (.int .u8 0) := hx3.val rfl
 have x1 : w3.cell? ⟨g, 1, none⟩ = some (.int .i64 b) := hx3.val rfl
 have x2 : w3.cell? ⟨g, 2, none⟩ = some (.int .i64 c) := hx3.val rfl
 have x3 : w3.cell? ⟨g, 3, none⟩ = some (.int .i64 d) := hx3.val rfl
 have hgs : g < w3.heap.size := klt x0
 have hix := index_f0
 clear hs3 hL3 hO3 hk3 hn3 hx3
 have hn3s : ∀ k, O3 k → k < w3.heap.size := fun k hk => HL3.out.lt hk
 have HN3S := Lib.hid hn3s
 clear hn3s
 go_upto_region 10 with fail
 go_cut [8] (fun s8 wx => ∃ (g8 : Nat) (O5 : Nat → Prop), s8 = .pointer (some ⟨g8, 0, none⟩) ∧ CoreL wx p O5 S3 ∧ (∀ k, O5 k → O3 k ∨ w3.heap.size ≤ k) ∧ Kept O3 w3 wx ∧ Blk wx g8 resT #[.int .u8 r0, .int .u64 r1, .int .i64 r2, .int .i64 r3, .int .i64 r4] ∧ ¬ O5 g8 ∧ w3.heap.size ≤ g8)
 case first =>
   go_region_held3 (fun w' => w'.cell? ⟨g, 0, none⟩ = some (.int .u8 0) ∧ w'.cell? ⟨g, 1, none⟩ = some (.int .i64 b) ∧ w'.cell? ⟨g, 2, none⟩ = some (.int .i64 c) ∧ w'.cell? ⟨g, 3, none⟩ = some (.int .i64 d)) (repeat (first | with_reducible assumption | refine ⟨?_, ?_⟩ | with_reducible refine kdrew ?_ | with_reducible refine kalloc ?_ _ | refine kset ?_ (by (try simp); (try omega))))
     (first
      | (go_at_call 46; refine (co_effects _).mono ?_; rintro e w4 ⟨rfl, hb4⟩; have HB4 := Lib.hid ((Below.drew (Below.refl w3.heap.size w3)).trans hb4); have e0 : w4.cell? ⟨g, 0, none⟩ = some (.int .u8 0) := (HB4.out.cell hgs).trans x0; have e1 : w4.cell? ⟨g, 1, none⟩ = some (.int .i64 b) := (HB4.out.cell hgs).trans x1; have e2 : w4.cell? ⟨g, 2, none⟩ = some (.int .i64 c) := (HB4.out.cell hgs).trans x2; have e3 : w4.cell? ⟨g, 3, none⟩ = some (.int .i64 d) := (HB4.out.cell hgs).trans x3; have hg4 : g < w4.heap.size := klt e0; have HL4 := Lib.hid (HL3.out.below HB4.out); clear hb4)
      | (go_at_call 46; refine (co_effects _).mono ?_; rintro e w4 ⟨rfl, hb4⟩; have hbx := (((Below.drew (Below.refl w3.heap.size w3)).alloc (Nat.le_refl _) (.cells #[.int .u8 0, .int .u64 0, .int .i64 0, .int .i64 0, .int .i64 0] resT)).trans (hb4.mono (by simp))); have HB4 := Lib.hid hbx; have e0 : w4.cell? ⟨g, 0, none⟩ = some (.int .u8 0) := (HB4.out.cell hgs).trans x0; have e1 : w4.cell? ⟨g, 1, none⟩ = some (.int .i64 b) := (HB4.out.cell hgs).trans x1; have e2 : w4.cell? ⟨g, 2, none⟩ = some (.int .i64 c) := (HB4.out.cell hgs).trans x2; have e3 : w4.cell? ⟨g, 3, none⟩ = some (.int .i64 d) := (HB4.out.cell hgs).trans x3; have hg4 : g < w4.heap.size := klt e0; have HL4 := Lib.hid (HL3.out.below HB4.out); have B8 := Lib.hid ((show Blk _ w3.heap.size resT #[.int .u8 0, .int .u64 0, .int .i64 0, .int .i64 0, .int .i64 0] from Blk.made w3.drew resT #[.int .u8 0, .int .u64 0, .int .i64 0, .int .i64 0, .int .i64 0]).below_ hb4 (by simp)); clear hb4 hbx)
      | (go_at_call 83; refine (HF.out _ _ HL4.out).mono ?_; rintro e w5 ⟨rfl, hs5⟩; have B9 := B8.out; obtain ⟨O5, hL5, hO5, hk5⟩ := hs5; have f0 : w5.cell? ⟨g, 0, none⟩ = some (.int .u8 0) := (hk5.cell_ hg4 HN3.out).trans e0; have f1 : w5.cell? ⟨g, 1, none⟩ = some (.int .i64 b) := (hk5.cell_ hg4 HN3.out).trans e1; have f2 : w5.cell? ⟨g, 2, none⟩ = some (.int .i64 c) := (hk5.cell_ hg4 HN3.out).trans e2; have f3 : w5.cell? ⟨g, 3, none⟩ = some (.int .i64 d) := (hk5.cell_ hg4 HN3.out).trans e3; have hg5 : g < w5.heap.size := klt f0; have hb9 := B9.kept hk5 (fun hc => Nat.lt_irrefl _ (HN3S.out _ hc)); have y0 : w5.cell? ⟨w3.heap.size, 0, none⟩ = some (.int .u8 0) := hb9.val rfl; have yz0 : w5.frozen? ⟨w3.heap.size, 0, none⟩ = false := hb9.free 0; have y1 : w5.cell? ⟨w3.heap.size, 1, none⟩ = some (.int .u64 0) := hb9.val rfl; have yz1 : w5.frozen? ⟨w3.heap.size, 1, none⟩ = false := hb9.free 1; have y2 : w5.cell? ⟨w3.heap.size, 2, none⟩ = some (.int .i64 0) := hb9.val rfl; have yz2 : w5.frozen? ⟨w3.heap.size, 2, none⟩ = false := hb9.free 2; have y3 : w5.cell? ⟨w3.heap.size, 3, none⟩ = some (.int .i64 0) := hb9.val rfl; have yz3 : w5.frozen? ⟨w3.heap.size, 3, none⟩ = false := hb9.free 3; have y4 : w5.cell? ⟨w3.heap.size, 4, none⟩ = some (.int .i64 0) := hb9.val rfl; have yz4 : w5.frozen? ⟨w3.heap.size, 4, none⟩ = false := hb9.free 4; have hgn : w3.heap.size ≠ g := (by omega); have hz9 : w3.heap.size < w5.heap.size := klt y0; have HL5 := Lib.hid hL5; have HO5 := Lib.hid hO5; have HK5 := Lib.hid hk5; have HB9 := Lib.hid hb9; clear hL5 hO5 hk5 hb9 B9)
      | (go_at_call 83; refine (HF.out _ _ HL4.out).mono ?_; rintro e w5 ⟨rfl, hs5⟩; obtain ⟨O5, hL5, hO5, hk5⟩ := hs5; have f0 : w5.cell? ⟨g, 0, none⟩ = some (.int .u8 0) := (hk5.cell_ hg4 HN3.out).trans e0; have f1 : w5.cell? ⟨g, 1, none⟩ = some (.int .i64 b) := (hk5.cell_ hg4 HN3.out).trans e1; have f2 : w5.cell? ⟨g, 2, none⟩ = some (.int .i64 c) := (hk5.cell_ hg4 HN3.out).trans e2; have f3 : w5.cell? ⟨g, 3, none⟩ = some (.int .i64 d) := (hk5.cell_ hg4 HN3.out).trans e3; have hg5 : g < w5.heap.size := klt f0; have HL5 := Lib.hid hL5; have HO5 := Lib.hid hO5; have HK5 := Lib.hid hk5; clear hL5 hO5 hk5)
      | (go_at_call 83; refine (HF.out _ _ (HL4.out.below ((Below.refl _ _).alloc (Nat.le_refl _) _))).mono ?_; rintro e w5 ⟨rfl, hs5⟩; obtain ⟨O5, hL5, hO5, hk5⟩ := hs5; have hk6 := kept_step (O := O3) (Kept.of_below ((Below.refl _ w4).alloc (Nat.le_refl _) (.cells #[.int .u8 0, .int .u64 0, .int .i64 0, .int .i64 0, .int .i64 0] resT))) (fun k hk => .inl hk) hk5; have f0 : w5.cell? ⟨g, 0, none⟩ = some (.int .u8 0) := (hk6.cell_ hg4 HN3.out).trans e0; have f1 : w5.cell? ⟨g, 1, none⟩ = some (.int .i64 b) := (hk6.cell_ hg4 HN3.out).trans e1; have f2 : w5.cell? ⟨g, 2, none⟩ = some (.int .i64 c) := (hk6.cell_ hg4 HN3.out).trans e2; have f3 : w5.cell? ⟨g, 3, none⟩ = some (.int .i64 d) := (hk6.cell_ hg4 HN3.out).trans e3; have hg5 : g < w5.heap.size := klt f0; have hb9 := (show Blk _ w4.heap.size resT #[.int .u8 0, .int .u64 0, .int .i64 0, .int .i64 0, .int .i64 0] from Blk.made w4 resT #[.int .u8 0, .int .u64 0, .int .i64 0, .int .i64 0, .int .i64 0]).kept hk5 (fun hc => by have := HN3S.out _ hc; have := HB4.out.size; omega); have y0 : w5.cell? ⟨w4.heap.size, 0, none⟩ = some (.int .u8 0) := hb9.val rfl; have yz0 : w5.frozen? ⟨w4.heap.size, 0, none⟩ = false := hb9.free 0; have y1 : w5.cell? ⟨w4.heap.size, 1, none⟩ = some (.int .u64 0) := hb9.val rfl; have yz1 : w5.frozen? ⟨w4.heap.size, 1, none⟩ = false := hb9.free 1; have y2 : w5.cell? ⟨w4.heap.size, 2, none⟩ = some (.int .i64 0) := hb9.val rfl; have yz2 : w5.frozen? ⟨w4.heap.size, 2, none⟩ = false := hb9.free 2; have y3 : w5.cell? ⟨w4.heap.size, 3, none⟩ = some (.int .i64 0) := hb9.val rfl; have yz3 : w5.frozen? ⟨w4.heap.size, 3, none⟩ = false := hb9.free 3; have y4 : w5.cell? ⟨w4.heap.size, 4, none⟩ = some (.int .i64 0) := hb9.val rfl; have yz4 : w5.frozen? ⟨w4.heap.size, 4, none⟩ = false := hb9.free 4; have hgn : w4.heap.size ≠ g := (by omega); have hz9 : w4.heap.size < w5.heap.size := klt y0; have HL5 := Lib.hid hL5; have HO5 := Lib.hid hO5; have HK5 := Lib.hid hk6; have HB9 := Lib.hid hb9; clear hL5 hO5 hk5 hk6 hb9))
   all_goals (try go_wp2)
   all_goals go_meet
   all_goals (have k35 := kept_step (Kept.of_below (own := O3) HB4.out) (fun k hk => .inl hk) HK5.out)
   all_goals (have s34 := HB4.out.size)
   all_goals (have o35 : ∀ k, O5 k → O3 k ∨ w3.heap.size ≤ k := (fun k hk => by
     have h5 := HO5.out k hk
     (try simp at h5)
     rcases h5 with e | e
     · exact .inl e
     · right; omega))
   all_goals (first
     | (refine ⟨w5.heap.size, O5, rfl, ?_⟩
        exact ⟨HL5.out.below ((Below.refl _ _).alloc (Nat.le_refl _) _), o35, k35.trans (Kept.of_below ((Below.refl _ _).alloc (Nat.le_refl _) _)), Blk.made _ _ _, fun hc => Nat.lt_irrefl _ (HL5.out.lt hc), k35.size⟩)
     | (obtain ⟨WZ, hWZ⟩ : ∃ W, (((((w5.setCell ⟨w4.heap.size, 0, none⟩ (.int .u8 r0)).setCell ⟨w4.heap.size, 1, none⟩ (.int .u64 r1)).setCell ⟨w4.heap.size, 2, none⟩ (.int .i64 r2)).setCell ⟨w4.heap.size, 3, none⟩ (.int .i64 r3)).setCell ⟨w4.heap.size, 4, none⟩ (.int .i64 r4)) = W := ⟨_, rfl⟩
        rw [hWZ]
        have hz : WZ = put5 w5 w4.heap.size (.int .u8 r0) (.int .u64 r1) (.int .i64 r2) (.int .i64 r3) (.int .i64 r4) := hWZ.symm
        clear hWZ
        rw [hz]
        have hn : ¬ O5 w4.heap.size := (fun hc => by
         rcases HO5.out _ hc with e | e
         · have := HN3S.out _ e; omega
         · have e2 : w4.heap.size + 1 ≤ w4.heap.size := by simpa using e
           omega)
        exact ⟨w4.heap.size, O5, rfl, HL5.out.box_ HB9.out resT_not hn put5_kept, o35, kept_step (O' := fun k => k = w4.heap.size) k35 (fun k hk => .inr (by omega)) put5_kept, put5_blk HB9.out, hn, (by omega)⟩)
     | (obtain ⟨WZ, hWZ⟩ : ∃ W, (((((w5.setCell ⟨w3.heap.size, 0, none⟩ (.int .u8 r0)).setCell ⟨w3.heap.size, 1, none⟩ (.int .u64 r1)).setCell ⟨w3.heap.size, 2, none⟩ (.int .i64 r2)).setCell ⟨w3.heap.size, 3, none⟩ (.int .i64 r3)).setCell ⟨w3.heap.size, 4, none⟩ (.int .i64 r4)) = W := ⟨_, rfl⟩
        rw [hWZ]
        have hz : WZ = put5 w5 w3.heap.size (.int .u8 r0) (.int .u64 r1) (.int .i64 r2) (.int .i64 r3) (.int .i64 r4) := hWZ.symm
        clear hWZ
        rw [hz]
        have hn : ¬ O5 w3.heap.size := (fun hc => by
         have h8 := B8.out.size
         rcases HO5.out _ hc with e | e
         · have := HN3S.out _ e; omega
         · omega)
        exact ⟨w3.heap.size, O5, rfl, HL5.out.box_ HB9.out resT_not hn put5_kept, o35, kept_step (O' := fun k => k = w3.heap.size) k35 (fun k hk => .inr (by omega)) put5_kept, put5_blk HB9.out, hn, (by omega)⟩))
 case rest =>
   obtain ⟨g8, O5, rfl, hL5, hO5, hk5, hb8, hn8, hge⟩ := hcut
   have HL5 := Lib.hid hL5
   have HO5 := Lib.hid hO5
   have HK5 := Lib.hid hk5
   have HB8 := Lib.hid hb8
   have HN8 := Lib.hid hn8
   clear hL5 hO5 hk5 hb8 hn8 x0 x1 x2 x3
   go_wp2_with fail
   refine (HE2.out _ _ _ HL5.out).mono ?_
   rintro e w7 ⟨rfl, hs7⟩
   have hb8 := hs7.blk HB8.out HN8.out
   have hst7 := CStep.then_ HO3.out HK3.out (CStep.then_ HO5.out HK5.out hs7)
   have hy7 := hst7.blk (b := g + 1) HY0.out HN2.out
   have HST7 := Lib.hid hst7
   clear hs7 hst7
   have y0 : w7.cell? ⟨g + 1, 0, none⟩ = some (.int .u8 0) := (hy7).val rfl
   have yz0 := (hy7).free 0
   have y1 : w7.cell? ⟨g + 1, 1, none⟩ = some (.int .u64 0) := (hy7).val rfl
   have yz1 := (hy7).free 1
   have y2 : w7.cell? ⟨g + 1, 2, none⟩ = some (.int .i64 0) := (hy7).val rfl
   have yz2 := (hy7).free 2
   have y3 : w7.cell? ⟨g + 1, 3, none⟩ = some (.int .i64 0) := (hy7).val rfl
   have yz3 := (hy7).free 3
   have y4 : w7.cell? ⟨g + 1, 4, none⟩ = some (.int .i64 0) := (hy7).val rfl
   have yz4 := (hy7).free 4
   have v0 : w7.cell? ⟨g8, 0, none⟩ = some (.int .u8 r0) := (hb8).val rfl
   have vz0 := (hb8).free 0
   have v1 : w7.cell? ⟨g8, 1, none⟩ = some (.int .u64 r1) := (hb8).val rfl
   have vz1 := (hb8).free 1
   have v2 : w7.cell? ⟨g8, 2, none⟩ = some (.int .i64 r2) := (hb8).val rfl
   have vz2 := (hb8).free 2
   have v3 : w7.cell? ⟨g8, 3, none⟩ = some (.int .i64 r3) := (hb8).val rfl
   have vz3 := (hb8).free 3
   have v4 : w7.cell? ⟨g8, 4, none⟩ = some (.int .i64 r4) := (hb8).val rfl
   have vz4 := (hb8).free 4
   have hgn8 : g8 ≠ g + 1 := by have := HG.out; have := HZ0.out; have := HK3.out.size; omega
   have hgn9 : g + 1 ≠ g8 := Ne.symm hgn8
   clear hb8 hy7
   go_wp2
   obtain ⟨WZ, hWZ⟩ : ∃ W, (((((w7.setCell ⟨g + 1, 0, none⟩ (.int .u8 r0)).setCell ⟨g + 1, 1, none⟩ (.int .u64 r1)).setCell ⟨g + 1, 2, none⟩ (.int .i64 r2)).setCell ⟨g + 1, 3, none⟩ (.int .i64 r3)).setCell ⟨g + 1, 4, none⟩ (.int .i64 r4)) = W := ⟨_, rfl⟩
   have hf := FIN.out w7 _ (.int .u8 r0) (.int .u64 r1) (.int .i64 r2) (.int .i64 r3) (.int .i64 r4) WZ (HST7.out) hWZ.symm
   rw [hWZ]
   clear hWZ
   have d0 : WZ.cell? ⟨g + 1, 0, none⟩ = some (.int .u8 r0) := hf.2.val rfl
   have d1 : WZ.cell? ⟨g + 1, 1, none⟩ = some (.int .u64 r1) := hf.2.val rfl
   have d2 : WZ.cell? ⟨g + 1, 2, none⟩ = some (.int .i64 r2) := hf.2.val rfl
   have d3 : WZ.cell? ⟨g + 1, 3, none⟩ = some (.int .i64 r3) := hf.2.val rfl
   have d4 : WZ.cell? ⟨g + 1, 4, none⟩ = some (.int .i64 r4) := hf.2.val rfl
   refine bodyPost_ret (v := .agg #[.int .u8 r0, .int .u64 r1, .int .i64 r2, .int .i64 r3, .int .i64 r4]) (by simp [results, Tryz.results15, go_sem, d0, d1, d2, d3, d4]) rfl ⟨rfl, hf.1⟩
end
end Go.Proofs.YtcffeokbipjaoaaGreat
