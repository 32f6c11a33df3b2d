/- Texts of this claim, one behind the other: Fng Fnr Fnh. -/
import Derived.Test.YtcffeokbipjaoaaGreatMubf
import Derived.Test.YtcffeokbipjaoaaGreatMubi
namespace Go.Proofs.YtcffeokbipjaoaaGreat
open Go.ChangeShapes Go.WideShapes Go.RowKit
set_option linter.unusedVariables false
set_option linter.unusedSimpArgs false
theorem far_keep {w w' : World} {g t : Nat} {T : TypeId} {cs : Array Value} (h : Blk w g T cs) (hk : Kept (fun k => k = t) w w') (hne : g ≠ t) : Blk w' g T cs := h.kept hk hne
section
variable {w w' : World} {f : Nat} {A : FAd} {F : FrS}
set_option maxRecDepth 100000 in
set_option maxHeartbeats 4000000 in
theorem fr_end (h : FrB w f A F) {i : Nat} (hi : i < F.N) (r : ReV) : Calls Tryz.prog 103 #[.pointer (some ⟨f, 0, none⟩), .int .i64 (i : Int), r.v] w fun e w' => e = .returned (.tuple #[r.v, .bool true]) ∧ FTo w f A F (F.setCa i ca0) w' := by
 obtain ⟨ra, rk, rt, rc, rs⟩ := r
 have i1 : (0 : Int) ≤ (i : Int) := by omega
 have i2 : (i : Int) < (F.N : Int) := by omega
 have H := Lib.hid h
 have HI := Lib.hid hi
 have HG := Lib.hid (show A.gc < w.heap.size from h.own_lt (fOwn.gc_ ..))
 clear h hi
 go_enter Tryz.func103, Tryz.ntmps103
 go_upto_region 1 with fail
 refine wp_worldx (fun wx => FOn w f A F wx A F ∧ Blk wx w.heap.size reT #[.int .u8 ra, .int .u64 rk, .int .i64 rt, .int .i64 rc, .int .i64 rs] ∧ Blk wx (w.heap.size + 1) reT #[.int .u8 0, .int .u64 0, .int .i64 0, .int .i64 0, .int .i64 0]) ⟨(FOn.refl H.out).below (((Below.refl _ _).alloc (Nat.le_refl _) _).alloc (by simp) _), (Blk.made w _ _).alloc_ _, Blk.new_ (by simp)⟩ ?_
 obtain ⟨g, hg⟩ : ∃ g, w.heap.size = g := ⟨_, rfl⟩
 rw [hg]
 rintro w1 ⟨on, hb1, hb2⟩
 have c4 := on.b.c4
 have z := on.b.zc
 have q0 : w1.cell? ⟨A.gc, i * 13, none⟩ = some (.int .i64 (F.ca i).nx) := on.b.kc (j := 0) HI.out (by omega) rfl
 have q1 : w1.cell? ⟨A.gc, i * 13 + 1, none⟩ = some (.int .u8 (F.ca i).op.k) := on.b.kc (j := 1) HI.out (by omega) rfl
 have q2 : w1.cell? ⟨A.gc, i * 13 + 2, none⟩ = some (.int .i64 (F.ca i).op.t) := on.b.kc (j := 2) HI.out (by omega) rfl
 have q3 : w1.cell? ⟨A.gc, i * 13 + 3, none⟩ = some (.int .i64 (F.ca i).op.c) := on.b.kc (j := 3) HI.out (by omega) rfl
 have q4 : w1.cell? ⟨A.gc, i * 13 + 4, none⟩ = some (.int .i64 (F.ca i).op.n) := on.b.kc (j := 4) HI.out (by omega) rfl
 have q5 : w1.cell? ⟨A.gc, i * 13 + 5, none⟩ = some (ptrV (F.ca i) (A.aa i)) := on.b.kc (j := 5) HI.out (by omega) rfl
 have q6 : w1.cell? ⟨A.gc, i * 13 + 6, none⟩ = some (.int .i64 (F.ca i).lf) := on.b.kc (j := 6) HI.out (by omega) rfl
 have q7 : w1.cell? ⟨A.gc, i * 13 + 7, none⟩ = some (.int .i64 (F.ca i).sv) := on.b.kc (j := 7) HI.out (by omega) rfl
 have q8 : w1.cell? ⟨A.gc, i * 13 + 8, none⟩ = some (.int .u8 (F.ca i).re.a) := on.b.kc (j := 8) HI.out (by omega) rfl
 have q9 : w1.cell? ⟨A.gc, i * 13 + 9, none⟩ = some (.int .u64 (F.ca i).re.k) := on.b.kc (j := 9) HI.out (by omega) rfl
 have q10 : w1.cell? ⟨A.gc, i * 13 + 10, none⟩ = some (.int .i64 (F.ca i).re.t) := on.b.kc (j := 10) HI.out (by omega) rfl
 have q11 : w1.cell? ⟨A.gc, i * 13 + 11, none⟩ = some (.int .i64 (F.ca i).re.c) := on.b.kc (j := 11) HI.out (by omega) rfl
 have q12 : w1.cell? ⟨A.gc, i * 13 + 12, none⟩ = some (.int .i64 (F.ca i).re.s) := on.b.kc (j := 12) HI.out (by omega) rfl
 have ON := Lib.hid on
 have HB1 := Lib.hid hb1
 have HB2 := Lib.hid hb2
 have HGG := Lib.hid hg
 clear on hb1 hb2 hg
 go_upto_region 2 with fail
 clear c4 z q0 q1 q2 q3 q4 q5 q6 q7 q8 q9 q10 q11 q12
 refine wp_worldx (fun wx => FOn w f A F wx A (F.setCa i ca0) ∧ Blk wx g reT #[.int .u8 ra, .int .u64 rk, .int .i64 rt, .int .i64 rc, .int .i64 rs] ∧ Blk wx (g + 1) reT #[.int .u8 0, .int .u64 0, .int .i64 0, .int .i64 0, .int .i64 0]) ?_ ?_
 · have hk : Kept (fun k => k = A.gc) w1 (((((((((((((w1.setCell ⟨A.gc, i * 13, none⟩ (.int .i64 ca0.nx)).setCell ⟨A.gc, i * 13 + 1, none⟩ (.int .u8 ca0.op.k)).setCell ⟨A.gc, i * 13 + 2, none⟩ (.int .i64 ca0.op.t)).setCell ⟨A.gc, i * 13 + 3, none⟩ (.int .i64 ca0.op.c)).setCell ⟨A.gc, i * 13 + 4, none⟩ (.int .i64 ca0.op.n)).setCell ⟨A.gc, i * 13 + 5, none⟩ (.pointer none)).setCell ⟨A.gc, i * 13 + 6, none⟩ (.int .i64 ca0.lf)).setCell ⟨A.gc, i * 13 + 7, none⟩ (.int .i64 ca0.sv)).setCell ⟨A.gc, i * 13 + 8, none⟩ (.int .u8 ca0.re.a)).setCell ⟨A.gc, i * 13 + 9, none⟩ (.int .u64 ca0.re.k)).setCell ⟨A.gc, i * 13 + 10, none⟩ (.int .i64 ca0.re.t)).setCell ⟨A.gc, i * 13 + 11, none⟩ (.int .i64 ca0.re.c)).setCell ⟨A.gc, i * 13 + 12, none⟩ (.int .i64 ca0.re.s)) := by
     repeat (first | with_reducible exact Kept.refl _ _ | refine Kept.set1 ?_ _ _)
   have h1 := HGG.out
   have h2 := HG.out
   exact ⟨ON.out.toRow HI.out ca0 rfl (ON.out.b.toRow HI.out ca0 rfl) hk, far_keep HB1.out hk (by omega), far_keep HB2.out hk (by omega)⟩
 · rintro w2 ⟨on, hb1, hb2⟩
   have x0 : w2.cell? ⟨g, 0, none⟩ = some (.int .u8 ra) := hb1.val (i := 0) rfl
   have x1 : w2.cell? ⟨g, 1, none⟩ = some (.int .u64 rk) := hb1.val (i := 1) rfl
   have x2 : w2.cell? ⟨g, 2, none⟩ = some (.int .i64 rt) := hb1.val (i := 2) rfl
   have x3 : w2.cell? ⟨g, 3, none⟩ = some (.int .i64 rc) := hb1.val (i := 3) rfl
   have x4 : w2.cell? ⟨g, 4, none⟩ = some (.int .i64 rs) := hb1.val (i := 4) rfl
   have y0 : w2.cell? ⟨g + 1, 0, none⟩ = some (.int .u8 0) := hb2.val (i := 0) rfl
   have y1 : w2.cell? ⟨g + 1, 1, none⟩ = some (.int .u64 0) := hb2.val (i := 1) rfl
   have y2 : w2.cell? ⟨g + 1, 2, none⟩ = some (.int .i64 0) := hb2.val (i := 2) rfl
   have y3 : w2.cell? ⟨g + 1, 3, none⟩ = some (.int .i64 0) := hb2.val (i := 3) rfl
   have y4 : w2.cell? ⟨g + 1, 4, none⟩ = some (.int .i64 0) := hb2.val (i := 4) rfl
   have yz := hb2.free
   have ON2 := Lib.hid on
   have HB3 := Lib.hid hb2
   clear on hb1 hb2 ON HB1 HB2
   go_wp2
   have hbf : Blk (((((w2.setCell ⟨(g + 1), 0, none⟩ (.int .u8 ra)).setCell ⟨(g + 1), 1, none⟩ (.int .u64 rk)).setCell ⟨(g + 1), 2, none⟩ (.int .i64 rt)).setCell ⟨(g + 1), 3, none⟩ (.int .i64 rc)).setCell ⟨(g + 1), 4, none⟩ (.int .i64 rs)) (g + 1) reT #[.int .u8 ra, .int .u64 rk, .int .i64 rt, .int .i64 rc, .int .i64 rs] := by
     have := (((((HB3.out.set_ 0 (.int .u8 ra)).set_ 1 (.int .u64 rk)).set_ 2 (.int .i64 rt)).set_ 3 (.int .i64 rc)).set_ 4 (.int .i64 rs))
     simpa using this
   have hk : Kept (fun k => k = (g + 1)) w2 (((((w2.setCell ⟨(g + 1), 0, none⟩ (.int .u8 ra)).setCell ⟨(g + 1), 1, none⟩ (.int .u64 rk)).setCell ⟨(g + 1), 2, none⟩ (.int .i64 rt)).setCell ⟨(g + 1), 3, none⟩ (.int .i64 rc)).setCell ⟨(g + 1), 4, none⟩ (.int .i64 rs)) := by
     repeat (first | with_reducible exact Kept.refl _ _ | refine Kept.set1 ?_ _ _)
   obtain ⟨W, hW⟩ : ∃ W, (((((w2.setCell ⟨(g + 1), 0, none⟩ (.int .u8 ra)).setCell ⟨(g + 1), 1, none⟩ (.int .u64 rk)).setCell ⟨(g + 1), 2, none⟩ (.int .i64 rt)).setCell ⟨(g + 1), 3, none⟩ (.int .i64 rc)).setCell ⟨(g + 1), 4, none⟩ (.int .i64 rs)) = W := ⟨_, rfl⟩
   rw [hW] at hbf hk ⊢
   have d0 : W.cell? ⟨(g + 1), 0, none⟩ = some (.int .u8 ra) := hbf.val (i := 0) rfl
   have d1 : W.cell? ⟨(g + 1), 1, none⟩ = some (.int .u64 rk) := hbf.val (i := 1) rfl
   have d2 : W.cell? ⟨(g + 1), 2, none⟩ = some (.int .i64 rt) := hbf.val (i := 2) rfl
   have d3 : W.cell? ⟨(g + 1), 3, none⟩ = some (.int .i64 rc) := hbf.val (i := 3) rfl
   have d4 : W.cell? ⟨(g + 1), 4, none⟩ = some (.int .i64 rs) := hbf.val (i := 4) rfl
   refine bodyPost_ret (v := .tuple #[.agg #[.int .u8 ra, .int .u64 rk, .int .i64 rt, .int .i64 rc, .int .i64 rs], .bool true]) (by simp [results, Tryz.results103, go_sem, d0, d1, d2, d3, d4]) rfl ⟨?_, ?_⟩
   · rfl
   · exact (ON2.out.oth HB3.out (by decide) hk (by have := HGG.out; omega)).to
set_option maxRecDepth 100000 in
theorem fr_withdraw (h : FrB w f A F) {i : Nat} (hi : i < F.N) : Calls Tryz.prog 102 #[.pointer (some ⟨f, 0, none⟩), .int .i64 (i : Int)] w fun e w' => e = .returned (.tuple #[]) ∧ FTo w f A F (F.setBx i (colB (finB (F.bx i) re0))) w' := by
 have i1 : (0 : Int) ≤ (i : Int) := by omega
 have i2 : (i : Int) < (F.N : Int) := by omega
 have c3 := h.c3
 have b := h.bp hi
 have H := Lib.hid h
 have HI := Lib.hid hi
 clear h hi
 go_enter Tryz.func102, Tryz.ntmps102
 go_wp2_with fail
 refine (bx_fin (A.ab i) _ _ _ re0 w (H.out.box i HI.out)).mono ?_
 rintro e w1 ⟨rfl, hb, hk⟩
 have on := (FOn.refl H.out).toBx (b := finB (F.bx i) re0) HI.out hb hk
 have c3 := on.b.c3
 have b := on.b.bp (i := i) HI.out
 have ON := Lib.hid on
 clear on hb hk
 go_wp2_with fail
 refine (bx_col (A.ab i) _ _ _ w1 (ON.out.b.box i HI.out)).mono ?_
 rintro e w2 ⟨he, hb, hk⟩
 obtain ⟨V, rfl⟩ : ∃ V, e = Ending.returned V := ⟨_, he⟩
 clear he
 have on := ON.out.toBx (i := i) (b := colB (finB (F.bx i) re0)) HI.out (by
   have hu : (F.setBx i (finB (F.bx i) re0)).bx i = finB (F.bx i) re0 := upd_at _ _ _
   rw [hu] at hb
   exact hb) hk
 have ON2 := Lib.hid on
 clear on hb hk ON
 go_wp2
 first | refine bodyPost_end (results_none rfl _ _ _) rfl ⟨rfl, ?_⟩ | refine bodyPost_ret (results_none rfl _ _ _) rfl ⟨rfl, ?_⟩
 have hd := ON2.out.to
 rw [show (F.setBx i (finB (F.bx i) re0)).setBx i (colB (finB (F.bx i) re0)) = F.setBx i (colB (finB (F.bx i) re0)) from by show ({ F with bx := upd (upd F.bx i _) i _ } : FrS) = _; rw [upd_upd]] at hd
 exact hd
end
end Go.Proofs.YtcffeokbipjaoaaGreat
namespace Go.Proofs.YtcffeokbipjaoaaGreat
open Go.RowKit
set_option linter.unusedVariables false
set_option linter.unusedSimpArgs false
section
variable {r s n : Nat} {g : Rg}
set_option maxRecDepth 100000 in
theorem rstep_end {a : Nat} {cn : Int} {cp cl : Nat} {cu cq : Int} {cr cs : Bool} (w : World) (h : RingAt w r s n g) (ha : ActAt w a r ⟨cn, cp, cl, cu, cq, cr, cs⟩) (he : endE cn = true) :
   Calls Tryz.prog 100 #[.pointer (some ⟨a, 0, none⟩)] w fun e w' => e = .returned (.bool true) ∧ w = w' := by
 have hc := rended w ha
 rw [he] at hc
 have HC := Lib.hid hc
 clear h ha he hc
 go_enter Tryz.func100, Tryz.ntmps100
 go_wp2_with (go_at_call 149; refine HC.out.mono ?_; rintro e w1 ⟨rfl, rfl⟩)
 go_ret
 exact ⟨rfl, rfl⟩
theorem rstep_any {a : Nat} {c : Ac} (w : World) (h : RingAt w r s n g) (ha : ActAt w a r c) (h0 : 0 ≤ c.nx ∧ c.nx ≤ 10) (hp : c.po ≤ 900000) (hl : c.pl ≤ 900000) (hT : g.T ≤ 900000) (hS : ∀ j, g.S j ≤ 1000000) :
   Calls Tryz.prog 100 #[.pointer (some ⟨a, 0, none⟩)] w fun e w' => e = .returned (.bool (endE (acS n g c).nx)) ∧ RingAt w' r s n (rgS n g c) ∧ ActAt w' a r (acS n g c) ∧ Kept (Mine a r s) w w' := by
 obtain ⟨nx, po, pl, pu, pp, rd, st⟩ := c
 obtain ⟨h1, h2⟩ := h0
 have hq : nx = 0 ∨ nx = 1 ∨ nx = 2 ∨ nx = 3 ∨ nx = 4 ∨ nx = 5 ∨ nx = 6 ∨ nx = 7 ∨ nx = 8 ∨ nx = 9 ∨ nx = 10 := by
   have h1' : 0 ≤ nx := h1
   have h2' : nx ≤ 10 := h2
   omega
 rcases hq with rfl | rfl | rfl | rfl | rfl | rfl | rfl | rfl | rfl | rfl | rfl
 · rw [show acS n g ⟨0, po, pl, pu, pp, rd, st⟩ = ⟨0, po, pl, pu, pp, rd, st⟩ by simp [acS], show rgS n g ⟨0, po, pl, pu, pp, rd, st⟩ = g by simp [rgS]]
   refine (rstep_end w h ha (by decide)).mono ?_
   rintro e w' ⟨rfl, rfl⟩
   exact ⟨rfl, h, ha, Kept.refl _ _⟩
 · rw [show acS n g ⟨1, po, pl, pu, pp, rd, st⟩ = ⟨1, po, pl, pu, pp, rd, st⟩ by simp [acS], show rgS n g ⟨1, po, pl, pu, pp, rd, st⟩ = g by simp [rgS]]
   refine (rstep_end w h ha (by decide)).mono ?_
   rintro e w' ⟨rfl, rfl⟩
   exact ⟨rfl, h, ha, Kept.refl _ _⟩
 · rw [show acS n g ⟨2, po, pl, pu, pp, rd, st⟩ = ⟨3, g.T, pl, pu, pp, true, rd && decide (g.T = po)⟩ by simp [acS], show rgS n g ⟨2, po, pl, pu, pp, rd, st⟩ = g by simp [rgS]]
   exact rstep2 w h ha
 · rw [show acS n g ⟨3, po, pl, pu, pp, rd, st⟩ = ⟨lookE (g.S (po % n)) po 4 2, po, pl, pu, pp, rd, st⟩ by simp [acS], show rgS n g ⟨3, po, pl, pu, pp, rd, st⟩ = g by simp [rgS]]
   exact rstep3 w h ha rfl hp (hS _)
 · by_cases hx : g.T = po
   · rw [show acS n g ⟨4, po, pl, pu, pp, rd, st⟩ = ⟨6, po, po, pu, pp, rd, st⟩ by simp [acS, hx], show rgS n g ⟨4, po, pl, pu, pp, rd, st⟩ = { g with T := po + 1 } by simp [rgS, hx]]
     exact rstep4h w h ha hp hx
   · rw [show acS n g ⟨4, po, pl, pu, pp, rd, st⟩ = ⟨2, po, pl, pu, pp, rd, st⟩ by simp [acS, hx], show rgS n g ⟨4, po, pl, pu, pp, rd, st⟩ = g by simp [rgS, hx]]
     exact rstep4m w h ha hp hx
 · rw [show acS n g ⟨5, po, pl, pu, pp, rd, st⟩ = ⟨6, po, g.T, pu, pp, rd, st⟩ by simp [acS], show rgS n g ⟨5, po, pl, pu, pp, rd, st⟩ = { g with T := g.T + 1 } by simp [rgS]]
   exact rstep5 w h ha hT
 · rw [show acS n g ⟨6, po, pl, pu, pp, rd, st⟩ = ⟨1, po, pl, pu, pp, rd, st⟩ by simp [acS], show rgS n g ⟨6, po, pl, pu, pp, rd, st⟩ = { g with S := fun i => if i = pl % n then pl + 1 else g.S i, V := fun i => if i = pl % n then pu else g.V i } by simp [rgS]]
   exact rstep6 w h ha rfl hl
 · rw [show acS n g ⟨7, po, pl, pu, pp, rd, st⟩ = ⟨8, g.H, pl, pu, pp, true, rd && decide (g.H = po)⟩ by simp [acS], show rgS n g ⟨7, po, pl, pu, pp, rd, st⟩ = g by simp [rgS]]
   exact rstep7 w h ha
 · rw [show acS n g ⟨8, po, pl, pu, pp, rd, st⟩ = ⟨lookE (g.S (po % n)) (po + 1) 9 7, po, pl, pu, pp, rd, st⟩ by simp [acS], show rgS n g ⟨8, po, pl, pu, pp, rd, st⟩ = g by simp [rgS]]
   exact rstep8 w h ha rfl hp (hS _)
 · by_cases hx : g.H = po
   · rw [show acS n g ⟨9, po, pl, pu, pp, rd, st⟩ = ⟨10, po, po, pu, pp, rd, st⟩ by simp [acS, hx], show rgS n g ⟨9, po, pl, pu, pp, rd, st⟩ = { g with H := po + 1 } by simp [rgS, hx]]
     exact rstep9h w h ha hp hx
   · rw [show acS n g ⟨9, po, pl, pu, pp, rd, st⟩ = ⟨7, po, pl, pu, pp, rd, st⟩ by simp [acS, hx], show rgS n g ⟨9, po, pl, pu, pp, rd, st⟩ = g by simp [rgS, hx]]
     exact rstep9m w h ha hp hx
 · rw [show acS n g ⟨10, po, pl, pu, pp, rd, st⟩ = ⟨1, po, pl, pu, g.V (pl % n), rd, st⟩ by simp [acS], show rgS n g ⟨10, po, pl, pu, pp, rd, st⟩ = { g with S := fun i => if i = pl % n then pl + n else g.S i } by simp [rgS]]
   exact rstep10 w h ha rfl hl
end
end Go.Proofs.YtcffeokbipjaoaaGreat
namespace Go.Proofs.YtcffeokbipjaoaaGreat
open Go.ChangeShapes Go.WideShapes Go.RowKit
set_option linter.unusedVariables false
set_option linter.unusedSimpArgs false
section
variable {w w' : World} {f : Nat} {A : FAd} {F : FrS}
theorem FOk.step {B : Nat} (h : FOk F B) (hB : B ≤ 800000) {i : Nat} {a : Ac} {w : World} {A : FAd} (hb : FrB w f A F) (hi : i < F.N) (ha : (F.ca i).ac = some a) :
   Calls Tryz.prog 100 #[.pointer (some ⟨A.aa i, 0, none⟩)] w fun e w' => e = .returned (.bool (endE (acS F.n F.g a).nx)) ∧ RingAt w' A.r A.s F.n (rgS F.n F.g a) ∧ ActAt w' (A.aa i) A.r (acS F.n F.g a) ∧ Kept (Mine (A.aa i) A.r A.s) w w' := by
 have ho := (h.ca i).ac a ha
 have h1 := ho.po
 have h2 := ho.pl
 have h3 := h.g.T
 refine rstep_any w hb.ring (hb.act i a hi ha) ho.nx (by omega) (by omega) (by omega) (fun j => ?_)
 have := h.g.S j
 omega
set_option maxRecDepth 100000 in
set_option maxHeartbeats 4000000 in
theorem fr_collect (h : FrB w f A F) {i : Nat} (hi : i < F.N) : Calls Tryz.prog 58 #[.pointer (some ⟨f, 0, none⟩), .int .i64 (i : Int)] w fun e w' => e = .returned (.tuple #[(frWait F i).1.v, .bool (frWait F i).2]) ∧ FTo w f A F (fsWait F i) w' := by
 have i1 : (0 : Int) ≤ (i : Int) := by omega
 have i2 : (i : Int) < (F.N : Int) := by omega
 have H := Lib.hid h
 have HI := Lib.hid hi
 clear h hi
 go_enter Tryz.func58, Tryz.ntmps58
 go_upto_region 1 with fail
 refine wp_worldx (fun wx => FOn w f A F wx A F ∧ Blk wx w.heap.size reT #[.int .u8 0, .int .u64 0, .int .i64 0, .int .i64 0, .int .i64 0]) ⟨(FOn.refl H.out).below ((Below.refl _ _).alloc (Nat.le_refl _) _), Blk.made w _ _⟩ ?_
 obtain ⟨g, hg⟩ : ∃ g, w.heap.size = g := ⟨_, rfl⟩
 rw [hg]
 rintro w1 ⟨on, hb1⟩
 have c3 := on.b.c3
 have b := on.b.bp HI.out
 have ON := Lib.hid on
 have HB1 := Lib.hid hb1
 have HG := Lib.hid hg
 clear on hb1 hg
 go_wp2_with fail
 refine (bx_col (A.ab i) _ _ _ w1 (ON.out.b.box i HI.out)).mono ?_
 rintro e w2 ⟨rfl, hb, hk⟩
 have on := ON.out.toBx (b := colB (F.bx i)) HI.out hb hk
 have hbg := HB1.out.kept hk (fun e => HB1.out.other (ON.out.b.box i HI.out) (by decide) e)
 by_cases hs : (F.bx i).s = 2
 · rw [if_pos hs, show ((F.bx i).s == 2) = true from by rw [hs]; rfl]
   obtain ⟨⟨ra, rk, rt, rc, rs⟩, hr⟩ : ∃ r, (F.bx i).r = r := ⟨_, rfl⟩
   rw [hr]
   have HS := Lib.hid hs
   have HR := Lib.hid hr
   have ON2 := Lib.hid on
   have HBG := Lib.hid hbg
   clear on hb hk hs hr hbg ON HB1 c3 b
   go_upto_region 2 with fail
   refine wp_worldx (fun wx => FOn w f A F wx A (F.setBx i (colB (F.bx i))) ∧ Blk wx g reT #[.int .u8 0, .int .u64 0, .int .i64 0, .int .i64 0, .int .i64 0] ∧ Blk wx w2.heap.size reT #[.int .u8 ra, .int .u64 rk, .int .i64 rt, .int .i64 rc, .int .i64 rs]) ?_ ?_
   · have hbl : Below w2.heap.size w2 (w2.alloc (.cells #[.int .u8 ra, .int .u64 rk, .int .i64 rt, .int .i64 rc, .int .i64 rs] reT)) := (Below.refl _ _).alloc (Nat.le_refl _) _
     exact ⟨ON2.out.below hbl, HBG.out.below_ hbl HBG.out.size, Blk.made w2 _ _⟩
   · obtain ⟨g2, hg2⟩ : ∃ g2, w2.heap.size = g2 := ⟨_, rfl⟩
     rw [hg2]
     rintro w3 ⟨on, hb1, hb2⟩
     have x0 : w3.cell? ⟨g2, 0, none⟩ = some (.int .u8 ra) := hb2.val (i := 0) rfl
     have x1 : w3.cell? ⟨g2, 1, none⟩ = some (.int .u64 rk) := hb2.val (i := 1) rfl
     have x2 : w3.cell? ⟨g2, 2, none⟩ = some (.int .i64 rt) := hb2.val (i := 2) rfl
     have x3 : w3.cell? ⟨g2, 3, none⟩ = some (.int .i64 rc) := hb2.val (i := 3) rfl
     have x4 : w3.cell? ⟨g2, 4, none⟩ = some (.int .i64 rs) := hb2.val (i := 4) rfl
     have ON3 := Lib.hid on
     have HB3 := Lib.hid hb1
     clear on hb1 hb2 ON2 HBG hg2
     go_wp2_with fail
     refine (fr_end ON3.out.b (i := i) HI.out ⟨ra, rk, rt, rc, rs⟩).mono ?_
     rintro e w4 ⟨rfl, A', ht⟩
     have hb4 := ht.blk ON3.out.b HB3.out (by decide)
     have on4 := ON3.out.trans ht
     have y0 : w4.cell? ⟨g, 0, none⟩ = some (.int .u8 0) := hb4.val (i := 0) rfl
     have y1 : w4.cell? ⟨g, 1, none⟩ = some (.int .u64 0) := hb4.val (i := 1) rfl
     have y2 : w4.cell? ⟨g, 2, none⟩ = some (.int .i64 0) := hb4.val (i := 2) rfl
     have y3 : w4.cell? ⟨g, 3, none⟩ = some (.int .i64 0) := hb4.val (i := 3) rfl
     have y4 : w4.cell? ⟨g, 4, none⟩ = some (.int .i64 0) := hb4.val (i := 4) rfl
     have yz := hb4.free
     have ON4 := Lib.hid on4
     have HB4 := Lib.hid hb4
     clear on4 hb4 ht ON3 HB3 x0 x1 x2 x3 x4
     go_wp2
     have hbf : Blk (((((w4.setCell ⟨g, 0, none⟩ (.int .u8 ra)).setCell ⟨g, 1, none⟩ (.int .u64 rk)).setCell ⟨g, 2, none⟩ (.int .i64 rt)).setCell ⟨g, 3, none⟩ (.int .i64 rc)).setCell ⟨g, 4, none⟩ (.int .i64 rs)) g reT #[.int .u8 ra, .int .u64 rk, .int .i64 rt, .int .i64 rc, .int .i64 rs] := by
       have := (((((HB4.out.set_ 0 (.int .u8 ra)).set_ 1 (.int .u64 rk)).set_ 2 (.int .i64 rt)).set_ 3 (.int .i64 rc)).set_ 4 (.int .i64 rs))
       simpa using this
     have hk : Kept (fun k => k = g) w4 (((((w4.setCell ⟨g, 0, none⟩ (.int .u8 ra)).setCell ⟨g, 1, none⟩ (.int .u64 rk)).setCell ⟨g, 2, none⟩ (.int .i64 rt)).setCell ⟨g, 3, none⟩ (.int .i64 rc)).setCell ⟨g, 4, none⟩ (.int .i64 rs)) := by
       repeat (first | with_reducible exact Kept.refl _ _ | refine Kept.set1 ?_ _ _)
     obtain ⟨W, hW⟩ : ∃ W, (((((w4.setCell ⟨g, 0, none⟩ (.int .u8 ra)).setCell ⟨g, 1, none⟩ (.int .u64 rk)).setCell ⟨g, 2, none⟩ (.int .i64 rt)).setCell ⟨g, 3, none⟩ (.int .i64 rc)).setCell ⟨g, 4, none⟩ (.int .i64 rs)) = W := ⟨_, rfl⟩
     rw [hW] at hbf hk ⊢
     have d0 : W.cell? ⟨g, 0, none⟩ = some (.int .u8 ra) := hbf.val (i := 0) rfl
     have d1 : W.cell? ⟨g, 1, none⟩ = some (.int .u64 rk) := hbf.val (i := 1) rfl
     have d2 : W.cell? ⟨g, 2, none⟩ = some (.int .i64 rt) := hbf.val (i := 2) rfl
     have d3 : W.cell? ⟨g, 3, none⟩ = some (.int .i64 rc) := hbf.val (i := 3) rfl
     have d4 : W.cell? ⟨g, 4, none⟩ = some (.int .i64 rs) := hbf.val (i := 4) rfl
     refine bodyPost_ret (v := .tuple #[.agg #[.int .u8 ra, .int .u64 rk, .int .i64 rt, .int .i64 rc, .int .i64 rs], .bool true]) (by simp [results, Tryz.results58, go_sem, d0, d1, d2, d3, d4]) rfl ⟨?_, ?_⟩
     · unfold frWait; rw [if_pos HS.out, HR.out]
     · have hd := (ON4.out.oth HB4.out (by decide) hk (by have := HG.out; omega)).to
       unfold fsWait
       rw [if_pos HS.out]
       exact hd
 · rw [if_neg hs, show ((F.bx i).s == 2) = false from by simpa using hs]
   have hcol : colB (F.bx i) = F.bx i := by unfold colB; rw [if_neg hs]
   have hset : F.setBx i (colB (F.bx i)) = F := by
     rw [hcol]
     show ({ F with bx := upd F.bx i (F.bx i) } : FrS) = F
     have : upd F.bx i (F.bx i) = F.bx := by funext j; unfold upd; split; rename_i e; rw [e]; rfl
     rw [this]
   rw [hset] at on
   have HS := Lib.hid hs
   have ON2 := Lib.hid on
   have HBG := Lib.hid hbg
   clear on hb hk hs hcol hset hbg ON HB1 c3 b
   go_upto_region 2 with fail
   refine wp_worldx (fun wx => FOn w f A F wx A F ∧ Blk wx g reT #[.int .u8 0, .int .u64 0, .int .i64 0, .int .i64 0, .int .i64 0]) ?_ ?_
   · have hbl : Below w2.heap.size w2 (w2.alloc (.cells #[.int .u8 0, .int .u64 0, .int .i64 0, .int .i64 0, .int .i64 0] reT)) := (Below.refl _ _).alloc (Nat.le_refl _) _
     exact ⟨ON2.out.below hbl, HBG.out.below_ hbl HBG.out.size⟩
   · rintro w3 ⟨on, hb1⟩
     have c4 := on.b.c4
     have k0 := on.b.k0 (i := i) HI.out
     have z0 := on.b.zc (i * 13)
     have ON3 := Lib.hid on
     have HB3 := Lib.hid hb1
     clear on hb1 ON2 HBG
     go_upto_region 5 with fail
     have on4 := ON3.out.toCa (i := i) (j := 0) HI.out (by omega) (.int .i64 4) { F.ca i with nx := 4 } rfl rfl
     have hb4 := HB3.out.kept (own := fun k => k = A.gc) (kset1 w3 A.gc (i * 13) (.int .i64 4)) (fun e => ON3.out.b.not_own HB3.out (by decide) (e ▸ fOwn.gc_ ..))
     refine wp_worldx (fun wx => FOn w f A F wx A (F.setCa i { F.ca i with nx := 4 }) ∧ Blk wx g reT #[.int .u8 0, .int .u64 0, .int .i64 0, .int .i64 0, .int .i64 0]) ⟨on4, hb4⟩ ?_
     clear on4 hb4 ON3 HB3 c4 k0 z0
     rintro w4 ⟨on4, hb4⟩
     have y0 : w4.cell? ⟨g, 0, none⟩ = some (.int .u8 0) := hb4.val (i := 0) rfl
     have y1 : w4.cell? ⟨g, 1, none⟩ = some (.int .u64 0) := hb4.val (i := 1) rfl
     have y2 : w4.cell? ⟨g, 2, none⟩ = some (.int .i64 0) := hb4.val (i := 2) rfl
     have y3 : w4.cell? ⟨g, 3, none⟩ = some (.int .i64 0) := hb4.val (i := 3) rfl
     have y4 : w4.cell? ⟨g, 4, none⟩ = some (.int .i64 0) := hb4.val (i := 4) rfl
     have yz := hb4.free
     have ON4 := Lib.hid on4
     have HB4 := Lib.hid hb4
     clear on4 hb4
     go_wp2
     have hbf : Blk (((((w4.setCell ⟨g, 0, none⟩ (.int .u8 0)).setCell ⟨g, 1, none⟩ (.int .u64 0)).setCell ⟨g, 2, none⟩ (.int .i64 0)).setCell ⟨g, 3, none⟩ (.int .i64 0)).setCell ⟨g, 4, none⟩ (.int .i64 0)) g reT #[.int .u8 0, .int .u64 0, .int .i64 0, .int .i64 0, .int .i64 0] := by
       have := (((((HB4.out.set_ 0 (.int .u8 0)).set_ 1 (.int .u64 0)).set_ 2 (.int .i64 0)).set_ 3 (.int .i64 0)).set_ 4 (.int .i64 0))
       simpa using this
     have hk : Kept (fun k => k = g) w4 (((((w4.setCell ⟨g, 0, none⟩ (.int .u8 0)).setCell ⟨g, 1, none⟩ (.int .u64 0)).setCell ⟨g, 2, none⟩ (.int .i64 0)).setCell ⟨g, 3, none⟩ (.int .i64 0)).setCell ⟨g, 4, none⟩ (.int .i64 0)) := by
       repeat (first | with_reducible exact Kept.refl _ _ | refine Kept.set1 ?_ _ _)
     obtain ⟨W, hW⟩ : ∃ W, (((((w4.setCell ⟨g, 0, none⟩ (.int .u8 0)).setCell ⟨g, 1, none⟩ (.int .u64 0)).setCell ⟨g, 2, none⟩ (.int .i64 0)).setCell ⟨g, 3, none⟩ (.int .i64 0)).setCell ⟨g, 4, none⟩ (.int .i64 0)) = W := ⟨_, rfl⟩
     rw [hW] at hbf hk ⊢
     have d0 : W.cell? ⟨g, 0, none⟩ = some (.int .u8 0) := hbf.val (i := 0) rfl
     have d1 : W.cell? ⟨g, 1, none⟩ = some (.int .u64 0) := hbf.val (i := 1) rfl
     have d2 : W.cell? ⟨g, 2, none⟩ = some (.int .i64 0) := hbf.val (i := 2) rfl
     have d3 : W.cell? ⟨g, 3, none⟩ = some (.int .i64 0) := hbf.val (i := 3) rfl
     have d4 : W.cell? ⟨g, 4, none⟩ = some (.int .i64 0) := hbf.val (i := 4) rfl
     refine bodyPost_ret (v := .tuple #[.agg #[.int .u8 0, .int .u64 0, .int .i64 0, .int .i64 0, .int .i64 0], .bool false]) (by simp [results, Tryz.results58, go_sem, d0, d1, d2, d3, d4]) rfl ⟨?_, ?_⟩
     · unfold frWait; rw [if_neg HS.out]; rfl
     · have hd := (ON4.out.oth HB4.out (by decide) hk (by have := HG.out; omega)).to
       unfold fsWait
       rw [if_neg HS.out]
       exact hd
end
end Go.Proofs.YtcffeokbipjaoaaGreat
