/- Texts of this claim, one behind the other: Lkb Fna. -/
import Derived.Test.YtcffeokbipjaoaaGreatMual
import Derived.Test.YtcffeokbipjaoaaGreatMubd
import Derived.Test.YtcffeokbipjaoaaGreatMubf
namespace Go.Proofs.YtcffeokbipjaoaaGreat
open Go.RowKit
set_option linter.unusedVariables false
set_option linter.unusedSimpArgs false
section
variable {w w' : World} {b : Nat} {s : Int} {o : OpV} {r : ReV}
theorem BoxAt.st (h : BoxAt w b s o r) : w.cell? ⟨b, 0, none⟩ = some (.int .i32 s) := Blk.val h (i := 0) rfl
end
set_option maxHeartbeats 400000 in
theorem bx_is (b : Nat) (s q : Int) (w : World) (hc : w.cell? ⟨b, 0, none⟩ = some (.int .i32 s)) :
   Calls Tryz.prog 144 #[.pointer (some ⟨b, 0, none⟩), .int .i32 q] w fun e w' => e = .returned (.bool (s == q)) ∧ w = w' := by
 go_enter Tryz.func144, Tryz.ntmps144
 go_wp2_with (go_at_call 194; refine (aload32 _ _ _ _ hc).mono ?_; rintro e w1 ⟨rfl, rfl⟩)
 go_ret
 exact ⟨rfl, rfl⟩
set_option maxHeartbeats 400000 in
theorem bx_new (w : World) :
   Calls Tryz.prog 51 #[] w fun e w' => e = .returned (.pointer (some ⟨w.heap.size, 0, none⟩)) ∧ BoxAt w' w.heap.size 0 op0 re0 ∧ Below w.heap.size w w' := by
 go_enter Tryz.func51, Tryz.ntmps51
 go_wp2
 go_ret
 exact ⟨rfl, Blk.made _ _ _, (Below.refl _ _).alloc (Nat.le_refl _) _⟩
set_option maxHeartbeats 800000 in
theorem bx_post (b : Nat) (s : Int) (o : OpV) (r : ReV) (p : OpV) (w : World) (h : BoxAt w b s o r) :
   Calls Tryz.prog 98 #[.pointer (some ⟨b, 0, none⟩), p.v] w fun e w' => e = .returned (.bool (s == 0)) ∧ BoxAt w' b (if s = 0 then 1 else s) (if s = 0 then p else o) r ∧ Kept (fun k => k = b) w w' := by
 obtain ⟨ok, ot, oc, on⟩ := o
 obtain ⟨ra, rk, rt, rc, rs⟩ := r
 obtain ⟨pk, pt, pc, pn⟩ := p
 have c0 : w.cell? ⟨b, 0, none⟩ = some (.int .i32 s) := Blk.val h (i := 0) rfl
 have c1 : w.cell? ⟨b, 1, none⟩ = some (.int .u8 ok) := Blk.val h (i := 1) rfl
 have c2 : w.cell? ⟨b, 2, none⟩ = some (.int .i64 ot) := Blk.val h (i := 2) rfl
 have c3 : w.cell? ⟨b, 3, none⟩ = some (.int .i64 oc) := Blk.val h (i := 3) rfl
 have c4 : w.cell? ⟨b, 4, none⟩ = some (.int .i64 on) := Blk.val h (i := 4) rfl
 have c5 : w.cell? ⟨b, 5, none⟩ = some (.int .u8 ra) := Blk.val h (i := 5) rfl
 have c6 : w.cell? ⟨b, 6, none⟩ = some (.int .u64 rk) := Blk.val h (i := 6) rfl
 have c7 : w.cell? ⟨b, 7, none⟩ = some (.int .i64 rt) := Blk.val h (i := 7) rfl
 have c8 : w.cell? ⟨b, 8, none⟩ = some (.int .i64 rc) := Blk.val h (i := 8) rfl
 have c9 : w.cell? ⟨b, 9, none⟩ = some (.int .i64 rs) := Blk.val h (i := 9) rfl
 have hz := Blk.free h
 have hb := Blk.size h
 have H := Lib.hid h
 clear h
 have hne : b ≠ w.heap.size := by omega
 have hne' : ¬ b = w.heap.size := by omega
 by_cases hs : s = 0
 · subst hs
   rw [if_pos rfl, if_pos rfl, show ((0 : Int) == 0) = true from rfl]
   go_enter Tryz.func98, Tryz.ntmps98
   go_upto_region 4 with (go_at_call 144; refine (bx_is b 0 0 _ (Blk.val (Blk.alloc_ H.out _) (i := 0) rfl)).mono ?_; rintro e w1 ⟨rfl, rfl⟩)
   refine wp_worldx (fun wx => BoxAt wx b 0 ⟨pk, pt, pc, pn⟩ ⟨ra, rk, rt, rc, rs⟩ ∧ Kept (fun k => k = b) w wx) ⟨Blk.alloc_ (Blk.set_ (Blk.set_ (Blk.set_ (Blk.set_ (H.out) 1 (.int .u8 pk)) 2 (.int .i64 pt)) 3 (.int .i64 pc)) 4 (.int .i64 pn)) _, by repeat (first | with_reducible exact Kept.refl _ _ | refine Kept.set_ ?_ (by first | exact .inl rfl | simp) _ | refine Kept.alloc_ ?_ _)⟩ ?_
   rintro wx ⟨h1, h2⟩
   have H1 := Lib.hid h1
   have H2 := Lib.hid h2
   have c0 := Blk.val h1 (i := 0) rfl
   have z0 := Blk.free h1 0
   clear h1 h2
   go_wp2_with (go_at_call 145; refine (astore32 b 0 1 (.int .i32 0) _ c0 z0).mono ?_; rintro e w1 ⟨⟨v, rfl⟩, rfl⟩)
   go_ret
   exact ⟨rfl, Blk.set_ H1.out 0 _, H2.out.set_ (p := ⟨b, 0, none⟩) (.inl rfl) _⟩
 · rw [if_neg hs, if_neg hs, show (s == 0) = false from beq_eq_false_iff_ne.2 hs]
   have hf : (s == 0) = false := beq_eq_false_iff_ne.2 hs
   go_enter Tryz.func98, Tryz.ntmps98
   go_wp2_with (first | (go_at_call 144; refine (bx_is b s 0 _ (Blk.val (Blk.alloc_ H.out _) (i := 0) rfl)).mono ?_; rintro e w1 ⟨rfl, rfl⟩))
   go_ret
   exact ⟨rfl, Blk.alloc_ H.out _, (Kept.refl _ _).alloc_ _⟩
set_option maxHeartbeats 800000 in
theorem bx_fin (b : Nat) (s : Int) (o : OpV) (r : ReV) (p : ReV) (w : World) (h : BoxAt w b s o r) :
   Calls Tryz.prog 110 #[.pointer (some ⟨b, 0, none⟩), p.v] w fun e w' => e = .returned (.bool (s == 1)) ∧ BoxAt w' b (if s = 1 then 2 else s) o (if s = 1 then p else r) ∧ Kept (fun k => k = b) w w' := by
 obtain ⟨ok, ot, oc, on⟩ := o
 obtain ⟨ra, rk, rt, rc, rs⟩ := r
 obtain ⟨qa, qk, qt, qc, qs⟩ := p
 have c0 : w.cell? ⟨b, 0, none⟩ = some (.int .i32 s) := Blk.val h (i := 0) rfl
 have c1 : w.cell? ⟨b, 1, none⟩ = some (.int .u8 ok) := Blk.val h (i := 1) rfl
 have c2 : w.cell? ⟨b, 2, none⟩ = some (.int .i64 ot) := Blk.val h (i := 2) rfl
 have c3 : w.cell? ⟨b, 3, none⟩ = some (.int .i64 oc) := Blk.val h (i := 3) rfl
 have c4 : w.cell? ⟨b, 4, none⟩ = some (.int .i64 on) := Blk.val h (i := 4) rfl
 have c5 : w.cell? ⟨b, 5, none⟩ = some (.int .u8 ra) := Blk.val h (i := 5) rfl
 have c6 : w.cell? ⟨b, 6, none⟩ = some (.int .u64 rk) := Blk.val h (i := 6) rfl
 have c7 : w.cell? ⟨b, 7, none⟩ = some (.int .i64 rt) := Blk.val h (i := 7) rfl
 have c8 : w.cell? ⟨b, 8, none⟩ = some (.int .i64 rc) := Blk.val h (i := 8) rfl
 have c9 : w.cell? ⟨b, 9, none⟩ = some (.int .i64 rs) := Blk.val h (i := 9) rfl
 have hz := Blk.free h
 have hb := Blk.size h
 have H := Lib.hid h
 clear h
 have hne : b ≠ w.heap.size := by omega
 have hne' : ¬ b = w.heap.size := by omega
 by_cases hs : s = 1
 · subst hs
   rw [if_pos rfl, if_pos rfl, show ((1 : Int) == 1) = true from rfl]
   go_enter Tryz.func110, Tryz.ntmps110
   go_upto_region 4 with (go_at_call 144; refine (bx_is b 1 1 _ (Blk.val (Blk.alloc_ H.out _) (i := 0) rfl)).mono ?_; rintro e w1 ⟨rfl, rfl⟩)
   refine wp_worldx (fun wx => BoxAt wx b 1 ⟨ok, ot, oc, on⟩ ⟨qa, qk, qt, qc, qs⟩ ∧ Kept (fun k => k = b) w wx) ⟨Blk.alloc_ (Blk.set_ (Blk.set_ (Blk.set_ (Blk.set_ (Blk.set_ (H.out) 5 (.int .u8 qa)) 6 (.int .u64 qk)) 7 (.int .i64 qt)) 8 (.int .i64 qc)) 9 (.int .i64 qs)) _, by repeat (first | with_reducible exact Kept.refl _ _ | refine Kept.set_ ?_ (by first | exact .inl rfl | simp) _ | refine Kept.alloc_ ?_ _)⟩ ?_
   rintro wx ⟨h1, h2⟩
   have H1 := Lib.hid h1
   have H2 := Lib.hid h2
   have c0 := Blk.val h1 (i := 0) rfl
   have z0 := Blk.free h1 0
   clear h1 h2
   go_wp2_with (go_at_call 145; refine (astore32 b 0 2 (.int .i32 1) _ c0 z0).mono ?_; rintro e w1 ⟨⟨v, rfl⟩, rfl⟩)
   go_ret
   exact ⟨rfl, Blk.set_ H1.out 0 _, H2.out.set_ (p := ⟨b, 0, none⟩) (.inl rfl) _⟩
 · rw [if_neg hs, if_neg hs, show (s == 1) = false from beq_eq_false_iff_ne.2 hs]
   have hf : (s == 1) = false := beq_eq_false_iff_ne.2 hs
   go_enter Tryz.func110, Tryz.ntmps110
   go_wp2_with (first | (go_at_call 144; refine (bx_is b s 1 _ (Blk.val (Blk.alloc_ H.out _) (i := 0) rfl)).mono ?_; rintro e w1 ⟨rfl, rfl⟩))
   go_ret
   exact ⟨rfl, Blk.alloc_ H.out _, (Kept.refl _ _).alloc_ _⟩
set_option maxHeartbeats 800000 in
theorem bx_op (b : Nat) (s : Int) (o : OpV) (r : ReV) (w : World) (h : BoxAt w b s o r) :
   Calls Tryz.prog 108 #[.pointer (some ⟨b, 0, none⟩)] w fun e w' => e = .returned (.tuple #[(if s = 1 then o else op0).v, .bool (s == 1)]) ∧ Below w.heap.size w w' := by
 obtain ⟨ok, ot, oc, on⟩ := o
 obtain ⟨ra, rk, rt, rc, rs⟩ := r
 have c0 : w.cell? ⟨b, 0, none⟩ = some (.int .i32 s) := Blk.val h (i := 0) rfl
 have c1 : w.cell? ⟨b, 1, none⟩ = some (.int .u8 ok) := Blk.val h (i := 1) rfl
 have c2 : w.cell? ⟨b, 2, none⟩ = some (.int .i64 ot) := Blk.val h (i := 2) rfl
 have c3 : w.cell? ⟨b, 3, none⟩ = some (.int .i64 oc) := Blk.val h (i := 3) rfl
 have c4 : w.cell? ⟨b, 4, none⟩ = some (.int .i64 on) := Blk.val h (i := 4) rfl
 have c5 : w.cell? ⟨b, 5, none⟩ = some (.int .u8 ra) := Blk.val h (i := 5) rfl
 have c6 : w.cell? ⟨b, 6, none⟩ = some (.int .u64 rk) := Blk.val h (i := 6) rfl
 have c7 : w.cell? ⟨b, 7, none⟩ = some (.int .i64 rt) := Blk.val h (i := 7) rfl
 have c8 : w.cell? ⟨b, 8, none⟩ = some (.int .i64 rc) := Blk.val h (i := 8) rfl
 have c9 : w.cell? ⟨b, 9, none⟩ = some (.int .i64 rs) := Blk.val h (i := 9) rfl
 have hz := Blk.free h
 have hb := Blk.size h
 have H := Lib.hid h
 clear h
 have hne : b ≠ w.heap.size := by omega
 have hne' : ¬ b = w.heap.size := by omega
 by_cases hs : s = 1
 · subst hs
   rw [if_pos rfl, show ((1 : Int) == 1) = true from rfl]
   go_enter Tryz.func108, Tryz.ntmps108
   go_wp2_with (go_at_call 144; refine (bx_is b 1 1 _ (Blk.val (Blk.alloc_ H.out _) (i := 0) rfl)).mono ?_; rintro e w1 ⟨rfl, rfl⟩)
   refine bodyPost_ret (v := .tuple #[.agg #[.int .u8 ok, .int .i64 ot, .int .i64 oc, .int .i64 on], .bool true]) (by simp [results, Tryz.results108, go_sem, *]) rfl ⟨rfl, ?_⟩
   repeat (first | with_reducible exact Below.refl _ _ | refine Below.setCell ?_ (by simp) _ | refine Below.alloc ?_ (by simp) _)
 · rw [if_neg hs, show (s == 1) = false from beq_eq_false_iff_ne.2 hs]
   have hf : (s == 1) = false := beq_eq_false_iff_ne.2 hs
   go_enter Tryz.func108, Tryz.ntmps108
   go_wp2_with (first | (go_at_call 144; refine (bx_is b s 1 _ (Blk.val (Blk.alloc_ H.out _) (i := 0) rfl)).mono ?_; rintro e w1 ⟨rfl, rfl⟩))
   refine bodyPost_ret (v := .tuple #[.agg #[.int .u8 0, .int .i64 0, .int .i64 0, .int .i64 0], .bool false]) (by simp [results, Tryz.results108, go_sem, *]) rfl ⟨rfl, ?_⟩
   repeat (first | with_reducible exact Below.refl _ _ | refine Below.setCell ?_ (by simp) _ | refine Below.alloc ?_ (by simp) _)
set_option maxHeartbeats 800000 in
theorem bx_col (b : Nat) (s : Int) (o : OpV) (r : ReV) (w : World) (h : BoxAt w b s o r) :
   Calls Tryz.prog 104 #[.pointer (some ⟨b, 0, none⟩)] w fun e w' => e = .returned (.tuple #[(if s = 2 then r else re0).v, .bool (s == 2)]) ∧ BoxAt w' b (if s = 2 then 0 else s) o r ∧ Kept (fun k => k = b) w w' := by
 obtain ⟨ok, ot, oc, on⟩ := o
 obtain ⟨ra, rk, rt, rc, rs⟩ := r
 have c0 : w.cell? ⟨b, 0, none⟩ = some (.int .i32 s) := Blk.val h (i := 0) rfl
 have c1 : w.cell? ⟨b, 1, none⟩ = some (.int .u8 ok) := Blk.val h (i := 1) rfl
 have c2 : w.cell? ⟨b, 2, none⟩ = some (.int .i64 ot) := Blk.val h (i := 2) rfl
 have c3 : w.cell? ⟨b, 3, none⟩ = some (.int .i64 oc) := Blk.val h (i := 3) rfl
 have c4 : w.cell? ⟨b, 4, none⟩ = some (.int .i64 on) := Blk.val h (i := 4) rfl
 have c5 : w.cell? ⟨b, 5, none⟩ = some (.int .u8 ra) := Blk.val h (i := 5) rfl
 have c6 : w.cell? ⟨b, 6, none⟩ = some (.int .u64 rk) := Blk.val h (i := 6) rfl
 have c7 : w.cell? ⟨b, 7, none⟩ = some (.int .i64 rt) := Blk.val h (i := 7) rfl
 have c8 : w.cell? ⟨b, 8, none⟩ = some (.int .i64 rc) := Blk.val h (i := 8) rfl
 have c9 : w.cell? ⟨b, 9, none⟩ = some (.int .i64 rs) := Blk.val h (i := 9) rfl
 have hz := Blk.free h
 have hb := Blk.size h
 have H := Lib.hid h
 clear h
 have hne : b ≠ w.heap.size := by omega
 have hne' : ¬ b = w.heap.size := by omega
 by_cases hs : s = 2
 · subst hs
   rw [if_pos rfl, if_pos rfl, show ((2 : Int) == 2) = true from rfl]
   go_enter Tryz.func104, Tryz.ntmps104
   go_upto_region 4 with (go_at_call 144; refine (bx_is b 2 2 _ (Blk.val (Blk.alloc_ H.out _) (i := 0) rfl)).mono ?_; rintro e w1 ⟨rfl, rfl⟩)
   refine wp_worldx (fun wx => BoxAt wx b 2 ⟨ok, ot, oc, on⟩ ⟨ra, rk, rt, rc, rs⟩ ∧ Blk wx w.heap.size 39 #[.int .u8 0, .int .u64 0, .int .i64 0, .int .i64 0, .int .i64 0] ∧ Blk wx (w.heap.size + 1) 39 #[.int .u8 ra, .int .u64 rk, .int .i64 rt, .int .i64 rc, .int .i64 rs] ∧ Kept (fun k => k = b) w wx) ⟨Blk.alloc_ (Blk.alloc_ H.out _) _, Blk.alloc_ (Blk.made _ _ _) _, Blk.new_ (by simp), by repeat (first | with_reducible exact Kept.refl _ _ | refine Kept.alloc_ ?_ _)⟩ ?_
   have hhs : b < w.heap.size := hb
   obtain ⟨g, hg⟩ : ∃ g, w.heap.size = g := ⟨_, rfl⟩
   rw [hg] at hhs ⊢
   rintro wx ⟨h1, h2, h3, h4⟩
   have H1 := Lib.hid h1
   have H2 := Lib.hid h2
   have H4 := Lib.hid h4
   have HG := Lib.hid hg
   have n0 := Blk.size h2
   have e0 := Blk.val h1 (i := 0) rfl
   have y0 := Blk.free h1 0
   have f0 := Blk.val h2 (i := 0) rfl
   have g0 := Blk.val h3 (i := 0) rfl
   have f1 := Blk.val h2 (i := 1) rfl
   have g1 := Blk.val h3 (i := 1) rfl
   have f2 := Blk.val h2 (i := 2) rfl
   have g2 := Blk.val h3 (i := 2) rfl
   have f3 := Blk.val h2 (i := 3) rfl
   have g3 := Blk.val h3 (i := 3) rfl
   have f4 := Blk.val h2 (i := 4) rfl
   have g4 := Blk.val h3 (i := 4) rfl
   have y1 := Blk.free h2
   clear h1 h2 h3 h4 hg
   go_wp2_with (go_at_call 145; refine (astore32 b 0 0 (.int .i32 2) _ e0 y0).mono ?_; rintro e w1 ⟨⟨v, rfl⟩, rfl⟩)
   refine bodyPost_ret (v := .tuple #[.agg #[.int .u8 ra, .int .u64 rk, .int .i64 rt, .int .i64 rc, .int .i64 rs], .bool true]) (by simp [results, Tryz.results104, go_sem, *]) rfl ⟨rfl, ?_⟩
   refine ⟨?_, ?_⟩
   · have hk : Blk (wx.setCell ⟨b, 0, none⟩ (.int .i32 0)) b 190 #[.int .i32 0, .int .u8 ok, .int .i64 ot, .int .i64 oc, .int .i64 on, .int .u8 ra, .int .u64 rk, .int .i64 rt, .int .i64 rc, .int .i64 rs] := Blk.set_ H1.out 0 _
     show Blk _ b 190 #[.int .i32 0, .int .u8 ok, .int .i64 ot, .int .i64 oc, .int .i64 on, .int .u8 ra, .int .u64 rk, .int .i64 rt, .int .i64 rc, .int .i64 rs]
     repeat (first | with_reducible exact hk | with_reducible refine Blk.far ?_ _ (by simp; omega))
   · have hsz := HG.out
     repeat (first | with_reducible exact H4.out | refine Kept.set_ ?_ (by first | exact .inl rfl | (right; simp; omega)) _)
 · rw [if_neg hs, if_neg hs, show (s == 2) = false from beq_eq_false_iff_ne.2 hs]
   have hf : (s == 2) = false := beq_eq_false_iff_ne.2 hs
   go_enter Tryz.func104, Tryz.ntmps104
   go_wp2_with (first | (go_at_call 144; refine (bx_is b s 2 _ (Blk.val (Blk.alloc_ H.out _) (i := 0) rfl)).mono ?_; rintro e w1 ⟨rfl, rfl⟩))
   refine bodyPost_ret (v := .tuple #[.agg #[.int .u8 0, .int .u64 0, .int .i64 0, .int .i64 0, .int .i64 0], .bool false]) (by simp [results, Tryz.results104, go_sem, *]) rfl ⟨rfl, ?_⟩
   exact ⟨Blk.alloc_ H.out _, (Kept.refl _ _).alloc_ _⟩
end Go.Proofs.YtcffeokbipjaoaaGreat
namespace Go.Proofs.YtcffeokbipjaoaaGreat
open Go.RowKit
set_option linter.unusedVariables false
set_option linter.unusedSimpArgs false
structure CaV where
 nx : Int
 op : OpV
 ac : Option Ac
 lf : Int
 sv : Int
 re : ReV
structure BxV where
 s : Int
 o : OpV
 r : ReV
structure ApV where
 t : Int
 k : Int
 o : OpV
 r : ReV
structure FrS where
 N : Nat
 n : Nat
 S : Cor
 g : Rg
 lo : Int
 clk : Int
 ca : Nat → CaV
 bx : Nat → BxV
 L : List ApV
def ca0 : CaV := ⟨0, op0, none, 0, 0, re0⟩
def bx0 : BxV := ⟨0, op0, re0⟩
def postB (b : BxV) (p : OpV) : BxV := ⟨if b.s = 0 then 1 else b.s, if b.s = 0 then p else b.o, b.r⟩
def finB (b : BxV) (r : ReV) : BxV := ⟨if b.s = 1 then 2 else b.s, b.o, if b.s = 1 then r else b.r⟩
def colB (b : BxV) : BxV := ⟨if b.s = 2 then 0 else b.s, b.o, b.r⟩
def opB (b : BxV) : OpV := if b.s = 1 then b.o else op0
abbrev FrS.setCa (F : FrS) (i : Nat) (c : CaV) : FrS := { F with ca := upd F.ca i c }
abbrev FrS.setBx (F : FrS) (i : Nat) (b : BxV) : FrS := { F with bx := upd F.bx i b }
def entryA (F : FrS) (i : Nat) : Ac := if F.N ≤ F.n then ⟨5, 0, 0, (i : Int), 0, false, false⟩ else ⟨2, 0, 0, (i : Int), 0, false, false⟩
def nextC (c : CaV) : CaV := if c.lf = 0 then { c with nx := 8 } else { c with ac := some popA, nx := 5 }
def acOf (c : CaV) : Ac := c.ac.getD popA
noncomputable def doR (S : Cor) (now : Int) (o : OpV) : ReV :=
 ⟨(doV_resv S now o.k o.t o.c o.n).choose, (doV_resv S now o.k o.t o.c o.n).choose_spec.choose, (doV_resv S now o.k o.t o.c o.n).choose_spec.choose_spec.choose, (doV_resv S now o.k o.t o.c o.n).choose_spec.choose_spec.choose_spec.choose, (doV_resv S now o.k o.t o.c o.n).choose_spec.choose_spec.choose_spec.choose_spec.choose⟩
theorem doR_eq (S : Cor) (now : Int) (o : OpV) : doV S now o.k o.t o.c o.n = (doR S now o).v := (doV_resv S now o.k o.t o.c o.n).choose_spec.choose_spec.choose_spec.choose_spec.choose_spec
noncomputable def doO (S : Cor) (now : Int) (o : OpV) : Cor := doS S now o.k o.t o.c o.n
def busyR : ReV := ⟨11, 0, 0, 0, 0⟩
def fsPost (F : FrS) (i : Nat) : FrS := (F.setBx i (postB (F.bx i) (F.ca i).op)).setCa i { F.ca i with ac := some (entryA F i), nx := 2 }
def fsJoin (F : FrS) (i : Nat) : FrS :=
 if endE (acS F.n F.g (acOf (F.ca i))).nx = false then ({ F with g := rgS F.n F.g (acOf (F.ca i)) }).setCa i { F.ca i with ac := some (acS F.n F.g (acOf (F.ca i))) } else
 if (acS F.n F.g (acOf (F.ca i))).nx = 1 then ({ F with g := rgS F.n F.g (acOf (F.ca i)) }).setCa i { F.ca i with ac := some (acS F.n F.g (acOf (F.ca i))), nx := 3 } else
 (({ F with g := rgS F.n F.g (acOf (F.ca i)) }).setBx i (colB (finB (F.bx i) re0))).setCa i ca0
def frJoin (F : FrS) (i : Nat) : ReV × Bool :=
 if endE (acS F.n F.g (acOf (F.ca i))).nx = false then (re0, false) else if (acS F.n F.g (acOf (F.ca i))).nx = 1 then (re0, false) else (busyR, true)
def fsWait (F : FrS) (i : Nat) : FrS :=
 if (F.bx i).s = 2 then (F.setBx i (colB (F.bx i))).setCa i ca0 else F.setCa i { F.ca i with nx := 4 }
def frWait (F : FrS) (i : Nat) : ReV × Bool := if (F.bx i).s = 2 then ((F.bx i).r, true) else (re0, false)
def fsTry (F : FrS) (i : Nat) : FrS :=
 if F.lo = -1 then ({ F with lo := (i : Int) }).setCa i (nextC { F.ca i with lf := (F.N : Int) }) else F.setCa i { F.ca i with nx := 3 }
def fsTake (F : FrS) (i : Nat) : FrS :=
 if endE (acS F.n F.g (acOf (F.ca i))).nx = false then ({ F with g := rgS F.n F.g (acOf (F.ca i)) }).setCa i { F.ca i with ac := some (acS F.n F.g (acOf (F.ca i))) } else
 if (acS F.n F.g (acOf (F.ca i))).nx = 1 then ({ F with g := rgS F.n F.g (acOf (F.ca i)) }).setCa i { F.ca i with ac := some (acS F.n F.g (acOf (F.ca i))), sv := (acS F.n F.g (acOf (F.ca i))).pp, nx := 6 } else
 ({ F with g := rgS F.n F.g (acOf (F.ca i)) }).setCa i { F.ca i with ac := some (acS F.n F.g (acOf (F.ca i))), nx := 8 }
noncomputable def apV (F : FrS) (i : Nat) : ApV := ⟨(F.ca i).sv, F.clk, opB (F.bx (F.ca i).sv.toNat), doR F.S F.clk (opB (F.bx (F.ca i).sv.toNat))⟩
noncomputable def applyB (F : FrS) (i : Nat) : FrS := { F with S := doO F.S F.clk (opB (F.bx (F.ca i).sv.toNat)), L := F.L ++ [apV F i] }
noncomputable def fsApply (F : FrS) (i : Nat) : FrS := (applyB F i).setCa i { F.ca i with re := (apV F i).r, nx := 7 }
def fsTell (F : FrS) (i : Nat) : FrS :=
 (F.setBx (F.ca i).sv.toNat (finB (F.bx (F.ca i).sv.toNat) (F.ca i).re)).setCa i (nextC { F.ca i with lf := (F.ca i).lf - 1 })
def fsFree (F : FrS) (i : Nat) : FrS :=
 ({ F with lo := if F.lo = (i : Int) then -1 else F.lo }).setCa i { F.ca i with nx := 3 }
noncomputable def fsStep (F : FrS) (i : Nat) : FrS :=
 if (F.ca i).nx = 1 then fsPost F i else if (F.ca i).nx = 2 then fsJoin F i else if (F.ca i).nx = 3 then fsWait F i else if (F.ca i).nx = 4 then fsTry F i else
 if (F.ca i).nx = 5 then fsTake F i else if (F.ca i).nx = 6 then fsApply F i else if (F.ca i).nx = 7 then fsTell F i else if (F.ca i).nx = 8 then fsFree F i else F
def frStep (F : FrS) (i : Nat) : ReV × Bool := if (F.ca i).nx = 2 then frJoin F i else if (F.ca i).nx = 3 then frWait F i else (re0, false)
def OpV.ok (o : OpV) : Prop := (0 ≤ o.k ∧ o.k ≤ 255) ∧ I64_ o.t ∧ I64_ o.c ∧ I64_ o.n
structure CaOk (N B : Nat) (c : CaV) : Prop where
 nx : 0 ≤ c.nx ∧ c.nx ≤ 8
 act : c.nx = 2 ∨ c.nx = 5 → c.ac ≠ none
 ac : ∀ a, c.ac = some a → AcOk N B a
 sv : 0 ≤ c.sv ∧ c.sv < N
 lf : 0 ≤ c.lf ∧ c.lf ≤ 16
 lf1 : c.nx = 5 ∨ c.nx = 6 ∨ c.nx = 7 → 1 ≤ c.lf
 op : c.op.ok
structure FOk (F : FrS) (B : Nat) : Prop where
 N1 : 1 ≤ F.N
 N2 : F.N ≤ 16
 n1 : 2 ≤ F.n
 n2 : F.n ≤ 64
 g : RgOk F.N B F.g
 ca : ∀ i, CaOk F.N B (F.ca i)
 bo : ∀ i, (F.bx i).o.ok
 clk : I64_ F.clk
theorem CaOk.mono {N B B' : Nat} {c : CaV} (h : CaOk N B c) (hb : B ≤ B') : CaOk N B' c := ⟨h.nx, h.act, fun a ha => (h.ac a ha).mono hb, h.sv, h.lf, h.lf1, h.op⟩
theorem FOk.mono {F : FrS} {B B' : Nat} (h : FOk F B) (hb : B ≤ B') : FOk F B' := ⟨h.N1, h.N2, h.n1, h.n2, h.g.mono hb, fun i => (h.ca i).mono hb, h.bo, h.clk⟩
theorem FOk.setCa {F : FrS} {B : Nat} (h : FOk F B) (i : Nat) {c : CaV} (hc : CaOk F.N B c) : FOk (F.setCa i c) B :=
 ⟨h.N1, h.N2, h.n1, h.n2, h.g, fun j => by show CaOk F.N B (upd F.ca i c j); unfold upd; split; exact hc; exact h.ca j, h.bo, h.clk⟩
theorem FOk.setBx {F : FrS} {B : Nat} (h : FOk F B) (i : Nat) {b : BxV} (hb : b.o.ok) : FOk (F.setBx i b) B :=
 ⟨h.N1, h.N2, h.n1, h.n2, h.g, h.ca, fun j => by show ((upd F.bx i b j).o).ok; unfold upd; split; exact hb; exact h.bo j, h.clk⟩
theorem op0_ok : op0.ok := by unfold OpV.ok op0 I64_; simp
theorem ca0_ok {N B : Nat} (hN : 1 ≤ N) : CaOk N B ca0 := ⟨by simp [ca0], fun h => by simp [ca0] at h, fun a h => by simp [ca0] at h, by constructor <;> simp [ca0]; omega, by simp [ca0], fun h => by simp [ca0] at h, op0_ok⟩
theorem FOk.acOf {F : FrS} {B : Nat} (h : FOk F B) (i : Nat) : AcOk F.N B (acOf (F.ca i)) := by
 unfold Go.Proofs.YtcffeokbipjaoaaGreat.acOf
 cases hc : (F.ca i).ac with
 | none => exact ⟨Nat.zero_le _, Nat.zero_le _, ⟨Int.le_refl _, by show (0 : Int) < _; have := h.N1; omega⟩, ⟨Int.le_refl _, by show (0 : Int) < _; have := h.N1; omega⟩, by show (0 : Int) ≤ 7 ∧ (7 : Int) ≤ 10; omega⟩
 | some a => exact (h.ca i).ac a hc
theorem nextC_ok {N B : Nat} {c : CaV} (hN : 1 ≤ N) (hac : ∀ a, c.ac = some a → AcOk N B a) (hsv : 0 ≤ c.sv ∧ c.sv < N) (hlf : 0 ≤ c.lf ∧ c.lf ≤ 16) (hop : c.op.ok) : CaOk N B (nextC c) := by
 unfold nextC
 split
 · exact ⟨by show (0 : Int) ≤ 8 ∧ (8 : Int) ≤ 8; omega, fun h => by simp at h, hac, hsv, hlf, fun h => by simp at h, hop⟩
 · exact ⟨by show (0 : Int) ≤ 5 ∧ (5 : Int) ≤ 8; omega, fun _ => by simp, fun a ha => by simp at ha; rw [← ha]; exact popA_ok hN, hsv, hlf, fun _ => by show 1 ≤ c.lf; omega, hop⟩
theorem fs_post_ok {F : FrS} {B : Nat} (h : FOk F B) {i : Nat} (hi : i < F.N) : FOk (fsPost F i) B := by
 have hc := h.ca i
 refine FOk.setCa (h.setBx i ?_) i ⟨by show (0 : Int) ≤ 2 ∧ (2 : Int) ≤ 8; omega, fun _ => by simp, fun a ha => ?_, hc.sv, hc.lf, fun h => by simp at h, hc.op⟩
 · show (if (F.bx i).s = 0 then (F.ca i).op else (F.bx i).o).ok
   split
   · exact hc.op
   · exact h.bo i
 · have h1 := h.N1
   simp at ha
   rw [← ha]
   unfold entryA
   split
   · exact ⟨Nat.zero_le _, Nat.zero_le _, ⟨by show (0 : Int) ≤ (i : Int); omega, by show (i : Int) < (F.N : Int); omega⟩, ⟨Int.le_refl _, by show (0 : Int) < (F.N : Int); omega⟩, by show (0 : Int) ≤ 5 ∧ (5 : Int) ≤ 10; omega⟩
   · exact ⟨Nat.zero_le _, Nat.zero_le _, ⟨by show (0 : Int) ≤ (i : Int); omega, by show (i : Int) < (F.N : Int); omega⟩, ⟨Int.le_refl _, by show (0 : Int) < (F.N : Int); omega⟩, by show (0 : Int) ≤ 2 ∧ (2 : Int) ≤ 10; omega⟩
theorem FOk.setG {F : FrS} {B : Nat} (h : FOk F B) (i : Nat) : FOk { F with g := rgS F.n F.g (Go.Proofs.YtcffeokbipjaoaaGreat.acOf (F.ca i)) } (B + 1) :=
 ⟨h.N1, h.N2, h.n1, h.n2, rgS_ok h.g (h.acOf i) h.n2, fun j => (h.ca j).mono (Nat.le_succ B), h.bo, h.clk⟩
theorem finB_ok {b : BxV} {r : ReV} (h : b.o.ok) : (finB b r).o.ok := h
theorem colB_ok {b : BxV} (h : b.o.ok) : (colB b).o.ok := h
theorem fs_join_ok {F : FrS} {B : Nat} (h : FOk F B) (i : Nat) (hx : (F.ca i).nx = 2) : FOk (fsJoin F i) (B + 1) := by
 have hc := (h.ca i).mono (Nat.le_succ B)
 have ha := acS_ok (n := F.n) h.g (h.acOf i)
 unfold fsJoin
 split
 · exact FOk.setCa (h.setG i) i ⟨hc.nx, fun _ => by simp, fun a e => by simp at e; rw [← e]; exact ha, hc.sv, hc.lf, hc.lf1, hc.op⟩
 split
 · exact FOk.setCa (h.setG i) i ⟨by show (0 : Int) ≤ 3 ∧ (3 : Int) ≤ 8; omega, fun e => by simp at e, fun a e => by simp at e; rw [← e]; exact ha, hc.sv, hc.lf, fun e => by simp at e, hc.op⟩
 · exact FOk.setCa (FOk.setBx (h.setG i) i (colB_ok (finB_ok (h.bo i)))) i (ca0_ok h.N1)
theorem fs_wait_ok {F : FrS} {B : Nat} (h : FOk F B) (i : Nat) : FOk (fsWait F i) B := by
 have hc := h.ca i
 unfold fsWait
 split
 · exact FOk.setCa (h.setBx i (colB_ok (h.bo i))) i (ca0_ok h.N1)
 · exact h.setCa i ⟨by show (0 : Int) ≤ 4 ∧ (4 : Int) ≤ 8; omega, fun e => by simp at e, hc.ac, hc.sv, hc.lf, fun e => by simp at e, hc.op⟩
theorem FOk.setLo {F : FrS} {B : Nat} (h : FOk F B) (x : Int) : FOk { F with lo := x } B := ⟨h.N1, h.N2, h.n1, h.n2, h.g, h.ca, h.bo, h.clk⟩
theorem fs_try_ok {F : FrS} {B : Nat} (h : FOk F B) (i : Nat) : FOk (fsTry F i) B := by
 have hc := h.ca i
 have n2 := h.N2
 unfold fsTry
 split
 · exact FOk.setCa (h.setLo _) i (nextC_ok h.N1 hc.ac hc.sv (by show (0 : Int) ≤ (F.N : Int) ∧ (F.N : Int) ≤ 16; omega) hc.op)
 · exact h.setCa i ⟨by show (0 : Int) ≤ 3 ∧ (3 : Int) ≤ 8; omega, fun e => by simp at e, hc.ac, hc.sv, hc.lf, fun e => by simp at e, hc.op⟩
theorem fs_take_ok {F : FrS} {B : Nat} (h : FOk F B) (i : Nat) (hx : (F.ca i).nx = 5) : FOk (fsTake F i) (B + 1) := by
 have hc := (h.ca i).mono (Nat.le_succ B)
 have ha := acS_ok (n := F.n) h.g (h.acOf i)
 have h1 := hc.lf1 (.inl hx)
 unfold fsTake
 split
 · exact FOk.setCa (h.setG i) i ⟨hc.nx, fun _ => by simp, fun a e => by simp at e; rw [← e]; exact ha, hc.sv, hc.lf, hc.lf1, hc.op⟩
 split
 · exact FOk.setCa (h.setG i) i ⟨by show (0 : Int) ≤ 6 ∧ (6 : Int) ≤ 8; omega, fun e => by simp at e, fun a e => by simp at e; rw [← e]; exact ha, ha.pp, hc.lf, fun _ => h1, hc.op⟩
 · exact FOk.setCa (h.setG i) i ⟨by show (0 : Int) ≤ 8 ∧ (8 : Int) ≤ 8; omega, fun e => by simp at e, fun a e => by simp at e; rw [← e]; exact ha, hc.sv, hc.lf, fun e => by simp at e, hc.op⟩
theorem fs_apply_ok {F : FrS} {B : Nat} (h : FOk F B) (i : Nat) (hx : (F.ca i).nx = 6) : FOk (fsApply F i) B := by
 have hc := h.ca i
 have h1 := hc.lf1 (.inr (.inl hx))
 have h2 : FOk (applyB F i) B := ⟨h.N1, h.N2, h.n1, h.n2, h.g, h.ca, h.bo, h.clk⟩
 exact h2.setCa i ⟨by show (0 : Int) ≤ 7 ∧ (7 : Int) ≤ 8; omega, fun e => by simp at e, hc.ac, hc.sv, hc.lf, fun _ => h1, hc.op⟩
theorem fs_tell_ok {F : FrS} {B : Nat} (h : FOk F B) (i : Nat) (hx : (F.ca i).nx = 7) : FOk (fsTell F i) B := by
 have hc := h.ca i
 have h1 := hc.lf1 (.inr (.inr hx))
 exact FOk.setCa (h.setBx _ (finB_ok (h.bo _))) i (nextC_ok h.N1 hc.ac hc.sv (by show 0 ≤ (F.ca i).lf - 1 ∧ (F.ca i).lf - 1 ≤ 16; have := hc.lf; omega) hc.op)
theorem fs_free_ok {F : FrS} {B : Nat} (h : FOk F B) (i : Nat) : FOk (fsFree F i) B := by
 have hc := h.ca i
 exact FOk.setCa (h.setLo _) i ⟨by show (0 : Int) ≤ 3 ∧ (3 : Int) ≤ 8; omega, fun e => by simp at e, hc.ac, hc.sv, hc.lf, fun e => by simp at e, hc.op⟩
theorem fs_step_ok {F : FrS} {B : Nat} (h : FOk F B) {i : Nat} (hi : i < F.N) : FOk (fsStep F i) (B + 1) := by
 unfold fsStep
 split
 · exact (fs_post_ok h hi).mono (Nat.le_succ B)
 split
 · exact fs_join_ok h i (by assumption)
 split
 · exact (fs_wait_ok h i).mono (Nat.le_succ B)
 split
 · exact (fs_try_ok h i).mono (Nat.le_succ B)
 split
 · exact fs_take_ok h i (by assumption)
 split
 · exact (fs_apply_ok h i (by assumption)).mono (Nat.le_succ B)
 split
 · exact (fs_tell_ok h i (by assumption)).mono (Nat.le_succ B)
 split
 · exact (fs_free_ok h i).mono (Nat.le_succ B)
 · exact h.mono (Nat.le_succ B)
theorem fs_step_K (F : FrS) (i : Nat) : (fsStep F i).S.K ≤ F.S.K + 1 := by
 unfold fsStep
 split
 · exact Nat.le_succ _
 split
 · unfold fsJoin; split; exact Nat.le_succ _; split <;> exact Nat.le_succ _
 split
 · unfold fsWait; split <;> exact Nat.le_succ _
 split
 · unfold fsTry; split <;> exact Nat.le_succ _
 split
 · unfold fsTake; split; exact Nat.le_succ _; split <;> exact Nat.le_succ _
 split
 · exact doS_K _ _ _ _ _ _
 split
 · exact Nat.le_succ _
 split
 · exact Nat.le_succ _
 · exact Nat.le_succ _
end Go.Proofs.YtcffeokbipjaoaaGreat
