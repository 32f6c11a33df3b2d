/- Boxes: the program's calls and the document's. -/
import Derived.Test.YtocgflhecnkcfaaLka
import Derived.Test.YtocgflhecnkcfaaBxs
namespace Go.Proofs.Ytocgflhecnkcfaa
open Go.RowKit
set_option linter.unusedVariables false
set_option linter.unusedSimpArgs false
section
variable {w w' : World} {b : Nat} {s : Int} {o : OpV} {r : ReV}
theorem BoxAt.st (h : BoxAt w b s o r) : w.cell? ⟨b, 0, none⟩ = some (.int .i32 s) := Blk.val h (i := 0) rfl
end
set_option maxHeartbeats 400000 in
theorem bx_is (b : Nat) (s q : Int) (w : World) (hc : w.cell? ⟨b, 0, none⟩ = some (.int .i32 s)) :
    Calls Try.prog 26 #[.pointer (some ⟨b, 0, none⟩), .int .i32 q] w fun e w' => e = .returned (.bool (s == q)) ∧ w = w' := by
  go_enter Try.func26, Try.ntmps26
  go_wp2_with (go_at_call 28; refine (aload32 _ _ _ _ hc).mono ?_; rintro e w1 ⟨rfl, rfl⟩)
  go_ret
  exact ⟨rfl, rfl⟩
set_option maxHeartbeats 400000 in
theorem bx_is0 (q : Int) (w : World) :
    Calls Try.prog 26 #[.pointer none, .int .i32 q] w fun e w' => e = .returned (.bool false) ∧ w = w' := by
  go_enter Try.func26, Try.ntmps26
  go_wp2
  go_ret
  exact ⟨rfl, rfl⟩
set_option maxHeartbeats 400000 in
theorem bx_new (w : World) :
    Calls Try.prog 14 #[] w fun e w' => e = .returned (.pointer (some ⟨w.heap.size, 0, none⟩)) ∧ BoxAt w' w.heap.size 0 op0 re0 ∧ Below w.heap.size w w' := by
  go_enter Try.func14, Try.ntmps14
  go_wp2
  go_ret
  exact ⟨rfl, Blk.made _ _ _, (Below.refl _ _).alloc (Nat.le_refl _) _⟩
set_option maxHeartbeats 400000 in
theorem bx_state (b : Nat) (s : Int) (o : OpV) (r : ReV) (w : World) (h : BoxAt w b s o r) (h0 : 0 ≤ s) (h1 : s ≤ 2) :
    Calls Try.prog 22 #[.pointer (some ⟨b, 0, none⟩)] w fun e w' => e = .returned (.int .i64 s) ∧ w = w' := by
  have hc := h.st
  clear h
  have hw : IntKind.i64.wrap s = s := IntWalk.i64_in _ (by omega)
  go_enter Try.func22, Try.ntmps22
  go_wp2_with (go_at_call 28; refine (aload32 _ _ _ _ hc).mono ?_; rintro e w1 ⟨rfl, rfl⟩)
  go_ret
  exact ⟨rfl, rfl⟩
/-! ### By cases -/
set_option maxHeartbeats 800000 in
theorem bx_post (b : Nat) (s : Int) (o : OpV) (r : ReV) (p : OpV) (w : World) (h : BoxAt w b s o r) :
    Calls Try.prog 15 #[.pointer (some ⟨b, 0, none⟩), p.v] w fun e w' => e = .returned (.bool (s == 0)) ∧ BoxAt w' b (if s = 0 then 1 else s) (if s = 0 then p else o) r ∧ Kept (fun k => k = b) w w' := by
  obtain ⟨ok, ot, oc, on⟩ := o
  obtain ⟨ra, rk, rt, rc, rs⟩ := r
  obtain ⟨pk, pt, pc, pn⟩ := p
  have c0 : w.cell? ⟨b, 0, none⟩ = some (.int .i32 s) := Blk.val h (i := 0) rfl
  have c1 : w.cell? ⟨b, 1, none⟩ = some (.int .u8 ok) := Blk.val h (i := 1) rfl
  have c2 : w.cell? ⟨b, 2, none⟩ = some (.int .i64 ot) := Blk.val h (i := 2) rfl
  have c3 : w.cell? ⟨b, 3, none⟩ = some (.int .i64 oc) := Blk.val h (i := 3) rfl
  have c4 : w.cell? ⟨b, 4, none⟩ = some (.int .i64 on) := Blk.val h (i := 4) rfl
  have c5 : w.cell? ⟨b, 5, none⟩ = some (.int .u8 ra) := Blk.val h (i := 5) rfl
  have c6 : w.cell? ⟨b, 6, none⟩ = some (.int .u64 rk) := Blk.val h (i := 6) rfl
  have c7 : w.cell? ⟨b, 7, none⟩ = some (.int .i64 rt) := Blk.val h (i := 7) rfl
  have c8 : w.cell? ⟨b, 8, none⟩ = some (.int .i64 rc) := Blk.val h (i := 8) rfl
  have c9 : w.cell? ⟨b, 9, none⟩ = some (.int .i64 rs) := Blk.val h (i := 9) rfl
  have hz := Blk.free h
  have hb := Blk.size h
  have H := Lib.hid h
  clear h
  have hne : b ≠ w.heap.size := by omega
  have hne' : ¬ b = w.heap.size := by omega
  by_cases hs : s = 0
  · subst hs
    rw [if_pos rfl, if_pos rfl, show ((0 : Int) == 0) = true from rfl]
    go_enter Try.func15, Try.ntmps15
    go_upto_region 4 with (go_at_call 26; refine (bx_is b 0 0 _ (Blk.val (Blk.alloc_ H.out _) (i := 0) rfl)).mono ?_; rintro e w1 ⟨rfl, rfl⟩)
    refine wp_worldx (fun wx => BoxAt wx b 0 ⟨pk, pt, pc, pn⟩ ⟨ra, rk, rt, rc, rs⟩ ∧ Kept (fun k => k = b) w wx) ⟨Blk.alloc_ (Blk.set_ (Blk.set_ (Blk.set_ (Blk.set_ (H.out) 1 (.int .u8 pk)) 2 (.int .i64 pt)) 3 (.int .i64 pc)) 4 (.int .i64 pn)) _, by repeat (first | with_reducible exact Kept.refl _ _ | refine Kept.set_ ?_ (by first | exact .inl rfl | simp) _ | refine Kept.alloc_ ?_ _)⟩ ?_
    rintro wx ⟨h1, h2⟩
    have H1 := Lib.hid h1
    have H2 := Lib.hid h2
    have c0 := Blk.val h1 (i := 0) rfl
    have z0 := Blk.free h1 0
    clear h1 h2
    go_wp2_with (go_at_call 27; refine (astore32 b 0 1 (.int .i32 0) _ c0 z0).mono ?_; rintro e w1 ⟨⟨v, rfl⟩, rfl⟩)
    go_ret
    exact ⟨rfl, Blk.set_ H1.out 0 _, H2.out.set_ (p := ⟨b, 0, none⟩) (.inl rfl) _⟩
  · rw [if_neg hs, if_neg hs, show (s == 0) = false from beq_eq_false_iff_ne.2 hs]
    have hf : (s == 0) = false := beq_eq_false_iff_ne.2 hs
    go_enter Try.func15, Try.ntmps15
    go_wp2_with (first | (go_at_call 26; refine (bx_is b s 0 _ (Blk.val (Blk.alloc_ H.out _) (i := 0) rfl)).mono ?_; rintro e w1 ⟨rfl, rfl⟩))
    go_ret
    exact ⟨rfl, Blk.alloc_ H.out _, (Kept.refl _ _).alloc_ _⟩
set_option maxHeartbeats 800000 in
theorem bx_fin (b : Nat) (s : Int) (o : OpV) (r : ReV) (p : ReV) (w : World) (h : BoxAt w b s o r) :
    Calls Try.prog 18 #[.pointer (some ⟨b, 0, none⟩), p.v] w fun e w' => e = .returned (.bool (s == 1)) ∧ BoxAt w' b (if s = 1 then 2 else s) o (if s = 1 then p else r) ∧ Kept (fun k => k = b) w w' := by
  obtain ⟨ok, ot, oc, on⟩ := o
  obtain ⟨ra, rk, rt, rc, rs⟩ := r
  obtain ⟨qa, qk, qt, qc, qs⟩ := p
  have c0 : w.cell? ⟨b, 0, none⟩ = some (.int .i32 s) := Blk.val h (i := 0) rfl
  have c1 : w.cell? ⟨b, 1, none⟩ = some (.int .u8 ok) := Blk.val h (i := 1) rfl
  have c2 : w.cell? ⟨b, 2, none⟩ = some (.int .i64 ot) := Blk.val h (i := 2) rfl
  have c3 : w.cell? ⟨b, 3, none⟩ = some (.int .i64 oc) := Blk.val h (i := 3) rfl
  have c4 : w.cell? ⟨b, 4, none⟩ = some (.int .i64 on) := Blk.val h (i := 4) rfl
  have c5 : w.cell? ⟨b, 5, none⟩ = some (.int .u8 ra) := Blk.val h (i := 5) rfl
  have c6 : w.cell? ⟨b, 6, none⟩ = some (.int .u64 rk) := Blk.val h (i := 6) rfl
  have c7 : w.cell? ⟨b, 7, none⟩ = some (.int .i64 rt) := Blk.val h (i := 7) rfl
  have c8 : w.cell? ⟨b, 8, none⟩ = some (.int .i64 rc) := Blk.val h (i := 8) rfl
  have c9 : w.cell? ⟨b, 9, none⟩ = some (.int .i64 rs) := Blk.val h (i := 9) rfl
  have hz := Blk.free h
  have hb := Blk.size h
  have H := Lib.hid h
  clear h
  have hne : b ≠ w.heap.size := by omega
  have hne' : ¬ b = w.heap.size := by omega
  by_cases hs : s = 1
  · subst hs
    rw [if_pos rfl, if_pos rfl, show ((1 : Int) == 1) = true from rfl]
    go_enter Try.func18, Try.ntmps18
    go_upto_region 4 with (go_at_call 26; refine (bx_is b 1 1 _ (Blk.val (Blk.alloc_ H.out _) (i := 0) rfl)).mono ?_; rintro e w1 ⟨rfl, rfl⟩)
    refine wp_worldx (fun wx => BoxAt wx b 1 ⟨ok, ot, oc, on⟩ ⟨qa, qk, qt, qc, qs⟩ ∧ Kept (fun k => k = b) w wx) ⟨Blk.alloc_ (Blk.set_ (Blk.set_ (Blk.set_ (Blk.set_ (Blk.set_ (H.out) 5 (.int .u8 qa)) 6 (.int .u64 qk)) 7 (.int .i64 qt)) 8 (.int .i64 qc)) 9 (.int .i64 qs)) _, by repeat (first | with_reducible exact Kept.refl _ _ | refine Kept.set_ ?_ (by first | exact .inl rfl | simp) _ | refine Kept.alloc_ ?_ _)⟩ ?_
    rintro wx ⟨h1, h2⟩
    have H1 := Lib.hid h1
    have H2 := Lib.hid h2
    have c0 := Blk.val h1 (i := 0) rfl
    have z0 := Blk.free h1 0
    clear h1 h2
    go_wp2_with (go_at_call 27; refine (astore32 b 0 2 (.int .i32 1) _ c0 z0).mono ?_; rintro e w1 ⟨⟨v, rfl⟩, rfl⟩)
    go_ret
    exact ⟨rfl, Blk.set_ H1.out 0 _, H2.out.set_ (p := ⟨b, 0, none⟩) (.inl rfl) _⟩
  · rw [if_neg hs, if_neg hs, show (s == 1) = false from beq_eq_false_iff_ne.2 hs]
    have hf : (s == 1) = false := beq_eq_false_iff_ne.2 hs
    go_enter Try.func18, Try.ntmps18
    go_wp2_with (first | (go_at_call 26; refine (bx_is b s 1 _ (Blk.val (Blk.alloc_ H.out _) (i := 0) rfl)).mono ?_; rintro e w1 ⟨rfl, rfl⟩))
    go_ret
    exact ⟨rfl, Blk.alloc_ H.out _, (Kept.refl _ _).alloc_ _⟩
set_option maxHeartbeats 800000 in
theorem bx_op (b : Nat) (s : Int) (o : OpV) (r : ReV) (w : World) (h : BoxAt w b s o r) :
    Calls Try.prog 17 #[.pointer (some ⟨b, 0, none⟩)] w fun e w' => e = .returned (.tuple #[(if s = 1 then o else op0).v, .bool (s == 1)]) ∧ Below w.heap.size w w' := by
  obtain ⟨ok, ot, oc, on⟩ := o
  obtain ⟨ra, rk, rt, rc, rs⟩ := r
  have c0 : w.cell? ⟨b, 0, none⟩ = some (.int .i32 s) := Blk.val h (i := 0) rfl
  have c1 : w.cell? ⟨b, 1, none⟩ = some (.int .u8 ok) := Blk.val h (i := 1) rfl
  have c2 : w.cell? ⟨b, 2, none⟩ = some (.int .i64 ot) := Blk.val h (i := 2) rfl
  have c3 : w.cell? ⟨b, 3, none⟩ = some (.int .i64 oc) := Blk.val h (i := 3) rfl
  have c4 : w.cell? ⟨b, 4, none⟩ = some (.int .i64 on) := Blk.val h (i := 4) rfl
  have c5 : w.cell? ⟨b, 5, none⟩ = some (.int .u8 ra) := Blk.val h (i := 5) rfl
  have c6 : w.cell? ⟨b, 6, none⟩ = some (.int .u64 rk) := Blk.val h (i := 6) rfl
  have c7 : w.cell? ⟨b, 7, none⟩ = some (.int .i64 rt) := Blk.val h (i := 7) rfl
  have c8 : w.cell? ⟨b, 8, none⟩ = some (.int .i64 rc) := Blk.val h (i := 8) rfl
  have c9 : w.cell? ⟨b, 9, none⟩ = some (.int .i64 rs) := Blk.val h (i := 9) rfl
  have hz := Blk.free h
  have hb := Blk.size h
  have H := Lib.hid h
  clear h
  have hne : b ≠ w.heap.size := by omega
  have hne' : ¬ b = w.heap.size := by omega
  by_cases hs : s = 1
  · subst hs
    rw [if_pos rfl, show ((1 : Int) == 1) = true from rfl]
    go_enter Try.func17, Try.ntmps17
    go_wp2_with (go_at_call 26; refine (bx_is b 1 1 _ (Blk.val (Blk.alloc_ H.out _) (i := 0) rfl)).mono ?_; rintro e w1 ⟨rfl, rfl⟩)
    refine bodyPost_ret (v := .tuple #[.agg #[.int .u8 ok, .int .i64 ot, .int .i64 oc, .int .i64 on], .bool true]) (by simp [results, Try.results17, go_sem, *]) rfl ⟨rfl, ?_⟩
    repeat (first | with_reducible exact Below.refl _ _ | refine Below.setCell ?_ (by simp) _ | refine Below.alloc ?_ (by simp) _)
  · rw [if_neg hs, show (s == 1) = false from beq_eq_false_iff_ne.2 hs]
    have hf : (s == 1) = false := beq_eq_false_iff_ne.2 hs
    go_enter Try.func17, Try.ntmps17
    go_wp2_with (first | (go_at_call 26; refine (bx_is b s 1 _ (Blk.val (Blk.alloc_ H.out _) (i := 0) rfl)).mono ?_; rintro e w1 ⟨rfl, rfl⟩))
    refine bodyPost_ret (v := .tuple #[.agg #[.int .u8 0, .int .i64 0, .int .i64 0, .int .i64 0], .bool false]) (by simp [results, Try.results17, go_sem, *]) rfl ⟨rfl, ?_⟩
    repeat (first | with_reducible exact Below.refl _ _ | refine Below.setCell ?_ (by simp) _ | refine Below.alloc ?_ (by simp) _)
set_option maxHeartbeats 800000 in
theorem bx_col (b : Nat) (s : Int) (o : OpV) (r : ReV) (w : World) (h : BoxAt w b s o r) :
    Calls Try.prog 20 #[.pointer (some ⟨b, 0, none⟩)] w fun e w' => e = .returned (.tuple #[(if s = 2 then r else re0).v, .bool (s == 2)]) ∧ BoxAt w' b (if s = 2 then 0 else s) o r ∧ Kept (fun k => k = b) w w' := by
  obtain ⟨ok, ot, oc, on⟩ := o
  obtain ⟨ra, rk, rt, rc, rs⟩ := r
  have c0 : w.cell? ⟨b, 0, none⟩ = some (.int .i32 s) := Blk.val h (i := 0) rfl
  have c1 : w.cell? ⟨b, 1, none⟩ = some (.int .u8 ok) := Blk.val h (i := 1) rfl
  have c2 : w.cell? ⟨b, 2, none⟩ = some (.int .i64 ot) := Blk.val h (i := 2) rfl
  have c3 : w.cell? ⟨b, 3, none⟩ = some (.int .i64 oc) := Blk.val h (i := 3) rfl
  have c4 : w.cell? ⟨b, 4, none⟩ = some (.int .i64 on) := Blk.val h (i := 4) rfl
  have c5 : w.cell? ⟨b, 5, none⟩ = some (.int .u8 ra) := Blk.val h (i := 5) rfl
  have c6 : w.cell? ⟨b, 6, none⟩ = some (.int .u64 rk) := Blk.val h (i := 6) rfl
  have c7 : w.cell? ⟨b, 7, none⟩ = some (.int .i64 rt) := Blk.val h (i := 7) rfl
  have c8 : w.cell? ⟨b, 8, none⟩ = some (.int .i64 rc) := Blk.val h (i := 8) rfl
  have c9 : w.cell? ⟨b, 9, none⟩ = some (.int .i64 rs) := Blk.val h (i := 9) rfl
  have hz := Blk.free h
  have hb := Blk.size h
  have H := Lib.hid h
  clear h
  have hne : b ≠ w.heap.size := by omega
  have hne' : ¬ b = w.heap.size := by omega
  by_cases hs : s = 2
  · subst hs
    rw [if_pos rfl, if_pos rfl, show ((2 : Int) == 2) = true from rfl]
    go_enter Try.func20, Try.ntmps20
    go_upto_region 4 with (go_at_call 26; refine (bx_is b 2 2 _ (Blk.val (Blk.alloc_ H.out _) (i := 0) rfl)).mono ?_; rintro e w1 ⟨rfl, rfl⟩)
    refine wp_worldx (fun wx => BoxAt wx b 2 ⟨ok, ot, oc, on⟩ ⟨ra, rk, rt, rc, rs⟩ ∧ Blk wx w.heap.size 47 #[.int .u8 0, .int .u64 0, .int .i64 0, .int .i64 0, .int .i64 0] ∧ Blk wx (w.heap.size + 1) 47 #[.int .u8 ra, .int .u64 rk, .int .i64 rt, .int .i64 rc, .int .i64 rs] ∧ Kept (fun k => k = b) w wx) ⟨Blk.alloc_ (Blk.alloc_ H.out _) _, Blk.alloc_ (Blk.made _ _ _) _, Blk.new_ (by simp), by repeat (first | with_reducible exact Kept.refl _ _ | refine Kept.alloc_ ?_ _)⟩ ?_
    have hhs : b < w.heap.size := hb
    obtain ⟨g, hg⟩ : ∃ g, w.heap.size = g := ⟨_, rfl⟩
    rw [hg] at hhs ⊢
    rintro wx ⟨h1, h2, h3, h4⟩
    have H1 := Lib.hid h1
    have H2 := Lib.hid h2
    have H4 := Lib.hid h4
    have HG := Lib.hid hg
    have n0 := Blk.size h2
    have e0 := Blk.val h1 (i := 0) rfl
    have y0 := Blk.free h1 0
    have f0 := Blk.val h2 (i := 0) rfl
    have g0 := Blk.val h3 (i := 0) rfl
    have f1 := Blk.val h2 (i := 1) rfl
    have g1 := Blk.val h3 (i := 1) rfl
    have f2 := Blk.val h2 (i := 2) rfl
    have g2 := Blk.val h3 (i := 2) rfl
    have f3 := Blk.val h2 (i := 3) rfl
    have g3 := Blk.val h3 (i := 3) rfl
    have f4 := Blk.val h2 (i := 4) rfl
    have g4 := Blk.val h3 (i := 4) rfl
    have y1 := Blk.free h2
    clear h1 h2 h3 h4 hg
    go_wp2_with (go_at_call 27; refine (astore32 b 0 0 (.int .i32 2) _ e0 y0).mono ?_; rintro e w1 ⟨⟨v, rfl⟩, rfl⟩)
    refine bodyPost_ret (v := .tuple #[.agg #[.int .u8 ra, .int .u64 rk, .int .i64 rt, .int .i64 rc, .int .i64 rs], .bool true]) (by simp [results, Try.results20, go_sem, *]) rfl ⟨rfl, ?_⟩
    refine ⟨?_, ?_⟩
    · have hk : Blk (wx.setCell ⟨b, 0, none⟩ (.int .i32 0)) b 79 #[.int .i32 0, .int .u8 ok, .int .i64 ot, .int .i64 oc, .int .i64 on, .int .u8 ra, .int .u64 rk, .int .i64 rt, .int .i64 rc, .int .i64 rs] := Blk.set_ H1.out 0 _
      show Blk _ b 79 #[.int .i32 0, .int .u8 ok, .int .i64 ot, .int .i64 oc, .int .i64 on, .int .u8 ra, .int .u64 rk, .int .i64 rt, .int .i64 rc, .int .i64 rs]
      repeat (first | with_reducible exact hk | with_reducible refine Blk.far ?_ _ (by simp; omega))
    · have hsz := HG.out
      repeat (first | with_reducible exact H4.out | refine Kept.set_ ?_ (by first | exact .inl rfl | (right; simp; omega)) _)
  · rw [if_neg hs, if_neg hs, show (s == 2) = false from beq_eq_false_iff_ne.2 hs]
    have hf : (s == 2) = false := beq_eq_false_iff_ne.2 hs
    go_enter Try.func20, Try.ntmps20
    go_wp2_with (first | (go_at_call 26; refine (bx_is b s 2 _ (Blk.val (Blk.alloc_ H.out _) (i := 0) rfl)).mono ?_; rintro e w1 ⟨rfl, rfl⟩))
    refine bodyPost_ret (v := .tuple #[.agg #[.int .u8 0, .int .u64 0, .int .i64 0, .int .i64 0, .int .i64 0], .bool false]) (by simp [results, Try.results20, go_sem, *]) rfl ⟨rfl, ?_⟩
    exact ⟨Blk.alloc_ H.out _, (Kept.refl _ _).alloc_ _⟩
end Go.Proofs.Ytocgflhecnkcfaa
