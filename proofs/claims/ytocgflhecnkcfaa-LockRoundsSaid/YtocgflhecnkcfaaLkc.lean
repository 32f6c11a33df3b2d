/- The document's boxes. -/
import Derived.Test.YtocgflhecnkcfaaLkb
namespace Go.Proofs.Ytocgflhecnkcfaa
open Go.RowKit
set_option linter.unusedVariables false
set_option linter.unusedSimpArgs false
set_option maxHeartbeats 1600000 in
theorem dx_post (b : Nat) (s : Int) (o : OpV) (r : ReV) (p : OpV) (w : World) (h : DBox w b s o r) :
    Calls Try.prog 16 #[.pointer (some ⟨b, 0, none⟩), p.v] w fun e w' => e = .returned (.bool (s == 0)) ∧ DBox w' b (if s = 0 then 1 else s) (if s = 0 then p else o) r ∧ Kept (fun k => k = b) w w' := by
  obtain ⟨ok, ot, oc, on⟩ := o
  obtain ⟨ra, rk, rt, rc, rs⟩ := r
  obtain ⟨pk, pt, pc, pn⟩ := p
  have c0 : w.cell? ⟨b, 0, none⟩ = some (.int .i64 s) := Blk.val h (i := 0) rfl
  have c1 : w.cell? ⟨b, 1, none⟩ = some (.int .u8 ok) := Blk.val h (i := 1) rfl
  have c2 : w.cell? ⟨b, 2, none⟩ = some (.int .i64 ot) := Blk.val h (i := 2) rfl
  have c3 : w.cell? ⟨b, 3, none⟩ = some (.int .i64 oc) := Blk.val h (i := 3) rfl
  have c4 : w.cell? ⟨b, 4, none⟩ = some (.int .i64 on) := Blk.val h (i := 4) rfl
  have c5 : w.cell? ⟨b, 5, none⟩ = some (.int .u8 ra) := Blk.val h (i := 5) rfl
  have c6 : w.cell? ⟨b, 6, none⟩ = some (.int .u64 rk) := Blk.val h (i := 6) rfl
  have c7 : w.cell? ⟨b, 7, none⟩ = some (.int .i64 rt) := Blk.val h (i := 7) rfl
  have c8 : w.cell? ⟨b, 8, none⟩ = some (.int .i64 rc) := Blk.val h (i := 8) rfl
  have c9 : w.cell? ⟨b, 9, none⟩ = some (.int .i64 rs) := Blk.val h (i := 9) rfl
  have hz := Blk.free h
  have hb := Blk.size h
  have H := Lib.hid h
  clear h
  have hne : b ≠ w.heap.size := by omega
  have hne' : ¬ b = w.heap.size := by omega
  by_cases hs : s = 0
  · subst hs
    rw [if_pos rfl, if_pos rfl, show ((0 : Int) == 0) = true from rfl]
    go_enter Try.func16, Try.ntmps16
    go_upto_region 3 with fail
    refine wp_worldx (fun wx => Blk wx b 45 #[.int .i64 0, .int .u8 ok, .int .i64 ot, .int .i64 oc, .int .i64 on, .int .u8 ra, .int .u64 rk, .int .i64 rt, .int .i64 rc, .int .i64 rs] ∧ Blk wx w.heap.size 40 #[.int .u8 pk, .int .i64 pt, .int .i64 pc, .int .i64 pn] ∧ Kept (fun k => k = b) w wx) ⟨Blk.alloc_ H.out _, Blk.made _ _ _, (Kept.refl _ _).alloc_ _⟩ ?_
    clear c0 c1 c2 c3 c4 c5 c6 c7 c8 c9
    obtain ⟨g, hg⟩ : ∃ g, w.heap.size = g := ⟨_, rfl⟩
    rw [hg] at hne hne' ⊢
    clear hb
    rintro wx ⟨h1, h2, h3⟩
    have H1 := Lib.hid h1
    have H3 := Lib.hid h3
    have y0 : wx.cell? ⟨g, 0, none⟩ = some (.int .u8 pk) := h2.val (i := 0) rfl
    have y1 : wx.cell? ⟨g, 1, none⟩ = some (.int .i64 pt) := h2.val (i := 1) rfl
    have y2 : wx.cell? ⟨g, 2, none⟩ = some (.int .i64 pc) := h2.val (i := 2) rfl
    have y3 : wx.cell? ⟨g, 3, none⟩ = some (.int .i64 pn) := h2.val (i := 3) rfl
    have x0 : wx.cell? ⟨b, 0, none⟩ = some (.int .i64 0) := h1.val (i := 0) rfl
    have x1 : wx.cell? ⟨b, 1, none⟩ = some (.int .u8 ok) := h1.val (i := 1) rfl
    have x2 : wx.cell? ⟨b, 2, none⟩ = some (.int .i64 ot) := h1.val (i := 2) rfl
    have x3 : wx.cell? ⟨b, 3, none⟩ = some (.int .i64 oc) := h1.val (i := 3) rfl
    have x4 : wx.cell? ⟨b, 4, none⟩ = some (.int .i64 on) := h1.val (i := 4) rfl
    have x5 : wx.cell? ⟨b, 5, none⟩ = some (.int .u8 ra) := h1.val (i := 5) rfl
    have x6 : wx.cell? ⟨b, 6, none⟩ = some (.int .u64 rk) := h1.val (i := 6) rfl
    have x7 : wx.cell? ⟨b, 7, none⟩ = some (.int .i64 rt) := h1.val (i := 7) rfl
    have x8 : wx.cell? ⟨b, 8, none⟩ = some (.int .i64 rc) := h1.val (i := 8) rfl
    have x9 : wx.cell? ⟨b, 9, none⟩ = some (.int .i64 rs) := h1.val (i := 9) rfl
    have zb : ∀ k, wx.frozen? ⟨b, k, none⟩ = false := h1.free
    have ngb : g ≠ b := Ne.symm hne
    clear h1 h2 h3 hg hz H
    go_region_held3 (fun w' => w'.cell? ⟨g, 0, none⟩ = some (.int .u8 pk) ∧ w'.cell? ⟨g, 1, none⟩ = some (.int .i64 pt) ∧ w'.cell? ⟨g, 2, none⟩ = some (.int .i64 pc) ∧ w'.cell? ⟨g, 3, none⟩ = some (.int .i64 pn)) (repeat (first | with_reducible assumption | refine ⟨?_, ?_⟩ | with_reducible refine kdrew ?_ | refine kset ?_ (by (try simp); (try omega)))) (fail)
    go_wp2
    go_ret
    exact ⟨rfl, Blk.drew_ (Blk.set_ (Blk.set_ (Blk.set_ (Blk.set_ (Blk.set_ (H1.out) 0 (.int .i64 1)) 1 (.int .u8 pk)) 2 (.int .i64 pt)) 3 (.int .i64 pc)) 4 (.int .i64 pn)), Kept.drew_ (Kept.set_ (Kept.set_ (Kept.set_ (Kept.set_ (Kept.set_ (H3.out) (p := ⟨b, 0, none⟩) (.inl rfl) (.int .i64 1)) (p := ⟨b, 1, none⟩) (.inl rfl) (.int .u8 pk)) (p := ⟨b, 2, none⟩) (.inl rfl) (.int .i64 pt)) (p := ⟨b, 3, none⟩) (.inl rfl) (.int .i64 pc)) (p := ⟨b, 4, none⟩) (.inl rfl) (.int .i64 pn))⟩
  · rw [if_neg hs, if_neg hs, show (s == 0) = false from beq_eq_false_iff_ne.2 hs]
    have hf : (s == 0) = false := beq_eq_false_iff_ne.2 hs
    go_enter Try.func16, Try.ntmps16
    go_wp2
    go_ret
    exact ⟨rfl, Blk.alloc_ H.out _, (Kept.refl _ _).alloc_ _⟩
set_option maxHeartbeats 1600000 in
theorem dx_fin (b : Nat) (s : Int) (o : OpV) (r : ReV) (p : ReV) (w : World) (h : DBox w b s o r) :
    Calls Try.prog 19 #[.pointer (some ⟨b, 0, none⟩), p.v] w fun e w' => e = .returned (.bool (s == 1)) ∧ DBox w' b (if s = 1 then 2 else s) o (if s = 1 then p else r) ∧ Kept (fun k => k = b) w w' := by
  obtain ⟨ok, ot, oc, on⟩ := o
  obtain ⟨ra, rk, rt, rc, rs⟩ := r
  obtain ⟨qa, qk, qt, qc, qs⟩ := p
  have c0 : w.cell? ⟨b, 0, none⟩ = some (.int .i64 s) := Blk.val h (i := 0) rfl
  have c1 : w.cell? ⟨b, 1, none⟩ = some (.int .u8 ok) := Blk.val h (i := 1) rfl
  have c2 : w.cell? ⟨b, 2, none⟩ = some (.int .i64 ot) := Blk.val h (i := 2) rfl
  have c3 : w.cell? ⟨b, 3, none⟩ = some (.int .i64 oc) := Blk.val h (i := 3) rfl
  have c4 : w.cell? ⟨b, 4, none⟩ = some (.int .i64 on) := Blk.val h (i := 4) rfl
  have c5 : w.cell? ⟨b, 5, none⟩ = some (.int .u8 ra) := Blk.val h (i := 5) rfl
  have c6 : w.cell? ⟨b, 6, none⟩ = some (.int .u64 rk) := Blk.val h (i := 6) rfl
  have c7 : w.cell? ⟨b, 7, none⟩ = some (.int .i64 rt) := Blk.val h (i := 7) rfl
  have c8 : w.cell? ⟨b, 8, none⟩ = some (.int .i64 rc) := Blk.val h (i := 8) rfl
  have c9 : w.cell? ⟨b, 9, none⟩ = some (.int .i64 rs) := Blk.val h (i := 9) rfl
  have hz := Blk.free h
  have hb := Blk.size h
  have H := Lib.hid h
  clear h
  have hne : b ≠ w.heap.size := by omega
  have hne' : ¬ b = w.heap.size := by omega
  by_cases hs : s = 1
  · subst hs
    rw [if_pos rfl, if_pos rfl, show ((1 : Int) == 1) = true from rfl]
    go_enter Try.func19, Try.ntmps19
    go_upto_region 3 with fail
    refine wp_worldx (fun wx => Blk wx b 45 #[.int .i64 1, .int .u8 ok, .int .i64 ot, .int .i64 oc, .int .i64 on, .int .u8 ra, .int .u64 rk, .int .i64 rt, .int .i64 rc, .int .i64 rs] ∧ Blk wx w.heap.size 43 #[.int .u8 qa, .int .u64 qk, .int .i64 qt, .int .i64 qc, .int .i64 qs] ∧ Kept (fun k => k = b) w wx) ⟨Blk.alloc_ H.out _, Blk.made _ _ _, (Kept.refl _ _).alloc_ _⟩ ?_
    clear c0 c1 c2 c3 c4 c5 c6 c7 c8 c9
    obtain ⟨g, hg⟩ : ∃ g, w.heap.size = g := ⟨_, rfl⟩
    rw [hg] at hne hne' ⊢
    clear hb
    rintro wx ⟨h1, h2, h3⟩
    have H1 := Lib.hid h1
    have H3 := Lib.hid h3
    have y0 : wx.cell? ⟨g, 0, none⟩ = some (.int .u8 qa) := h2.val (i := 0) rfl
    have y1 : wx.cell? ⟨g, 1, none⟩ = some (.int .u64 qk) := h2.val (i := 1) rfl
    have y2 : wx.cell? ⟨g, 2, none⟩ = some (.int .i64 qt) := h2.val (i := 2) rfl
    have y3 : wx.cell? ⟨g, 3, none⟩ = some (.int .i64 qc) := h2.val (i := 3) rfl
    have y4 : wx.cell? ⟨g, 4, none⟩ = some (.int .i64 qs) := h2.val (i := 4) rfl
    have x0 : wx.cell? ⟨b, 0, none⟩ = some (.int .i64 1) := h1.val (i := 0) rfl
    have x1 : wx.cell? ⟨b, 1, none⟩ = some (.int .u8 ok) := h1.val (i := 1) rfl
    have x2 : wx.cell? ⟨b, 2, none⟩ = some (.int .i64 ot) := h1.val (i := 2) rfl
    have x3 : wx.cell? ⟨b, 3, none⟩ = some (.int .i64 oc) := h1.val (i := 3) rfl
    have x4 : wx.cell? ⟨b, 4, none⟩ = some (.int .i64 on) := h1.val (i := 4) rfl
    have x5 : wx.cell? ⟨b, 5, none⟩ = some (.int .u8 ra) := h1.val (i := 5) rfl
    have x6 : wx.cell? ⟨b, 6, none⟩ = some (.int .u64 rk) := h1.val (i := 6) rfl
    have x7 : wx.cell? ⟨b, 7, none⟩ = some (.int .i64 rt) := h1.val (i := 7) rfl
    have x8 : wx.cell? ⟨b, 8, none⟩ = some (.int .i64 rc) := h1.val (i := 8) rfl
    have x9 : wx.cell? ⟨b, 9, none⟩ = some (.int .i64 rs) := h1.val (i := 9) rfl
    have zb : ∀ k, wx.frozen? ⟨b, k, none⟩ = false := h1.free
    have ngb : g ≠ b := Ne.symm hne
    clear h1 h2 h3 hg hz H
    go_region_held3 (fun w' => w'.cell? ⟨g, 0, none⟩ = some (.int .u8 qa) ∧ w'.cell? ⟨g, 1, none⟩ = some (.int .u64 qk) ∧ w'.cell? ⟨g, 2, none⟩ = some (.int .i64 qt) ∧ w'.cell? ⟨g, 3, none⟩ = some (.int .i64 qc) ∧ w'.cell? ⟨g, 4, none⟩ = some (.int .i64 qs)) (repeat (first | with_reducible assumption | refine ⟨?_, ?_⟩ | with_reducible refine kdrew ?_ | refine kset ?_ (by (try simp); (try omega)))) (fail)
    go_wp2
    go_ret
    exact ⟨rfl, Blk.drew_ (Blk.set_ (Blk.set_ (Blk.set_ (Blk.set_ (Blk.set_ (Blk.set_ (H1.out) 0 (.int .i64 2)) 5 (.int .u8 qa)) 6 (.int .u64 qk)) 7 (.int .i64 qt)) 8 (.int .i64 qc)) 9 (.int .i64 qs)), Kept.drew_ (Kept.set_ (Kept.set_ (Kept.set_ (Kept.set_ (Kept.set_ (Kept.set_ (H3.out) (p := ⟨b, 0, none⟩) (.inl rfl) (.int .i64 2)) (p := ⟨b, 5, none⟩) (.inl rfl) (.int .u8 qa)) (p := ⟨b, 6, none⟩) (.inl rfl) (.int .u64 qk)) (p := ⟨b, 7, none⟩) (.inl rfl) (.int .i64 qt)) (p := ⟨b, 8, none⟩) (.inl rfl) (.int .i64 qc)) (p := ⟨b, 9, none⟩) (.inl rfl) (.int .i64 qs))⟩
  · rw [if_neg hs, if_neg hs, show (s == 1) = false from beq_eq_false_iff_ne.2 hs]
    have hf : (s == 1) = false := beq_eq_false_iff_ne.2 hs
    go_enter Try.func19, Try.ntmps19
    go_wp2
    go_ret
    exact ⟨rfl, Blk.alloc_ H.out _, (Kept.refl _ _).alloc_ _⟩
set_option maxHeartbeats 1600000 in
theorem dx_col (b : Nat) (s : Int) (o : OpV) (r : ReV) (w : World) (h : DBox w b s o r) :
    Calls Try.prog 21 #[.pointer (some ⟨b, 0, none⟩)] w fun e w' => e = .returned (.tuple #[(if s = 2 then r else re0).v, .bool (s == 2)]) ∧ DBox w' b (if s = 2 then 0 else s) o r ∧ Kept (fun k => k = b) w w' := by
  obtain ⟨ok, ot, oc, on⟩ := o
  obtain ⟨ra, rk, rt, rc, rs⟩ := r
  have c0 : w.cell? ⟨b, 0, none⟩ = some (.int .i64 s) := Blk.val h (i := 0) rfl
  have c1 : w.cell? ⟨b, 1, none⟩ = some (.int .u8 ok) := Blk.val h (i := 1) rfl
  have c2 : w.cell? ⟨b, 2, none⟩ = some (.int .i64 ot) := Blk.val h (i := 2) rfl
  have c3 : w.cell? ⟨b, 3, none⟩ = some (.int .i64 oc) := Blk.val h (i := 3) rfl
  have c4 : w.cell? ⟨b, 4, none⟩ = some (.int .i64 on) := Blk.val h (i := 4) rfl
  have c5 : w.cell? ⟨b, 5, none⟩ = some (.int .u8 ra) := Blk.val h (i := 5) rfl
  have c6 : w.cell? ⟨b, 6, none⟩ = some (.int .u64 rk) := Blk.val h (i := 6) rfl
  have c7 : w.cell? ⟨b, 7, none⟩ = some (.int .i64 rt) := Blk.val h (i := 7) rfl
  have c8 : w.cell? ⟨b, 8, none⟩ = some (.int .i64 rc) := Blk.val h (i := 8) rfl
  have c9 : w.cell? ⟨b, 9, none⟩ = some (.int .i64 rs) := Blk.val h (i := 9) rfl
  have hz := Blk.free h
  have hb := Blk.size h
  have H := Lib.hid h
  clear h
  have hne : b ≠ w.heap.size := by omega
  have hne' : ¬ b = w.heap.size := by omega
  by_cases hs : s = 2
  · subst hs
    rw [if_pos rfl, if_pos rfl, show ((2 : Int) == 2) = true from rfl]
    go_enter Try.func21, Try.ntmps21
    go_upto_region 4 with fail
    refine wp_worldx (fun wx => Blk wx b 45 #[.int .i64 0, .int .u8 ok, .int .i64 ot, .int .i64 oc, .int .i64 on, .int .u8 ra, .int .u64 rk, .int .i64 rt, .int .i64 rc, .int .i64 rs] ∧ Blk wx w.heap.size 43 #[.int .u8 0, .int .u64 0, .int .i64 0, .int .i64 0, .int .i64 0] ∧ Kept (fun k => k = b) w wx) ⟨Blk.alloc_ (Blk.set_ H.out 0 _) _, Blk.new_ (by simp), by repeat (first | with_reducible exact Kept.refl _ _ | refine Kept.set_ ?_ (by first | exact .inl rfl | simp) _ | refine Kept.alloc_ ?_ _)⟩ ?_
    clear c0 c1 c2 c3 c4 c5 c6 c7 c8 c9
    obtain ⟨g, hg⟩ : ∃ g, w.heap.size = g := ⟨_, rfl⟩
    rw [hg] at hne hne' ⊢
    rintro wx ⟨h1, h2, h3⟩
    have H1 := Lib.hid h1
    have H3 := Lib.hid h3
    have hgg := Lib.hid hg
    have y0 := h2.val (i := 0) rfl
    have x5 := h1.val (i := 5) rfl
    have y1 := h2.val (i := 1) rfl
    have x6 := h1.val (i := 6) rfl
    have y2 := h2.val (i := 2) rfl
    have x7 := h1.val (i := 7) rfl
    have y3 := h2.val (i := 3) rfl
    have x8 := h1.val (i := 8) rfl
    have y4 := h2.val (i := 4) rfl
    have x9 := h1.val (i := 9) rfl
    have zg : ∀ k, wx.frozen? ⟨g, k, none⟩ = false := h2.free
    clear h1 h2 h3 hg hz H hb
    go_wp2
    refine bodyPost_ret (v := .tuple #[.agg #[.int .u8 ra, .int .u64 rk, .int .i64 rt, .int .i64 rc, .int .i64 rs], .bool true]) (by simp [results, Try.results21, go_sem, *]) rfl ⟨rfl, ?_, ?_⟩
    · show Blk _ b 45 #[.int .i64 0, .int .u8 ok, .int .i64 ot, .int .i64 oc, .int .i64 on, .int .u8 ra, .int .u64 rk, .int .i64 rt, .int .i64 rc, .int .i64 rs]
      repeat (first | with_reducible exact H1.out | with_reducible refine Blk.far ?_ _ (by simp; omega))
    · have hsz := hgg.out
      repeat (first | with_reducible exact H3.out | refine Kept.set_ ?_ (by first | exact .inl rfl | (right; simp; omega)) _)
  · rw [if_neg hs, if_neg hs, show (s == 2) = false from beq_eq_false_iff_ne.2 hs]
    have hf : (s == 2) = false := beq_eq_false_iff_ne.2 hs
    go_enter Try.func21, Try.ntmps21
    go_wp2
    refine bodyPost_ret (v := .tuple #[.agg #[.int .u8 0, .int .u64 0, .int .i64 0, .int .i64 0, .int .i64 0], .bool false]) (by simp [results, Try.results21, go_sem, *]) rfl ⟨rfl, ?_⟩
    exact ⟨Blk.alloc_ H.out _, (Kept.refl _ _).alloc_ _⟩
end Go.Proofs.Ytocgflhecnkcfaa
