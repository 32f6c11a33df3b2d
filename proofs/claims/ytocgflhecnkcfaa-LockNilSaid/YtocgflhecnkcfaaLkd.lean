/- Nil locks and boxes; the example. -/
import Derived.Test.YtocgflhecnkcfaaLkc
namespace Go.Proofs.Ytocgflhecnkcfaa
open Go.RowKit
set_option linter.unusedVariables false
set_option linter.unusedSimpArgs false
set_option maxHeartbeats 400000 in
theorem ln_try (i : Int) (w : World) : Calls Try.prog 9 #[.pointer none, .int .i64 i] w fun e w' => e = .returned (.bool false) ∧ w = w' := by
  go_enter Try.func9, Try.ntmps9
  go_wp2
  go_ret
  exact ⟨rfl, rfl⟩
set_option maxHeartbeats 400000 in
theorem ln_free (i : Int) (w : World) : Calls Try.prog 11 #[.pointer none, .int .i64 i] w fun e w' => e = .returned (.bool false) ∧ w = w' := by
  go_enter Try.func11, Try.ntmps11
  go_wp2
  go_ret
  exact ⟨rfl, rfl⟩
set_option maxHeartbeats 400000 in
theorem ln_owner (w : World) : Calls Try.prog 13 #[.pointer none] w fun e w' => e = .returned (.tuple #[.int .i64 0, .bool false]) ∧ w = w' := by
  go_enter Try.func13, Try.ntmps13
  go_wp2
  go_ret2
  exact ⟨rfl, rfl⟩
set_option maxHeartbeats 400000 in
theorem bn_state (w : World) : Calls Try.prog 22 #[.pointer none] w fun e w' => e = .returned (.int .i64 0) ∧ w = w' := by
  go_enter Try.func22, Try.ntmps22
  go_wp2
  go_ret
  exact ⟨rfl, rfl⟩
set_option maxHeartbeats 400000 in
theorem bn_post (p : OpV) (w : World) : Calls Try.prog 15 #[.pointer none, p.v] w fun e w' => e = .returned (.bool false) ∧ Below w.heap.size w w' := by
  obtain ⟨pk, pt, pc, pn⟩ := p
  go_enter Try.func15, Try.ntmps15
  go_wp2_with (go_at_call 26; refine (bx_is0 0 _).mono ?_; rintro e w1 ⟨rfl, rfl⟩)
  go_ret
  exact ⟨rfl, (Below.refl _ _).alloc (Nat.le_refl _) _⟩
set_option maxHeartbeats 400000 in
theorem bn_fin (p : ReV) (w : World) : Calls Try.prog 18 #[.pointer none, p.v] w fun e w' => e = .returned (.bool false) ∧ Below w.heap.size w w' := by
  obtain ⟨pk, pt, pc, pn, ps⟩ := p
  go_enter Try.func18, Try.ntmps18
  go_wp2_with (go_at_call 26; refine (bx_is0 1 _).mono ?_; rintro e w1 ⟨rfl, rfl⟩)
  go_ret
  exact ⟨rfl, (Below.refl _ _).alloc (Nat.le_refl _) _⟩
set_option maxHeartbeats 400000 in
theorem bn_op (w : World) : Calls Try.prog 17 #[.pointer none] w fun e w' => e = .returned (.tuple #[op0.v, .bool false]) ∧ Below w.heap.size w w' := by
  go_enter Try.func17, Try.ntmps17
  go_wp2_with (go_at_call 26; refine (bx_is0 1 _).mono ?_; rintro e w1 ⟨rfl, rfl⟩)
  refine bodyPost_ret (v := .tuple #[.agg #[.int .u8 0, .int .i64 0, .int .i64 0, .int .i64 0], .bool false]) (by simp [results, Try.results17, go_sem, *]) rfl ⟨rfl, ?_⟩
  repeat (first | with_reducible exact Below.refl _ _ | refine Below.setCell ?_ (by simp) _ | refine Below.alloc ?_ (by simp) _)
set_option maxHeartbeats 400000 in
theorem bn_col (w : World) : Calls Try.prog 20 #[.pointer none] w fun e w' => e = .returned (.tuple #[re0.v, .bool false]) ∧ Below w.heap.size w w' := by
  go_enter Try.func20, Try.ntmps20
  go_wp2_with (go_at_call 26; refine (bx_is0 2 _).mono ?_; rintro e w1 ⟨rfl, rfl⟩)
  refine bodyPost_ret (v := .tuple #[.agg #[.int .u8 0, .int .u64 0, .int .i64 0, .int .i64 0, .int .i64 0], .bool false]) (by simp [results, Try.results20, go_sem, *]) rfl ⟨rfl, ?_⟩
  repeat (first | with_reducible exact Below.refl _ _ | refine Below.setCell ?_ (by simp) _ | refine Below.alloc ?_ (by simp) _)
theorem dk_try_ (l : Nat) (o i : Int) (w : World) (h : DLk w l o) (ho : -1 ≤ o) :
    Calls Try.prog 10 #[.pointer (some ⟨l, 0, none⟩), .int .i64 i] w fun e w' => e = .returned (.bool (decide (0 ≤ i ∧ o = -1))) ∧ DLk w' l (if 0 ≤ i ∧ o = -1 then i else o) ∧ Kept (fun k => k = l) w w' := by
  have e : (o < 0) = (o = -1) := propext ⟨fun h => by omega, fun h => by omega⟩
  have := dk_try l o i w h
  simp only [e] at this
  exact this
/-! ### The example -/
set_option maxHeartbeats 1600000 in
theorem awake19 (w : World) : Calls Try.prog 7 #[] w fun e w' => e = .returned (.bool true) ∧ Below w.heap.size w w' := by
  go_enter Try.func7, Try.ntmps7
  go_wp2_with fail
  refine (lk_new _).mono ?_
  rintro e w1 ⟨rfl, h1, b1⟩
  obtain ⟨l, hl⟩ : ∃ l, w.heap.size = l := ⟨_, rfl⟩
  rw [hl] at h1 b1 ⊢
  go_wp2_with fail
  refine (lk_try _ _ 1 _ h1).mono ?_
  rintro e w2 ⟨rfl, h2, k2⟩
  clear h1
  replace h2 : LkAt w2 l 1 := h2
  have b2 : Below l w w2 := b1.trans (k2.below (fun k hk => by omega) (by have := b1.size; omega))
  clear k2 b1
  go_wp2_with fail
  refine (lk_try _ _ 2 _ h2).mono ?_
  rintro e w3 ⟨rfl, h3, k3⟩
  clear h2
  replace h3 : LkAt w3 l 1 := h3
  have b3 : Below l w w3 := b2.trans (k3.below (fun k hk => by omega) (by have := b2.size; omega))
  clear k3 b2
  go_wp2_with fail
  refine (lk_free _ _ 2 _ h3).mono ?_
  rintro e w4 ⟨rfl, h4, k4⟩
  clear h3
  replace h4 : LkAt w4 l 1 := h4
  have b4 : Below l w w4 := b3.trans (k4.below (fun k hk => by omega) (by have := b3.size; omega))
  clear k4 b3
  go_wp2_with fail
  refine (lk_free _ _ 1 _ h4).mono ?_
  rintro e w5 ⟨rfl, h5, k5⟩
  have b5 : Below l w w5 := b4.trans (k5.below (fun k hk => by omega) (by have := b4.size; omega))
  clear k5 b4 h4 h5
  go_wp2
  go_ret
  exact ⟨rfl, by rw [hl]; exact b5⟩
end Go.Proofs.Ytocgflhecnkcfaa
