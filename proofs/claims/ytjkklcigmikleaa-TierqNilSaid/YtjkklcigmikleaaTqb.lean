/- A queue by tiers: what is only read. -/
import Derived.Test.YtjkklcigmikleaaTqa
import Derived.Test.YtjkklcigmikleaaBxs
namespace Go.Proofs.Ytjkklcigmikleaa
open Go.ChangeShapes Go.WideShapes Go.RowKit
set_option linter.unusedVariables false
set_option linter.unusedSimpArgs false
section
variable {q hs sp sc sf rp ra rb hp hb : Nat} {A : Option Addr} {N n m : Nat} {V H : Nat → Int} {T : Nat → Bool} {R : Nat → Rq} {F : Nat → Nat} {L : Nat → List Nat} {ub : Int} {D : List En}
theorem tlen_nil (w : World) : Calls Try.prog 24 #[.pointer none] w fun e w' => e = .returned (.int .i64 0) ∧ w = w' := by
  go_enter Try.func24, Try.ntmps24
  go_wp2
  go_ret
  exact ⟨rfl, rfl⟩
theorem tlen (w : World) (h : TqAt w q hs sp sc sf rp ra rb hp hb A N n V H T R m F L ub D) : Calls Try.prog 24 #[.pointer (some ⟨q, 0, none⟩)] w fun e w' => e = .returned (.int .i64 ((n : Int) - m)) ∧ Below w.heap.size w w' := by
  have q1 := h.q1
  have HS := Lib.hid h.slab
  clear h
  go_enter Try.func24, Try.ntmps24
  go_wp2_with (go_at_call 53; refine (sllen_any _ HS.out).mono ?_; rintro e w1 ⟨k, rfl, rfl⟩)
  go_ret
  exact ⟨rfl, below_drewN_ (Below.refl _ _) _⟩
theorem tcount_nil (r : Int) (w : World) : Calls Try.prog 23 #[.pointer none, .int .i64 r] w fun e w' => e = .returned (.int .i64 0) ∧ w = w' := by
  go_enter Try.func23, Try.ntmps23
  go_wp2
  go_ret
  exact ⟨rfl, rfl⟩
theorem tcount (r : Int) (w : World) (h : TqAt w q hs sp sc sf rp ra rb hp hb A N n V H T R m F L ub D) : Calls Try.prog 23 #[.pointer (some ⟨q, 0, none⟩), .int .i64 r] w fun e w' => e = .returned (.int .i64 ((rowE N L r).length : Int)) ∧ w = w' := by
  have q2 := h.q2
  have HR := Lib.hid h.rows
  clear h
  go_enter Try.func23, Try.ntmps23
  go_wp2_with (go_at_call 52; refine (len_any r _ HR.out).mono ?_; rintro e w1 ⟨rfl, rfl⟩)
  go_ret
  exact ⟨rfl, rfl⟩
theorem ttier_nil (w : World) : Calls Try.prog 49 #[.pointer none] w fun e w' => e = .returned (.int .i64 0) ∧ w = w' := by
  go_enter Try.func49, Try.ntmps49
  go_wp2
  go_ret
  exact ⟨rfl, rfl⟩
theorem ttier (w : World) (h : TqAt w q hs sp sc sf rp ra rb hp hb A N n V H T R m F L ub D) : Calls Try.prog 49 #[.pointer (some ⟨q, 0, none⟩)] w fun e w' => e = .returned (.int .i64 (N : Int)) ∧ w = w' := by
  have q0 := h.q0
  clear h
  go_enter Try.func49, Try.ntmps49
  go_wp2
  go_ret
  exact ⟨rfl, rfl⟩
theorem tget_nil (g : Int) (w : World) : Calls Try.prog 10 #[.pointer none, .int .u64 g] w fun e w' => e = .returned (.tuple #[rqv ⟨0, 0, 0, 0, 0⟩, .int .i64 3]) ∧ Below w.heap.size w w' := by
  go_enter Try.func10, Try.ntmps10
  go_wp2
  refine bodyPost_ret (v := .tuple #[rqv ⟨0, 0, 0, 0, 0⟩, .int .i64 3]) (by simp [results, Try.results10, go_sem, rqv]) rfl ⟨rfl, (by repeat (first | with_reducible exact Below.refl _ _ | with_reducible apply Below.drew | with_reducible apply below_drewN_ | refine Below.setCell ?_ (by simp) _ | refine Below.alloc ?_ (by (try simp); (try omega)) _))⟩
theorem tget_no (g : Int) (w : World) (h : TqAt w q hs sp sc sf rp ra rb hp hb A N n V H T R m F L ub D) (h0 : 0 ≤ g) (h1 : g ≤ 18446744073709551615) (ha : aliveB n H T g = false) : Calls Try.prog 10 #[.pointer (some ⟨q, 0, none⟩), .int .u64 g] w fun e w' => e = .returned (.tuple #[rqv ⟨0, 0, 0, 0, 0⟩, .int .i64 6]) ∧ Below w.heap.size w w' := by
  have HQ := Lib.hid h
  have HA := Lib.hid ha
  clear h ha
  go_enter Try.func10, Try.ntmps10
  go_upto_region 3 with fail
  refine wp_worldx (fun wx => Bxs w wx [(w.heap.size, 33, [.int .u64 0, .int .i64 0, .int .i64 0, .int .i64 0, .int .i64 0])]) ((Bxs.nil_ w).alloc_ _ _ (by simp)) ?_
  rintro x1 bx
  have hx := HQ.out.below bx.be
  have q1 := hx.q1
  have HS := Lib.hid hx.slab
  have BX := Lib.hid bx
  clear bx hx
  go_wp2_with (go_at_call 34; refine (slget_no _ _ HS.out h0 h1 HA.out).mono ?_; rintro e w1 ⟨he, hbw⟩; have he : e = .returned (.tuple #[.agg #[.int .u64 0, .int .i64 0, .int .i64 0, .int .i64 0, .int .i64 0], .int .i64 6]) := he; subst he; have BY := Lib.hid (BX.out.below hbw); clear hbw q1; have p0 := (BY.out.bl 0 _ _ _ rfl).val (i := 0) rfl; have p1 := (BY.out.bl 0 _ _ _ rfl).val (i := 1) rfl; have p2 := (BY.out.bl 0 _ _ _ rfl).val (i := 2) rfl; have p3 := (BY.out.bl 0 _ _ _ rfl).val (i := 3) rfl; have p4 := (BY.out.bl 0 _ _ _ rfl).val (i := 4) rfl; have z0 : ∀ k, w1.frozen? ⟨w.heap.size, k, none⟩ = false := (BY.out.bl 0 _ _ _ rfl).free; have y0 : w.heap.size < w1.heap.size := (BY.out.bl 0 _ _ _ rfl).size)
  refine bodyPost_ret (v := .tuple #[rqv ⟨0, 0, 0, 0, 0⟩, .int .i64 6]) (by simp [results, Try.results10, go_sem, rqv, *]) rfl ⟨rfl, ?_⟩
  repeat (first | with_reducible exact BY.out.be | refine Below.setCell ?_ (by simp) _)
theorem tget_yes (g : Int) (w : World) (h : TqAt w q hs sp sc sf rp ra rb hp hb A N n V H T R m F L ub D) (h0 : 0 ≤ g) (h1 : g ≤ 18446744073709551615) (ha : aliveB n H T g = true) {i : Nat} (hi : (g % 4294967296).toNat = i) : Calls Try.prog 10 #[.pointer (some ⟨q, 0, none⟩), .int .u64 g] w fun e w' => e = .returned (.tuple #[rqv (R i), .int .i64 0]) ∧ Below w.heap.size w w' := by
  have HQ := Lib.hid h
  have HA := Lib.hid ha
  have HI := Lib.hid hi
  clear h ha hi
  go_enter Try.func10, Try.ntmps10
  go_upto_region 3 with fail
  refine wp_worldx (fun wx => Bxs w wx [(w.heap.size, 33, [.int .u64 0, .int .i64 0, .int .i64 0, .int .i64 0, .int .i64 0])]) ((Bxs.nil_ w).alloc_ _ _ (by simp)) ?_
  rintro x1 bx
  have hx := HQ.out.below bx.be
  have q1 := hx.q1
  have HS := Lib.hid hx.slab
  have BX := Lib.hid bx
  clear bx hx
  go_wp2_with (go_at_call 34; refine (slget_yes _ _ HS.out h0 h1 HA.out HI.out).mono ?_; rintro e w1 ⟨he, hbw⟩; have he : e = .returned (.tuple #[.agg #[.int .u64 (R i).a, .int .i64 (R i).b, .int .i64 (R i).c, .int .i64 (R i).d, .int .i64 (R i).e], .int .i64 0]) := he; subst he; have BY := Lib.hid (BX.out.below hbw); clear hbw q1; have p0 := (BY.out.bl 0 _ _ _ rfl).val (i := 0) rfl; have p1 := (BY.out.bl 0 _ _ _ rfl).val (i := 1) rfl; have p2 := (BY.out.bl 0 _ _ _ rfl).val (i := 2) rfl; have p3 := (BY.out.bl 0 _ _ _ rfl).val (i := 3) rfl; have p4 := (BY.out.bl 0 _ _ _ rfl).val (i := 4) rfl; have z0 : ∀ k, w1.frozen? ⟨w.heap.size, k, none⟩ = false := (BY.out.bl 0 _ _ _ rfl).free; have y0 : w.heap.size < w1.heap.size := (BY.out.bl 0 _ _ _ rfl).size)
  refine bodyPost_ret (v := .tuple #[rqv (R i), .int .i64 0]) (by simp [results, Try.results10, go_sem, rqv, *]) rfl ⟨rfl, ?_⟩
  repeat (first | with_reducible exact BY.out.be | refine Below.setCell ?_ (by simp) _)
theorem thand_no (p : Value) (i : Int) (w : World) : Calls Try.prog 46 #[p, .int .i64 i, .bool false] w fun e w' => e = .returned (.tuple #[.int .u64 0, .bool false]) ∧ w = w' := by
  go_enter Try.func46, Try.ntmps46
  go_wp2
  go_ret2
  exact ⟨rfl, rfl⟩
theorem thand_yes {i : Nat} (hi : i < n) (w : World) (h : TqAt w q hs sp sc sf rp ra rb hp hb A N n V H T R m F L ub D) : Calls Try.prog 46 #[.pointer (some ⟨q, 0, none⟩), .int .i64 (i : Int), .bool true] w fun e w' => e = .returned (.tuple #[.int .u64 (V i), .bool true]) ∧ w = w' := by
  have q4 := h.q4
  have h0 := h.h0 hi
  have n0 := h.slab.n0
  clear h
  go_enter Try.func46, Try.ntmps46
  go_wp2
  go_ret2
  exact ⟨rfl, rfl⟩
theorem rowE_lt {w : World} (h : TqAt w q hs sp sc sf rp ra rb hp hb A N n V H T R m F L ub D) (r : Int) : ∀ x ∈ rowE N L r, x < n := by
  intro x hx
  unfold rowE at hx
  by_cases hr : r < 0 ∨ (N : Int) ≤ r
  · rw [if_pos hr] at hx; cases hx
  · rw [if_neg hr] at hx; exact h.rows.lists.lt _ (by omega) x hx
theorem hdE_lt {w : World} (h : TqAt w q hs sp sc sf rp ra rb hp hb A N n V H T R m F L ub D) (r : Int) (hn : neE (rowE N L r) = true) : hdE (rowE N L r) < n := by
  have h2 := rowE_lt h r
  revert h2 hn
  generalize rowE N L r = l
  intro hn h2
  cases l with
  | nil => cases hn
  | cons x l => exact h2 x List.mem_cons_self
theorem laE_lt {w : World} (h : TqAt w q hs sp sc sf rp ra rb hp hb A N n V H T R m F L ub D) (r : Int) (hn : neE (rowE N L r) = true) : laE (rowE N L r) < n := by
  have h2 := rowE_lt h r
  revert h2 hn
  generalize rowE N L r = l
  intro hn h2
  have h0 : 0 < l.length := by cases l with
    | nil => cases hn
    | cons x l => simp
  rw [laE_eq h0]
  exact h2 _ (List.getElem_mem _)
theorem thead_nil (r : Int) (w : World) : Calls Try.prog 17 #[.pointer none, .int .i64 r] w fun e w' => e = .returned (.tuple #[.int .u64 0, .bool false]) ∧ w = w' := by
  go_enter Try.func17, Try.ntmps17
  go_wp2
  go_ret2
  exact ⟨rfl, rfl⟩
theorem thead (r : Int) (w : World) (h : TqAt w q hs sp sc sf rp ra rb hp hb A N n V H T R m F L ub D) : Calls Try.prog 17 #[.pointer (some ⟨q, 0, none⟩), .int .i64 r] w fun e w' => e = .returned (.tuple #[.int .u64 (if neE (rowE N L r) = true then V (hdE (rowE N L r)) else 0), .bool (neE (rowE N L r))]) ∧ w = w' := by
  have q2 := h.q2
  have HQ := Lib.hid h
  have hl := hdE_lt h r
  cases hn : neE (rowE N L r) with
  | false =>
    have HN := Lib.hid hn
    clear h hn hl
    go_enter Try.func17, Try.ntmps17
    go_wp2_with (first
      | (go_at_call 47; refine (front_any r _ HQ.out.rows).mono ?_; rintro e w1 ⟨rfl, rfl⟩; rw [HN.out])
      | (go_at_call 46; refine (thand_no _ _ _).mono ?_; rintro e w1 ⟨rfl, rfl⟩))
    go_ret2
    exact ⟨rfl, rfl⟩
  | true =>
    have HN := Lib.hid hn
    have HL := Lib.hid (hl hn)
    clear h hn hl
    go_enter Try.func17, Try.ntmps17
    go_wp2_with (first
      | (go_at_call 47; refine (front_any r _ HQ.out.rows).mono ?_; rintro e w1 ⟨rfl, rfl⟩; rw [HN.out])
      | (go_at_call 46; refine (thand_yes HL.out _ HQ.out).mono ?_; rintro e w1 ⟨rfl, rfl⟩))
    go_ret2
    exact ⟨by simp, rfl⟩
theorem ttail_nil (r : Int) (w : World) : Calls Try.prog 18 #[.pointer none, .int .i64 r] w fun e w' => e = .returned (.tuple #[.int .u64 0, .bool false]) ∧ w = w' := by
  go_enter Try.func18, Try.ntmps18
  go_wp2
  go_ret2
  exact ⟨rfl, rfl⟩
theorem ttail (r : Int) (w : World) (h : TqAt w q hs sp sc sf rp ra rb hp hb A N n V H T R m F L ub D) : Calls Try.prog 18 #[.pointer (some ⟨q, 0, none⟩), .int .i64 r] w fun e w' => e = .returned (.tuple #[.int .u64 (if neE (rowE N L r) = true then V (laE (rowE N L r)) else 0), .bool (neE (rowE N L r))]) ∧ w = w' := by
  have q2 := h.q2
  have HQ := Lib.hid h
  have hl := laE_lt h r
  cases hn : neE (rowE N L r) with
  | false =>
    have HN := Lib.hid hn
    clear h hn hl
    go_enter Try.func18, Try.ntmps18
    go_wp2_with (first
      | (go_at_call 48; refine (back_any r _ HQ.out.rows).mono ?_; rintro e w1 ⟨rfl, rfl⟩; rw [HN.out])
      | (go_at_call 46; refine (thand_no _ _ _).mono ?_; rintro e w1 ⟨rfl, rfl⟩))
    go_ret2
    exact ⟨rfl, rfl⟩
  | true =>
    have HN := Lib.hid hn
    have HL := Lib.hid (hl hn)
    clear h hn hl
    go_enter Try.func18, Try.ntmps18
    go_wp2_with (first
      | (go_at_call 48; refine (back_any r _ HQ.out.rows).mono ?_; rintro e w1 ⟨rfl, rfl⟩; rw [HN.out])
      | (go_at_call 46; refine (thand_yes HL.out _ HQ.out).mono ?_; rintro e w1 ⟨rfl, rfl⟩))
    go_ret2
    exact ⟨by simp, rfl⟩
end
end Go.Proofs.Ytjkklcigmikleaa
