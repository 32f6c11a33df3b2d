/- What the slab's methods answer, and what they leave. -/
import Derived.Test.YtjkklcigmikleaaSlab
import Derived.Test.YtjkklcigmikleaaHelp
import Derived.Test.YtjkklcigmikleaaHelpb
import Derived.Test.YtjkklcigmikleaaHelpc
import Derived.Deep.QuietTactic
import Derived.BigQuiet
import Derived.Deep.RegionLaw
namespace Go.Proofs.Ytjkklcigmikleaa
open Go.RowKit
set_option linter.unusedVariables false
/-- A call that leaves the world, in a region that only reads, behind another such region. -/
theorem quiet2 {P : Program} {f : FuncId} {args : Array Value} {w : World} {a n : Nat} {v : Value} (h : Calls P f args (w.drewN (a + n)) fun e w' => e = .returned v ∧ w.drewN (a + n) = w') :
    Calls P f args (w.drewN (a + n)) fun e w'' => e = .returned v ∧ ∃ m, w'' = w.drewN (a + m) := h.mono fun _ _ h => ⟨h.1, n, h.2.symm⟩
theorem quiet1 {P : Program} {f : FuncId} {args : Array Value} {w : World} {n : Nat} {v : Value} (h : Calls P f args (w.drewN n) fun e w' => e = .returned v ∧ w.drewN n = w') :
    Calls P f args (w.drewN n) fun e w'' => e = .returned v ∧ ∃ m, w'' = w.drewN m := h.mono fun _ _ h => ⟨h.1, n, h.2.symm⟩
/-- The walk goes on in whatever world of which that much is known. -/
theorem wp_worlds {P : Program} {code : Code} {Q : Exit → Act → World → Prop} {a : Act} {w : World} (φ : World → Prop) (h : φ w) (k : ∀ wx, φ wx → Code.wp P code Q a wx) : Code.wp P code Q a w := k w h
def rqv (q : Rq) : Value := .agg #[.int .u64 q.a, .int .i64 q.b, .int .i64 q.c, .int .i64 q.d, .int .i64 q.e]
set_option maxHeartbeats 400000 in
theorem sltake_nil (a b c d e : Int) (w : World) :
    Calls Try.prog 29 #[.pointer none, .agg #[.int .u64 a, .int .i64 b, .int .i64 c, .int .i64 d, .int .i64 e]] w fun e w' => e = .returned (.tuple #[.int .u64 0, .int .i64 3]) ∧ Below w.heap.size w w' := by
  go_enter Try.func29, Try.ntmps29
  go_wp2
  go_ret2
  exact ⟨rfl, (Below.refl _ _).alloc (Nat.le_refl _) _⟩
set_option maxHeartbeats 400000 in
theorem sltake_full {p c f n : Nat} {H : Nat → Int} {T : Nat → Bool} {R : Nat → Rq} {F : Nat → Nat} (a b k d e : Int) (w : World) (hs : SlabAt w p c f n H T R 0 F) :
    Calls Try.prog 29 #[.pointer (some ⟨p, 0, none⟩), .agg #[.int .u64 a, .int .i64 b, .int .i64 k, .int .i64 d, .int .i64 e]] w fun e w' => e = .returned (.tuple #[.int .u64 0, .int .i64 4]) ∧ Below w.heap.size w w' := by
  have c1 := hs.head.val (i := 1) rfl
  have hl := hs.lts.1
  have c1' := kalloc c1 (.cells #[.int .u64 a, .int .i64 b, .int .i64 k, .int .i64 d, .int .i64 e] 33)
  simp at c1 c1'
  clear hs
  go_enter Try.func29, Try.ntmps29
  go_wp2
  go_ret2
  exact ⟨rfl, (Below.refl _ _).alloc (Nat.le_refl _) _⟩
set_option maxHeartbeats 400000 in
theorem sltake_any {p c f n m : Nat} {H : Nat → Int} {T : Nat → Bool} {R : Nat → Rq} {F : Nat → Nat} (a b k d e : Int) (w : World) (hs : SlabAt w p c f n H T R (m + 1) F) {i : Nat} (hi : F m = i) (hF : i < n) (h0 : 0 ≤ H i) (h1 : H i + 4294967296 ≤ 18446744073709551615) :
    Calls Try.prog 29 #[.pointer (some ⟨p, 0, none⟩), .agg #[.int .u64 a, .int .i64 b, .int .i64 k, .int .i64 d, .int .i64 e]] w fun x w' => x = .returned (.tuple #[.int .u64 (H i + 4294967296), .int .i64 0]) ∧
      SlabAt w' p c f n (fun j => if j = i then H i + 4294967296 else H j) (fun j => if j = i then true else T j) (fun j => if j = i then ⟨a, b, k, d, e⟩ else R j) m F ∧ Kept (fun g => g = p ∨ g = c ∨ g = f) w w' := by
  have hA := hs.alloc_ (.cells #[.int .u64 a, .int .i64 b, .int .i64 k, .int .i64 d, .int .i64 e] 33)
  have pc := hA.pc
  have pf := hA.pf
  have cf := hA.cf
  have n0 := hA.n0
  have mn : m + 1 ≤ n := hA.mn
  have ⟨hlp, hlc, hlf⟩ := hs.lts
  have q0 := hA.p0
  have q1 := hA.p1
  have f0 := hA.f0 (j := m) (by omega)
  rw [hi] at f0
  have d0 := hA.c0 hF
  have d1 := hA.c1 hF
  have d2 := hA.c2 hF
  have d3 := hA.c3 hF
  have d4 := hA.c4 hF
  have d5 := hA.c5 hF
  have d6 := hA.c6 hF
  have z0 := hA.zc (i * 7)
  have z1 := hA.zc (i * 7 + 1)
  have z2 := hA.zc (i * 7 + 2)
  have z3 := hA.zc (i * 7 + 3)
  have z4 := hA.zc (i * 7 + 4)
  have z5 := hA.zc (i * 7 + 5)
  have z6 := hA.zc (i * 7 + 6)
  have y1 := hA.zp 1
  have HA := Lib.hid hA
  have pc' := Ne.symm pc
  have pf' := Ne.symm pf
  have cf' := Ne.symm cf
  clear hs hA hi
  go_enter Try.func29, Try.ntmps29
  go_wp2
  go_quiet (fail)
  go_wp2
  go_ret2
  refine ⟨rfl, ?_, ?_⟩
  · refine SlabAt.setR (R := R) ?_ hF (fun _ _ => rfl)
    refine SlabAt.setT (T := T) ?_ hF (fun _ _ => rfl)
    refine SlabAt.setH (H := H) ?_ hF (fun _ _ => rfl)
    exact (HA.out.drewN_ _).pop
  · repeat (first | with_reducible exact Kept.refl _ _ | refine Kept.set_ ?_ (by simp) _ | with_reducible refine Kept.drewN_ ?_ _ | with_reducible refine Kept.alloc_ ?_ _)
set_option maxHeartbeats 400000 in
theorem slfind_nil (h : Int) (w : World) :
    Calls Try.prog 59 #[.pointer none, .int .u64 h] w fun e w' => e = .returned (.tuple #[.pointer none, .int .i64 3]) ∧ w = w' := by
  go_enter Try.func59, Try.ntmps59
  go_wp2
  go_ret2
  exact ⟨rfl, rfl⟩
/-- Is h the handle of a cell that is taken? -/
def aliveB (n : Nat) (H : Nat → Int) (T : Nat → Bool) (h : Int) : Bool := decide ((h % 4294967296).toNat < n) && T (h % 4294967296).toNat && decide (H (h % 4294967296).toNat = h)
set_option maxHeartbeats 400000 in
theorem slfind_any {p c f n m : Nat} {H : Nat → Int} {T : Nat → Bool} {R : Nat → Rq} {F : Nat → Nat} (h : Int) (w : World) (hs : SlabAt w p c f n H T R m F) (h0 : 0 ≤ h) (h1 : h ≤ 18446744073709551615) :
    Calls Try.prog 59 #[.pointer (some ⟨p, 0, none⟩), .int .u64 h] w fun x w' => ∃ k, w' = w.drewN k ∧
      x = .returned (if aliveB n H T h = true then .tuple #[.pointer (some ⟨c, (h % 4294967296).toNat * 7, none⟩), .int .i64 0] else .tuple #[.pointer none, .int .i64 6]) := by
  have q0 := hs.p0
  have n0 := hs.n0
  obtain ⟨i, hi⟩ : ∃ i : Nat, h % 4294967296 = (i : Int) := ⟨(h % 4294967296).toNat, by omega⟩
  have hi' : (h % 4294967296).toNat = i := by omega
  unfold aliveB
  rw [hi']
  by_cases hl : i < n
  · have d0 := hs.c0 hl
    have d1 := hs.c1 hl
    have HI := Lib.hid hi
    clear hs hi'
    by_cases ht : T i = true
    · by_cases he : H i = h
      · rw [ht] at d1
        rw [he] at d0
        simp only [hl, ht, he, decide_true, Bool.and_self, if_true]
        clear he ht
        go_enter Try.func59, Try.ntmps59
        go_wp2
        go_quiet ((go_at_call 30; exact quiet1 (slcell_any _ _ (by omega) (by omega))))
        go_wp2
        go_quiet ((go_at_call 30; exact quiet2 (slcell_any _ _ (by omega) (by omega))))
        go_wp2
        go_ret2
        rw [HI.out]
        exact ⟨_, rfl, rfl⟩
      · have d : decide (H i = h) = false := decide_eq_false he
        have d' : decide (h = H i) = false := decide_eq_false (fun e => he e.symm)
        rw [ht] at d1
        simp only [d, Bool.and_false, Bool.false_eq_true, if_false]
        go_enter Try.func59, Try.ntmps59
        go_wp2
        go_quiet ((go_at_call 30; exact quiet1 (slcell_any _ _ (by omega) (by omega))))
        go_wp2
        go_quiet ((go_at_call 30; exact quiet2 (slcell_any _ _ (by omega) (by omega))))
        go_wp2
        go_ret2
        exact ⟨_, rfl, rfl⟩
    · have ht' : T i = false := by simpa using ht
      rw [ht'] at d1
      simp only [ht', Bool.and_false, Bool.false_and, Bool.false_eq_true, if_false]
      clear ht ht'
      go_enter Try.func59, Try.ntmps59
      go_wp2
      go_quiet ((go_at_call 30; exact quiet1 (slcell_any _ _ (by omega) (by omega))))
      go_wp2
      go_quiet ((go_at_call 30; exact quiet2 (slcell_any _ _ (by omega) (by omega))))
      go_wp2
      go_ret2
      exact ⟨_, rfl, rfl⟩
  · have d : decide (i < n) = false := decide_eq_false hl
    simp only [d, Bool.false_and, Bool.false_eq_true, if_false]
    clear hs hi' d
    go_enter Try.func59, Try.ntmps59
    go_wp2
    go_quiet ((go_at_call 30; exact quiet1 (slcell_any _ _ (by omega) (by omega))))
    go_wp2
    go_ret2
    exact ⟨_, rfl, rfl⟩
theorem below_drewN_ {B : Nat} {w w' : World} (h : Below B w w') (n : Nat) : Below B w (w'.drewN n) := ⟨h.os, h.tape, h.output, h.size, h.block⟩
set_option maxHeartbeats 400000 in
theorem slget_nil (h : Int) (w : World) :
    Calls Try.prog 34 #[.pointer none, .int .u64 h] w fun e w' => e = .returned (.tuple #[rqv ⟨0, 0, 0, 0, 0⟩, .int .i64 3]) ∧ Below w.heap.size w w' := by
  go_enter Try.func34, Try.ntmps34
  go_wp2_with (go_at_call 59; refine (slfind_nil _ _).mono ?_; rintro e w1 ⟨rfl, rfl⟩)
  refine bodyPost_ret (v := .tuple #[rqv ⟨0, 0, 0, 0, 0⟩, .int .i64 3]) (by simp [results, Try.results34, go_sem, rqv]) rfl ⟨rfl, (by repeat (first | with_reducible exact Below.refl _ _ | with_reducible apply Below.drew | with_reducible apply below_drewN_ | refine Below.setCell ?_ (by simp) _ | refine Below.alloc ?_ (by (try simp); (try omega)) _))⟩
set_option maxHeartbeats 400000 in
theorem slget_no {p c f n m : Nat} {H : Nat → Int} {T : Nat → Bool} {R : Nat → Rq} {F : Nat → Nat} (h : Int) (w : World) (hs : SlabAt w p c f n H T R m F) (h0 : 0 ≤ h) (h1 : h ≤ 18446744073709551615) (ha : aliveB n H T h = false) :
    Calls Try.prog 34 #[.pointer (some ⟨p, 0, none⟩), .int .u64 h] w fun e w' => e = .returned (.tuple #[rqv ⟨0, 0, 0, 0, 0⟩, .int .i64 6]) ∧ Below w.heap.size w w' := by
  have HS := Lib.hid (hs.alloc_ (.cells #[.int .u64 0, .int .i64 0, .int .i64 0, .int .i64 0, .int .i64 0] 33))
  have HA := Lib.hid ha
  clear hs ha
  go_enter Try.func34, Try.ntmps34
  go_wp2_with (go_at_call 59; refine (slfind_any _ _ HS.out h0 h1).mono ?_; rintro e w1 ⟨k, rfl, rfl⟩; rw [HA.out])
  refine bodyPost_ret (v := .tuple #[rqv ⟨0, 0, 0, 0, 0⟩, .int .i64 6]) (by simp [results, Try.results34, go_sem, rqv]) rfl ⟨rfl, (by repeat (first | with_reducible exact Below.refl _ _ | with_reducible apply Below.drew | with_reducible apply below_drewN_ | refine Below.setCell ?_ (by simp) _ | refine Below.alloc ?_ (by (try simp); (try omega)) _))⟩
set_option maxHeartbeats 400000 in
theorem slget_yes {p c f n m : Nat} {H : Nat → Int} {T : Nat → Bool} {R : Nat → Rq} {F : Nat → Nat} (h : Int) (w : World) (hs : SlabAt w p c f n H T R m F) (h0 : 0 ≤ h) (h1 : h ≤ 18446744073709551615) (ha : aliveB n H T h = true)
    {i : Nat} (hi : (h % 4294967296).toNat = i) :
    Calls Try.prog 34 #[.pointer (some ⟨p, 0, none⟩), .int .u64 h] w fun e w' => e = .returned (.tuple #[rqv (R i), .int .i64 0]) ∧ Below w.heap.size w w' := by
  have hA := hs.alloc_ (.cells #[.int .u64 0, .int .i64 0, .int .i64 0, .int .i64 0, .int .i64 0] 33)
  have hl : i < n := by unfold aliveB at ha; rw [hi] at ha; simp at ha; exact ha.1.1
  have d2 := hA.c2 hl
  have d3 := hA.c3 hl
  have d4 := hA.c4 hl
  have d5 := hA.c5 hl
  have d6 := hA.c6 hl
  have hc := hs.lts.2.1
  have HS := Lib.hid hA
  have HA := Lib.hid ha
  have HI := Lib.hid hi
  clear hs ha hA hi
  go_enter Try.func34, Try.ntmps34
  go_wp2_with (go_at_call 59; refine (slfind_any _ _ HS.out h0 h1).mono ?_; rintro e w1 ⟨k, rfl, rfl⟩; rw [HA.out, HI.out])
  refine bodyPost_ret (v := .tuple #[rqv (R i), .int .i64 0]) (by simp [results, Try.results34, go_sem, rqv]) rfl ⟨rfl, (by repeat (first | with_reducible exact Below.refl _ _ | with_reducible apply Below.drew | with_reducible apply below_drewN_ | refine Below.setCell ?_ (by simp) _ | refine Below.alloc ?_ (by (try simp); (try omega)) _))⟩
set_option maxHeartbeats 400000 in
theorem sllen_nil (w : World) : Calls Try.prog 53 #[.pointer none] w fun e w' => e = .returned (.int .i64 0) ∧ w = w' := by
  go_enter Try.func53, Try.ntmps53
  go_wp2
  go_ret
  exact ⟨rfl, rfl⟩
set_option maxHeartbeats 400000 in
theorem sllen_any {p c f n m : Nat} {H : Nat → Int} {T : Nat → Bool} {R : Nat → Rq} {F : Nat → Nat} (w : World) (hs : SlabAt w p c f n H T R m F) :
    Calls Try.prog 53 #[.pointer (some ⟨p, 0, none⟩)] w fun e w' => ∃ k, w' = w.drewN k ∧ e = .returned (.int .i64 ((n : Int) - m)) := by
  have q0 := hs.p0
  have q1 := hs.p1
  have n0 := hs.n0
  have mn := hs.mn
  clear hs
  go_enter Try.func53, Try.ntmps53
  go_wp2
  go_quiet (fail)
  go_wp2
  go_ret
  exact ⟨_, rfl, rfl⟩
set_option maxHeartbeats 400000 in
theorem slfree_nil (h : Int) (w : World) :
    Calls Try.prog 39 #[.pointer none, .int .u64 h] w fun e w' => e = .returned (.int .i64 3) ∧ w = w' := by
  go_enter Try.func39, Try.ntmps39
  go_wp2_with (go_at_call 59; refine (slfind_nil _ _).mono ?_; rintro e w1 ⟨rfl, rfl⟩)
  go_ret
  exact ⟨rfl, rfl⟩
set_option maxHeartbeats 400000 in
theorem slfree_no {p c f n m : Nat} {H : Nat → Int} {T : Nat → Bool} {R : Nat → Rq} {F : Nat → Nat} (h : Int) (w : World) (hs : SlabAt w p c f n H T R m F) (h0 : 0 ≤ h) (h1 : h ≤ 18446744073709551615) (ha : aliveB n H T h = false) :
    Calls Try.prog 39 #[.pointer (some ⟨p, 0, none⟩), .int .u64 h] w fun e w' => e = .returned (.int .i64 6) ∧ ∃ k, w' = w.drewN k := by
  have HS := Lib.hid hs
  have HA := Lib.hid ha
  clear hs ha
  go_enter Try.func39, Try.ntmps39
  go_wp2_with (go_at_call 59; refine (slfind_any _ _ HS.out h0 h1).mono ?_; rintro e w1 ⟨k, rfl, rfl⟩; rw [HA.out])
  go_ret
  exact ⟨rfl, _, rfl⟩
set_option maxHeartbeats 1000000 in
set_option maxRecDepth 100000 in
theorem slfree_yes {p c f n m : Nat} {H : Nat → Int} {T : Nat → Bool} {R : Nat → Rq} {F : Nat → Nat} (h : Int) (w : World) (hs : SlabAt w p c f n H T R m F) (h0 : 0 ≤ h) (h1 : h ≤ 18446744073709551615) (ha : aliveB n H T h = true)
    {i : Nat} (hi : (h % 4294967296).toNat = i) (hm : m < n) :
    Calls Try.prog 39 #[.pointer (some ⟨p, 0, none⟩), .int .u64 h] w fun e w' => e = .returned (.int .i64 0) ∧
      SlabAt w' p c f n H (fun j => if j = i then false else T j) (fun j => if j = i then ⟨0, 0, 0, 0, 0⟩ else R j) (m + 1) (fun j => if j = m then i else F j) ∧ Kept (fun g => g = p ∨ g = c ∨ g = f) w w' := by
  obtain ⟨i0, hi0, hz0, hz1, hz2⟩ := info_parts iinfo
  have hl : i < n := by unfold aliveB at ha; rw [hi] at ha; simp at ha; exact ha.1.1
  have he : h % 4294967296 = (i : Int) := by omega
  have pc := hs.pc
  have pf := hs.pf
  have cf := hs.cf
  have n0 := hs.n0
  have ⟨hlp, hlc, hlf⟩ := hs.lts
  have q1 := hs.p1
  obtain ⟨v0, f0⟩ := hs.fAny hm
  have z9 := hs.zf m
  have y1 := hs.zp 1
  have d1 := hs.c1 hl
  have d2 := hs.c2 hl
  have d3 := hs.c3 hl
  have d4 := hs.c4 hl
  have d5 := hs.c5 hl
  have d6 := hs.c6 hl
  have z0 := hs.zc (i * 7)
  have z1 := hs.zc (i * 7 + 1)
  have z2 := hs.zc (i * 7 + 2)
  have z3 := hs.zc (i * 7 + 3)
  have z4 := hs.zc (i * 7 + 4)
  have z5 := hs.zc (i * 7 + 5)
  have z6 := hs.zc (i * 7 + 6)
  have HS := Lib.hid hs
  have HA := Lib.hid ha
  have HI := Lib.hid hi
  have HE := Lib.hid he
  have pc' := Ne.symm pc
  have pf' := Ne.symm pf
  have cf' := Ne.symm cf
  clear hs ha hi he
  go_enter Try.func39, Try.ntmps39
  go_upto_region 6 with (go_at_call 59; refine (slfind_any _ _ HS.out h0 h1).mono ?_; rintro e w1 ⟨k, rfl, rfl⟩; rw [HA.out, HI.out])
  refine wp_worlds (fun wx => SlabAt wx p c f n H (fun j => if j = i then false else T j) (fun j => if j = i then ⟨0, 0, 0, 0, 0⟩ else R j) m F ∧ Kept (fun g => g = p ∨ g = c ∨ g = f) w wx) ⟨?_, ?_⟩ ?_
  · refine SlabAt.setR (R := R) ?_ hl (fun _ _ => rfl)
    refine SlabAt.setT (T := T) ?_ hl (fun _ _ => rfl)
    exact HS.out.drewN_ _
  · repeat (first | with_reducible exact Kept.refl _ _ | refine Kept.set_ ?_ (by simp) _ | with_reducible refine Kept.drewN_ ?_ _ | with_reducible refine Kept.drew_ ?_ | with_reducible refine Kept.alloc_ ?_ _)
  clear q1 f0 z9 y1 d1 d2 d3 d4 d5 d6 z0 z1 z2 z3 z4 z5 z6
  rintro wx ⟨hx, hk⟩
  have q1 := hx.p1
  obtain ⟨v1, f1⟩ := hx.fAny hm
  have z9 := hx.zf m
  have y1 := hx.zp 1
  have lx := hx.lts.1
  have lf := hx.lts.2.2
  have HX := Lib.hid hx
  clear hx
  go_region_law (first
    | (rw [if_pos (by rfl)]; refine wp_enter (by go_simp; exact ⟨rfl, rfl⟩) ?_; go_at_call 30; refine (slcell_any _ _ (by omega) (by omega)).mono ?_; rintro e w2 ⟨rfl, rfl⟩; rw [HE.out]; refine ⟨_, rfl, ?_⟩)
    | ((refine step_append_room rfl (.tmp 27) (.tmp 30) 85 rfl 3 i0 1 Try.underlying85 hi0 hz1 f 0 m n (by rfl) ⟨wx.heap.size, 0, none⟩ 1 1 [.int .i64 (i : Int)] (by rfl) rfl (by intro j u hj; match j, hj with | 0, hj => simp at hj; subst hj; simp [Addr.add]) (by intro u hu; simp at hu; subst hu; rfl) (by omega) (by intro j hj; have : j = 0 := (by simpa using hj); subst this; simp [go_sem, *]) ?_); simp only [World.setCells, Nat.mul_one, Nat.zero_add]))
  all_goals (try go_wp2)
  all_goals go_ret
  all_goals refine ⟨rfl, ?_, ?_⟩
  all_goals with_reducible first | (refine SlabAt.drew_ ?_) | (refine Kept.drew_ ?_)
  all_goals with_reducible first | (refine SlabAt.alloc_ ?_ _) | (refine Kept.alloc_ ?_ _)
  all_goals first | exact HX.out.push hm (fun _ _ => rfl) | exact (hk.set_ (by simp) _).set_ (by simp) _
end Go.Proofs.Ytjkklcigmikleaa
