/- Texts of this claim, one behind the other: Slabb Deq. -/
import Derived.Deep.QuietTactic
import Derived.BigQuiet
import Derived.Deep.RegionLaw
import Derived.Test.YtcffeokbipjaoaaGreatProg
import Derived.WalkKit
import Derived.IntWalk
import Derived.Lib.Hide
import Derived.Deep.OwnRows
import Derived.Deep.DeepCutAuto
import Derived.Deep.RegionHeld3
import Derived.Test.YtcffeokbipjaoaaGreatMuaa
namespace Go.Proofs.YtcffeokbipjaoaaGreat
open Go.RowKit
set_option linter.unusedVariables false
theorem quiet2 {P : Program} {f : FuncId} {args : Array Value} {w : World} {a n : Nat} {v : Value} (h : Calls P f args (w.drewN (a + n)) fun e w' => e = .returned v ∧ w.drewN (a + n) = w') :
   Calls P f args (w.drewN (a + n)) fun e w'' => e = .returned v ∧ ∃ m, w'' = w.drewN (a + m) := h.mono fun _ _ h => ⟨h.1, n, h.2.symm⟩
theorem quiet1 {P : Program} {f : FuncId} {args : Array Value} {w : World} {n : Nat} {v : Value} (h : Calls P f args (w.drewN n) fun e w' => e = .returned v ∧ w.drewN n = w') :
   Calls P f args (w.drewN n) fun e w'' => e = .returned v ∧ ∃ m, w'' = w.drewN m := h.mono fun _ _ h => ⟨h.1, n, h.2.symm⟩
theorem wp_worlds {P : Program} {code : Code} {Q : Exit → Act → World → Prop} {a : Act} {w : World} (φ : World → Prop) (h : φ w) (k : ∀ wx, φ wx → Code.wp P code Q a wx) : Code.wp P code Q a w := k w h
def rqv (q : Rq) : Value := .agg #[.int .u64 q.a, .int .i64 q.b, .int .i64 q.c, .int .i64 q.d, .int .i64 q.e]
set_option maxHeartbeats 400000 in
theorem sltake_any {p c f n m : Nat} {H : Nat → Int} {T : Nat → Bool} {R : Nat → Rq} {F : Nat → Nat} (a b k d e : Int) (w : World) (hs : SlabAt w p c f n H T R (m + 1) F) {i : Nat} (hi : F m = i) (hF : i < n) (h0 : 0 ≤ H i) (h1 : H i + 4294967296 ≤ 18446744073709551615) :
   Calls Tryz.prog 170 #[.pointer (some ⟨p, 0, none⟩), .agg #[.int .u64 a, .int .i64 b, .int .i64 k, .int .i64 d, .int .i64 e]] w fun x w' => x = .returned (.tuple #[.int .u64 (H i + 4294967296), .int .i64 0]) ∧
     SlabAt w' p c f n (fun j => if j = i then H i + 4294967296 else H j) (fun j => if j = i then true else T j) (fun j => if j = i then ⟨a, b, k, d, e⟩ else R j) m F ∧ Kept (fun g => g = p ∨ g = c ∨ g = f) w w' := by
 have hA := hs.alloc_ (.cells #[.int .u64 a, .int .i64 b, .int .i64 k, .int .i64 d, .int .i64 e] 107)
 have pc := hA.pc
 have pf := hA.pf
 have cf := hA.cf
 have n0 := hA.n0
 have mn : m + 1 ≤ n := hA.mn
 have ⟨hlp, hlc, hlf⟩ := hs.lts
 have q0 := hA.p0
 have q1 := hA.p1
 have f0 := hA.f0 (j := m) (by omega)
 rw [hi] at f0
 have d0 := hA.c0 hF
 have d1 := hA.c1 hF
 have d2 := hA.c2 hF
 have d3 := hA.c3 hF
 have d4 := hA.c4 hF
 have d5 := hA.c5 hF
 have d6 := hA.c6 hF
 have z0 := hA.zc (i * 7)
 have z1 := hA.zc (i * 7 + 1)
 have z2 := hA.zc (i * 7 + 2)
 have z3 := hA.zc (i * 7 + 3)
 have z4 := hA.zc (i * 7 + 4)
 have z5 := hA.zc (i * 7 + 5)
 have z6 := hA.zc (i * 7 + 6)
 have y1 := hA.zp 1
 have HA := Lib.hid hA
 have pc' := Ne.symm pc
 have pf' := Ne.symm pf
 have cf' := Ne.symm cf
 clear hs hA hi
 go_enter Tryz.func170, Tryz.ntmps170
 go_wp2
 go_quiet (fail)
 go_wp2
 go_ret2
 refine ⟨rfl, ?_, ?_⟩
 · refine SlabAt.setR (R := R) ?_ hF (fun _ _ => rfl)
   refine SlabAt.setT (T := T) ?_ hF (fun _ _ => rfl)
   refine SlabAt.setH (H := H) ?_ hF (fun _ _ => rfl)
   exact (HA.out.drewN_ _).pop
 · repeat (first | with_reducible exact Kept.refl _ _ | refine Kept.set_ ?_ (by simp) _ | with_reducible refine Kept.drewN_ ?_ _ | with_reducible refine Kept.alloc_ ?_ _)
def aliveB (n : Nat) (H : Nat → Int) (T : Nat → Bool) (h : Int) : Bool := decide ((h % 4294967296).toNat < n) && T (h % 4294967296).toNat && decide (H (h % 4294967296).toNat = h)
set_option maxHeartbeats 400000 in
theorem slfind_any {p c f n m : Nat} {H : Nat → Int} {T : Nat → Bool} {R : Nat → Rq} {F : Nat → Nat} (h : Int) (w : World) (hs : SlabAt w p c f n H T R m F) (h0 : 0 ≤ h) (h1 : h ≤ 18446744073709551615) :
   Calls Tryz.prog 141 #[.pointer (some ⟨p, 0, none⟩), .int .u64 h] w fun x w' => ∃ k, w' = w.drewN k ∧
     x = .returned (if aliveB n H T h = true then .tuple #[.pointer (some ⟨c, (h % 4294967296).toNat * 7, none⟩), .int .i64 0] else .tuple #[.pointer none, .int .i64 6]) := by
 have q0 := hs.p0
 have n0 := hs.n0
 obtain ⟨i, hi⟩ : ∃ i : Nat, h % 4294967296 = (i : Int) := ⟨(h % 4294967296).toNat, by omega⟩
 have hi' : (h % 4294967296).toNat = i := by omega
 unfold aliveB
 rw [hi']
 by_cases hl : i < n
 · have d0 := hs.c0 hl
   have d1 := hs.c1 hl
   have HI := Lib.hid hi
   clear hs hi'
   by_cases ht : T i = true
   · by_cases he : H i = h
     · rw [ht] at d1
       rw [he] at d0
       simp only [hl, ht, he, decide_true, Bool.and_self, if_true]
       clear he ht
       go_enter Tryz.func141, Tryz.ntmps141
       go_wp2
       go_quiet ((go_at_call 166; exact quiet1 (slcell_any _ _ (by omega) (by omega))))
       go_wp2
       go_quiet ((go_at_call 166; exact quiet2 (slcell_any _ _ (by omega) (by omega))))
       go_wp2
       go_ret2
       rw [HI.out]
       exact ⟨_, rfl, rfl⟩
     · have d : decide (H i = h) = false := decide_eq_false he
       have d' : decide (h = H i) = false := decide_eq_false (fun e => he e.symm)
       rw [ht] at d1
       simp only [d, Bool.and_false, Bool.false_eq_true, if_false]
       go_enter Tryz.func141, Tryz.ntmps141
       go_wp2
       go_quiet ((go_at_call 166; exact quiet1 (slcell_any _ _ (by omega) (by omega))))
       go_wp2
       go_quiet ((go_at_call 166; exact quiet2 (slcell_any _ _ (by omega) (by omega))))
       go_wp2
       go_ret2
       exact ⟨_, rfl, rfl⟩
   · have ht' : T i = false := by simpa using ht
     rw [ht'] at d1
     simp only [ht', Bool.and_false, Bool.false_and, Bool.false_eq_true, if_false]
     clear ht ht'
     go_enter Tryz.func141, Tryz.ntmps141
     go_wp2
     go_quiet ((go_at_call 166; exact quiet1 (slcell_any _ _ (by omega) (by omega))))
     go_wp2
     go_quiet ((go_at_call 166; exact quiet2 (slcell_any _ _ (by omega) (by omega))))
     go_wp2
     go_ret2
     exact ⟨_, rfl, rfl⟩
 · have d : decide (i < n) = false := decide_eq_false hl
   simp only [d, Bool.false_and, Bool.false_eq_true, if_false]
   clear hs hi' d
   go_enter Tryz.func141, Tryz.ntmps141
   go_wp2
   go_quiet ((go_at_call 166; exact quiet1 (slcell_any _ _ (by omega) (by omega))))
   go_wp2
   go_ret2
   exact ⟨_, rfl, rfl⟩
theorem below_drewN_ {B : Nat} {w w' : World} (h : Below B w w') (n : Nat) : Below B w (w'.drewN n) := ⟨h.os, h.tape, h.output, h.size, h.block⟩
set_option maxHeartbeats 400000 in
theorem slget_yes {p c f n m : Nat} {H : Nat → Int} {T : Nat → Bool} {R : Nat → Rq} {F : Nat → Nat} (h : Int) (w : World) (hs : SlabAt w p c f n H T R m F) (h0 : 0 ≤ h) (h1 : h ≤ 18446744073709551615) (ha : aliveB n H T h = true)
   {i : Nat} (hi : (h % 4294967296).toNat = i) :
   Calls Tryz.prog 92 #[.pointer (some ⟨p, 0, none⟩), .int .u64 h] w fun e w' => e = .returned (.tuple #[rqv (R i), .int .i64 0]) ∧ Below w.heap.size w w' := by
 have hA := hs.alloc_ (.cells #[.int .u64 0, .int .i64 0, .int .i64 0, .int .i64 0, .int .i64 0] 107)
 have hl : i < n := by unfold aliveB at ha; rw [hi] at ha; simp at ha; exact ha.1.1
 have d2 := hA.c2 hl
 have d3 := hA.c3 hl
 have d4 := hA.c4 hl
 have d5 := hA.c5 hl
 have d6 := hA.c6 hl
 have hc := hs.lts.2.1
 have HS := Lib.hid hA
 have HA := Lib.hid ha
 have HI := Lib.hid hi
 clear hs ha hA hi
 go_enter Tryz.func92, Tryz.ntmps92
 go_wp2_with (go_at_call 141; refine (slfind_any _ _ HS.out h0 h1).mono ?_; rintro e w1 ⟨k, rfl, rfl⟩; rw [HA.out, HI.out])
 refine bodyPost_ret (v := .tuple #[rqv (R i), .int .i64 0]) (by simp [results, Tryz.results92, go_sem, rqv]) rfl ⟨rfl, (by repeat (first | with_reducible exact Below.refl _ _ | with_reducible apply Below.drew | with_reducible apply below_drewN_ | refine Below.setCell ?_ (by simp) _ | refine Below.alloc ?_ (by (try simp); (try omega)) _))⟩
set_option maxHeartbeats 400000 in
theorem sllen_any {p c f n m : Nat} {H : Nat → Int} {T : Nat → Bool} {R : Nat → Rq} {F : Nat → Nat} (w : World) (hs : SlabAt w p c f n H T R m F) :
   Calls Tryz.prog 137 #[.pointer (some ⟨p, 0, none⟩)] w fun e w' => ∃ k, w' = w.drewN k ∧ e = .returned (.int .i64 ((n : Int) - m)) := by
 have q0 := hs.p0
 have q1 := hs.p1
 have n0 := hs.n0
 have mn := hs.mn
 clear hs
 go_enter Tryz.func137, Tryz.ntmps137
 go_wp2
 go_quiet (fail)
 go_wp2
 go_ret
 exact ⟨_, rfl, rfl⟩
set_option maxHeartbeats 1000000 in
set_option maxRecDepth 100000 in
theorem slfree_yes {p c f n m : Nat} {H : Nat → Int} {T : Nat → Bool} {R : Nat → Rq} {F : Nat → Nat} (h : Int) (w : World) (hs : SlabAt w p c f n H T R m F) (h0 : 0 ≤ h) (h1 : h ≤ 18446744073709551615) (ha : aliveB n H T h = true)
   {i : Nat} (hi : (h % 4294967296).toNat = i) (hm : m < n) :
   Calls Tryz.prog 164 #[.pointer (some ⟨p, 0, none⟩), .int .u64 h] w fun e w' => e = .returned (.int .i64 0) ∧
     SlabAt w' p c f n H (fun j => if j = i then false else T j) (fun j => if j = i then ⟨0, 0, 0, 0, 0⟩ else R j) (m + 1) (fun j => if j = m then i else F j) ∧ Kept (fun g => g = p ∨ g = c ∨ g = f) w w' := by
 obtain ⟨i0, hi0, hz0, hz1, hz2⟩ := info_parts iinfo
 have hl : i < n := by unfold aliveB at ha; rw [hi] at ha; simp at ha; exact ha.1.1
 have he : h % 4294967296 = (i : Int) := by omega
 have pc := hs.pc
 have pf := hs.pf
 have cf := hs.cf
 have n0 := hs.n0
 have ⟨hlp, hlc, hlf⟩ := hs.lts
 have q1 := hs.p1
 obtain ⟨v0, f0⟩ := hs.fAny hm
 have z9 := hs.zf m
 have y1 := hs.zp 1
 have d1 := hs.c1 hl
 have d2 := hs.c2 hl
 have d3 := hs.c3 hl
 have d4 := hs.c4 hl
 have d5 := hs.c5 hl
 have d6 := hs.c6 hl
 have z0 := hs.zc (i * 7)
 have z1 := hs.zc (i * 7 + 1)
 have z2 := hs.zc (i * 7 + 2)
 have z3 := hs.zc (i * 7 + 3)
 have z4 := hs.zc (i * 7 + 4)
 have z5 := hs.zc (i * 7 + 5)
 have z6 := hs.zc (i * 7 + 6)
 have HS := Lib.hid hs
 have HA := Lib.hid ha
 have HI := Lib.hid hi
 have HE := Lib.hid he
 have pc' := Ne.symm pc
 have pf' := Ne.symm pf
 have cf' := Ne.symm cf
 clear hs ha hi he
 go_enter Tryz.func164, Tryz.ntmps164
 go_upto_region 6 with (go_at_call 141; refine (slfind_any _ _ HS.out h0 h1).mono ?_; rintro e w1 ⟨k, rfl, rfl⟩; rw [HA.out, HI.out])
 refine wp_worlds (fun wx => SlabAt wx p c f n H (fun j => if j = i then false else T j) (fun j => if j = i then ⟨0, 0, 0, 0, 0⟩ else R j) m F ∧ Kept (fun g => g = p ∨ g = c ∨ g = f) w wx) ⟨?_, ?_⟩ ?_
 · refine SlabAt.setR (R := R) ?_ hl (fun _ _ => rfl)
   refine SlabAt.setT (T := T) ?_ hl (fun _ _ => rfl)
   exact HS.out.drewN_ _
 · repeat (first | with_reducible exact Kept.refl _ _ | refine Kept.set_ ?_ (by simp) _ | with_reducible refine Kept.drewN_ ?_ _ | with_reducible refine Kept.drew_ ?_ | with_reducible refine Kept.alloc_ ?_ _)
 clear q1 f0 z9 y1 d1 d2 d3 d4 d5 d6 z0 z1 z2 z3 z4 z5 z6
 rintro wx ⟨hx, hk⟩
 have q1 := hx.p1
 obtain ⟨v1, f1⟩ := hx.fAny hm
 have z9 := hx.zf m
 have y1 := hx.zp 1
 have lx := hx.lts.1
 have lf := hx.lts.2.2
 have HX := Lib.hid hx
 clear hx
 go_region_law (first
   | (rw [if_pos (by rfl)]; refine wp_enter (by go_simp; exact ⟨rfl, rfl⟩) ?_; go_at_call 166; refine (slcell_any _ _ (by omega) (by omega)).mono ?_; rintro e w2 ⟨rfl, rfl⟩; rw [HE.out]; refine ⟨_, rfl, ?_⟩)
   | ((refine step_append_room rfl (.tmp 27) (.tmp 30) 67 rfl 3 i0 1 Tryz.underlying67 hi0 hz1 f 0 m n (by rfl) ⟨wx.heap.size, 0, none⟩ 1 1 [.int .i64 (i : Int)] (by rfl) rfl (by intro j u hj; match j, hj with | 0, hj => simp at hj; subst hj; simp [Addr.add]) (by intro u hu; simp at hu; subst hu; rfl) (by omega) (by intro j hj; have : j = 0 := (by simpa using hj); subst this; simp [go_sem, *]) ?_); simp only [World.setCells, Nat.mul_one, Nat.zero_add]))
 all_goals (try go_wp2)
 all_goals go_ret
 all_goals refine ⟨rfl, ?_, ?_⟩
 all_goals with_reducible first | (refine SlabAt.drew_ ?_) | (refine Kept.drew_ ?_)
 all_goals with_reducible first | (refine SlabAt.alloc_ ?_ _) | (refine Kept.alloc_ ?_ _)
 all_goals first | exact HX.out.push hm (fun _ _ => rfl) | exact (hk.set_ (by simp) _).set_ (by simp) _
end Go.Proofs.YtcffeokbipjaoaaGreat
namespace Go.Proofs.YtcffeokbipjaoaaGreat
open Go.RowKit
set_option linter.unusedVariables false
def lineRow (a b c : Int) : List Value := [.int .i64 a, .int .i64 b, .int .i64 c]
def memRow (a b c d : Int) : List Value := [.int .i64 a, .int .i64 b, .int .i64 c, .int .u64 d]
structure DeqAt (w : World) (p a b R M : Nat) (E0 E1 C W B0 B1 U : Nat → Int) : Prop where
 pa : p ≠ a
 pb : p ≠ b
 ab : a ≠ b
 r0 : R ≤ 8
 m0 : M ≤ 1024
 head : Blk w p 213 #[.slice (some ⟨a, 0, none⟩) R R, .slice (some ⟨b, 0, none⟩) M M]
 rows : ∃ cs, Blk w a 216 cs ∧ cs.size = R * 3 ∧ ∀ i, i < R → ∀ k, k < 3 → cs[i * 3 + k]? = (lineRow (E0 i) (E1 i) (C i))[k]?
 mems : ∃ cs, Blk w b 218 cs ∧ cs.size = M * 4 ∧ ∀ i, i < M → ∀ k, k < 4 → cs[i * 4 + k]? = (memRow (W i) (B0 i) (B1 i) (U i))[k]?
section
variable {w w' : World} {p a b R M : Nat} {E0 E1 C W B0 B1 U E0' E1' C' W' B0' B1' U' : Nat → Int}
theorem DeqAt.p0 (h : DeqAt w p a b R M E0 E1 C W B0 B1 U) : w.cell? ⟨p, 0, none⟩ = some (.slice (some ⟨a, 0, none⟩) R R) := h.head.val (i := 0) rfl
theorem DeqAt.p1 (h : DeqAt w p a b R M E0 E1 C W B0 B1 U) : w.cell? ⟨p, 1, none⟩ = some (.slice (some ⟨b, 0, none⟩) M M) := h.head.val (i := 1) rfl
theorem DeqAt.e0 (h : DeqAt w p a b R M E0 E1 C W B0 B1 U) {i : Nat} (hi : i < R) : w.cell? ⟨a, i * 3, none⟩ = some (.int .i64 (E0 i)) := by obtain ⟨cs, bc, _, cc⟩ := h.rows; exact bc.val (cc i hi 0 (by omega))
theorem DeqAt.e1 (h : DeqAt w p a b R M E0 E1 C W B0 B1 U) {i : Nat} (hi : i < R) : w.cell? ⟨a, i * 3 + 1, none⟩ = some (.int .i64 (E1 i)) := by obtain ⟨cs, bc, _, cc⟩ := h.rows; exact bc.val (cc i hi 1 (by omega))
theorem DeqAt.ct (h : DeqAt w p a b R M E0 E1 C W B0 B1 U) {i : Nat} (hi : i < R) : w.cell? ⟨a, i * 3 + 2, none⟩ = some (.int .i64 (C i)) := by obtain ⟨cs, bc, _, cc⟩ := h.rows; exact bc.val (cc i hi 2 (by omega))
theorem DeqAt.mw (h : DeqAt w p a b R M E0 E1 C W B0 B1 U) {i : Nat} (hi : i < M) : w.cell? ⟨b, i * 4, none⟩ = some (.int .i64 (W i)) := by obtain ⟨cs, bc, _, cc⟩ := h.mems; exact bc.val (cc i hi 0 (by omega))
theorem DeqAt.b0 (h : DeqAt w p a b R M E0 E1 C W B0 B1 U) {i : Nat} (hi : i < M) : w.cell? ⟨b, i * 4 + 1, none⟩ = some (.int .i64 (B0 i)) := by obtain ⟨cs, bc, _, cc⟩ := h.mems; exact bc.val (cc i hi 1 (by omega))
theorem DeqAt.b1 (h : DeqAt w p a b R M E0 E1 C W B0 B1 U) {i : Nat} (hi : i < M) : w.cell? ⟨b, i * 4 + 2, none⟩ = some (.int .i64 (B1 i)) := by obtain ⟨cs, bc, _, cc⟩ := h.mems; exact bc.val (cc i hi 2 (by omega))
theorem DeqAt.mu (h : DeqAt w p a b R M E0 E1 C W B0 B1 U) {i : Nat} (hi : i < M) : w.cell? ⟨b, i * 4 + 3, none⟩ = some (.int .u64 (U i)) := by obtain ⟨cs, bc, _, cc⟩ := h.mems; exact bc.val (cc i hi 3 (by omega))
theorem DeqAt.za (h : DeqAt w p a b R M E0 E1 C W B0 B1 U) (k : Nat) : w.frozen? ⟨a, k, none⟩ = false := by obtain ⟨cs, bc, _, _⟩ := h.rows; exact bc.free k
theorem DeqAt.zb (h : DeqAt w p a b R M E0 E1 C W B0 B1 U) (k : Nat) : w.frozen? ⟨b, k, none⟩ = false := by obtain ⟨cs, bc, _, _⟩ := h.mems; exact bc.free k
theorem DeqAt.lts (h : DeqAt w p a b R M E0 E1 C W B0 B1 U) : p < w.heap.size ∧ a < w.heap.size ∧ b < w.heap.size := by
 obtain ⟨cs, bc, _, _⟩ := h.rows
 obtain ⟨ds, bd, _, _⟩ := h.mems
 exact ⟨h.head.size, bc.size, bd.size⟩
theorem DeqAt.kept {own : Nat → Prop} (h : DeqAt w p a b R M E0 E1 C W B0 B1 U) (hk : Kept own w w') (op : ¬ own p) (oa : ¬ own a) (ob : ¬ own b) : DeqAt w' p a b R M E0 E1 C W B0 B1 U := by
 obtain ⟨a1, a2, a3, a4, a5, hd, ⟨cs, bc, cz, cc⟩, ⟨fs, bf, fz, ff⟩⟩ := h
 exact ⟨a1, a2, a3, a4, a5, hd.kept hk op, ⟨cs, bc.kept hk oa, cz, cc⟩, ⟨fs, bf.kept hk ob, fz, ff⟩⟩
theorem DeqAt.below {B : Nat} (h : DeqAt w p a b R M E0 E1 C W B0 B1 U) (hb : Below B w w') (hp : p < B) (hc : a < B) (hf : b < B) : DeqAt w' p a b R M E0 E1 C W B0 B1 U := by
 obtain ⟨a1, a2, a3, a4, a5, hd, ⟨cs, bc, cz, cc⟩, ⟨fs, bf, fz, ff⟩⟩ := h
 exact ⟨a1, a2, a3, a4, a5, hd.below_ hb hp, ⟨cs, bc.below_ hb hc, cz, cc⟩, ⟨fs, bf.below_ hb hf, fz, ff⟩⟩
theorem DeqAt.drew_ (h : DeqAt w p a b R M E0 E1 C W B0 B1 U) : DeqAt w.drew p a b R M E0 E1 C W B0 B1 U := h.kept (own := fun _ => False) (Kept.refl _ _).drew_ id id id
theorem DeqAt.drewN_ (h : DeqAt w p a b R M E0 E1 C W B0 B1 U) (k : Nat) : DeqAt (w.drewN k) p a b R M E0 E1 C W B0 B1 U := h.kept (own := fun _ => False) ((Kept.refl _ _).drewN_ k) id id id
theorem DeqAt.alloc_ (h : DeqAt w p a b R M E0 E1 C W B0 B1 U) (o : Obj) : DeqAt (w.alloc o) p a b R M E0 E1 C W B0 B1 U := h.kept (own := fun _ => False) ((Kept.refl _ _).alloc_ o) id id id
theorem DeqAt.congr (h : DeqAt w p a b R M E0 E1 C W B0 B1 U) (hr : ∀ j, j < R → E0' j = E0 j ∧ E1' j = E1 j ∧ C' j = C j) (hm : ∀ j, j < M → W' j = W j ∧ B0' j = B0 j ∧ B1' j = B1 j ∧ U' j = U j) : DeqAt w p a b R M E0' E1' C' W' B0' B1' U' := by
 obtain ⟨a1, a2, a3, a4, a5, hd, ⟨cs, bc, cz, cc⟩, ⟨fs, bf, fz, ff⟩⟩ := h
 exact ⟨a1, a2, a3, a4, a5, hd, ⟨cs, bc, cz, fun i hi k hk => by rw [(hr i hi).1, (hr i hi).2.1, (hr i hi).2.2]; exact cc i hi k hk⟩, ⟨fs, bf, fz, fun i hi k hk => by rw [(hm i hi).1, (hm i hi).2.1, (hm i hi).2.2.1, (hm i hi).2.2.2]; exact ff i hi k hk⟩⟩
theorem DeqAt.setLine (h : DeqAt w p a b R M E0 E1 C W B0 B1 U) {i k : Nat} (hi : i < R) (hk : k < 3) {v : Value}
   (hr : ∀ j, j < R → ∀ l, l < 3 → (lineRow (E0' j) (E1' j) (C' j))[l]? = if j = i ∧ l = k then some v else (lineRow (E0 j) (E1 j) (C j))[l]?) : DeqAt (w.setCell ⟨a, i * 3 + k, none⟩ v) p a b R M E0' E1' C' W B0 B1 U := by
 obtain ⟨a1, a2, a3, a4, a5, hd, ⟨cs, bc, cz, cc⟩, ⟨fs, bf, fz, ff⟩⟩ := h
 refine ⟨a1, a2, a3, a4, a5, hd.far _ a1, ⟨_, bc.set_ _ _, by simpa using cz, fun j hj l hl => ?_⟩, ⟨fs, bf.far _ (Ne.symm a3), fz, ff⟩⟩
 rw [hr j hj l hl]
 by_cases e : j = i ∧ l = k
 · rw [if_pos e, e.1, e.2]; exact get_set_same (by omega) v
 · rw [if_neg e, get_set_far (by omega)]; exact cc j hj l hl
theorem DeqAt.setMem (h : DeqAt w p a b R M E0 E1 C W B0 B1 U) {i k : Nat} (hi : i < M) (hk : k < 4) {v : Value}
   (hr : ∀ j, j < M → ∀ l, l < 4 → (memRow (W' j) (B0' j) (B1' j) (U' j))[l]? = if j = i ∧ l = k then some v else (memRow (W j) (B0 j) (B1 j) (U j))[l]?) : DeqAt (w.setCell ⟨b, i * 4 + k, none⟩ v) p a b R M E0 E1 C W' B0' B1' U' := by
 obtain ⟨a1, a2, a3, a4, a5, hd, ⟨cs, bc, cz, cc⟩, ⟨fs, bf, fz, ff⟩⟩ := h
 refine ⟨a1, a2, a3, a4, a5, hd.far _ a2, ⟨cs, bc.far _ a3, cz, cc⟩, ⟨_, bf.set_ _ _, by simpa using fz, fun j hj l hl => ?_⟩⟩
 rw [hr j hj l hl]
 by_cases e : j = i ∧ l = k
 · rw [if_pos e, e.1, e.2]; exact get_set_same (by omega) v
 · rw [if_neg e, get_set_far (by omega)]; exact ff j hj l hl
theorem DeqAt.setE0 (h : DeqAt w p a b R M E0 E1 C W B0 B1 U) {i : Nat} (hi : i < R) {v : Int} : DeqAt (w.setCell ⟨a, i * 3, none⟩ (.int .i64 v)) p a b R M (fun j => if j = i then v else E0 j) E1 C W B0 B1 U :=
 h.setLine (k := 0) hi (by omega) fun j hj l hl => by
   by_cases e : j = i
   · match l, hl with
     | 0, _ => simp [e, lineRow]
     | 1, _ | 2, _ => simp [e, lineRow]
   · simp [e]
theorem DeqAt.setE1 (h : DeqAt w p a b R M E0 E1 C W B0 B1 U) {i : Nat} (hi : i < R) {v : Int} : DeqAt (w.setCell ⟨a, i * 3 + 1, none⟩ (.int .i64 v)) p a b R M E0 (fun j => if j = i then v else E1 j) C W B0 B1 U :=
 h.setLine (k := 1) hi (by omega) fun j hj l hl => by
   by_cases e : j = i
   · match l, hl with
     | 1, _ => simp [e, lineRow]
     | 0, _ | 2, _ => simp [e, lineRow]
   · simp [e]
theorem DeqAt.setC (h : DeqAt w p a b R M E0 E1 C W B0 B1 U) {i : Nat} (hi : i < R) {v : Int} : DeqAt (w.setCell ⟨a, i * 3 + 2, none⟩ (.int .i64 v)) p a b R M E0 E1 (fun j => if j = i then v else C j) W B0 B1 U :=
 h.setLine (k := 2) hi (by omega) fun j hj l hl => by
   by_cases e : j = i
   · match l, hl with
     | 2, _ => simp [e, lineRow]
     | 0, _ | 1, _ => simp [e, lineRow]
   · simp [e]
theorem DeqAt.setW (h : DeqAt w p a b R M E0 E1 C W B0 B1 U) {i : Nat} (hi : i < M) {v : Int} : DeqAt (w.setCell ⟨b, i * 4, none⟩ (.int .i64 v)) p a b R M E0 E1 C (fun j => if j = i then v else W j) B0 B1 U :=
 h.setMem (k := 0) hi (by omega) fun j hj l hl => by
   by_cases e : j = i
   · match l, hl with
     | 0, _ => simp [e, memRow]
     | 1, _ | 2, _ | 3, _ => simp [e, memRow]
   · simp [e]
theorem DeqAt.setB0 (h : DeqAt w p a b R M E0 E1 C W B0 B1 U) {i : Nat} (hi : i < M) {v : Int} : DeqAt (w.setCell ⟨b, i * 4 + 1, none⟩ (.int .i64 v)) p a b R M E0 E1 C W (fun j => if j = i then v else B0 j) B1 U :=
 h.setMem (k := 1) hi (by omega) fun j hj l hl => by
   by_cases e : j = i
   · match l, hl with
     | 1, _ => simp [e, memRow]
     | 0, _ | 2, _ | 3, _ => simp [e, memRow]
   · simp [e]
theorem DeqAt.setB1 (h : DeqAt w p a b R M E0 E1 C W B0 B1 U) {i : Nat} (hi : i < M) {v : Int} : DeqAt (w.setCell ⟨b, i * 4 + 2, none⟩ (.int .i64 v)) p a b R M E0 E1 C W B0 (fun j => if j = i then v else B1 j) U :=
 h.setMem (k := 2) hi (by omega) fun j hj l hl => by
   by_cases e : j = i
   · match l, hl with
     | 2, _ => simp [e, memRow]
     | 0, _ | 1, _ | 3, _ => simp [e, memRow]
   · simp [e]
theorem DeqAt.setU (h : DeqAt w p a b R M E0 E1 C W B0 B1 U) {i : Nat} (hi : i < M) {v : Int} : DeqAt (w.setCell ⟨b, i * 4 + 3, none⟩ (.int .u64 v)) p a b R M E0 E1 C W B0 B1 (fun j => if j = i then v else U j) :=
 h.setMem (k := 3) hi (by omega) fun j hj l hl => by
   by_cases e : j = i
   · match l, hl with
     | 3, _ => simp [e, memRow]
     | 0, _ | 1, _ | 2, _ => simp [e, memRow]
   · simp [e]
end
end Go.Proofs.YtcffeokbipjaoaaGreat
