/- Texts of this claim, one behind the other: Deqb. -/
import Derived.StillTailTactics
import Derived.Test.YtcffeokbipjaoaaGreatMuab
namespace Go.Proofs.YtcffeokbipjaoaaGreat
open Go.RowKit
set_option linter.unusedVariables false
theorem wp_world {P : Program} {code : Code} {Q : Exit → Act → World → Prop} {a : Act} {w : World} (φ : World → Prop) (h : φ w) (k : ∀ wx, φ wx → Code.wp P code Q a wx) : Code.wp P code Q a w := k w h
set_option maxRecDepth 100000 in
set_option maxHeartbeats 1000000 in
theorem hasrow_yes {p a b R M : Nat} {E0 E1 C W B0 B1 U : Nat → Int} {r : Nat} (hr : r < R) (w : World) (h : DeqAt w p a b R M E0 E1 C W B0 B1 U) :
   Calls Tryz.prog 211 #[.pointer (some ⟨p, 0, none⟩), .int .i64 (r : Int)] w fun e w' => e = .returned (.bool true) ∧ w = w' := by
 have q0 := h.p0
 have n0 := h.r0
 clear h
 go_enter Tryz.func211, Tryz.ntmps211
 go_wp2
 go_ret
 exact ⟨rfl, rfl⟩
set_option maxRecDepth 100000 in
set_option maxHeartbeats 1000000 in
theorem hasrow_no {p a b R M : Nat} {E0 E1 C W B0 B1 U : Nat → Int} {r : Int} (w : World) (h : DeqAt w p a b R M E0 E1 C W B0 B1 U) (hr : r < 0 ∨ (R : Int) ≤ r) :
   Calls Tryz.prog 211 #[.pointer (some ⟨p, 0, none⟩), .int .i64 r] w fun e w' => e = .returned (.bool false) ∧ w = w' := by
 have q0 := h.p0
 have n0 := h.r0
 clear h
 rcases hr with hr | hr
 · go_enter Tryz.func211, Tryz.ntmps211
   go_wp2
   go_ret
   exact ⟨rfl, rfl⟩
 · have hr0 : 0 ≤ r := by omega
   have hd : decide (r < (R : Int)) = false := decide_eq_false (by omega)
   go_enter Tryz.func211, Tryz.ntmps211
   go_wp2
   go_ret
   exact ⟨rfl, rfl⟩
set_option maxRecDepth 100000 in
set_option maxHeartbeats 1000000 in
theorem hasmem_yes {p a b R M : Nat} {E0 E1 C W B0 B1 U : Nat → Int} {i : Nat} (hi : i < M) (w : World) (h : DeqAt w p a b R M E0 E1 C W B0 B1 U) :
   Calls Tryz.prog 203 #[.pointer (some ⟨p, 0, none⟩), .int .i64 (i : Int)] w fun e w' => e = .returned (.bool true) ∧ w = w' := by
 have q1 := h.p1
 have m0 := h.m0
 clear h
 go_enter Tryz.func203, Tryz.ntmps203
 go_wp2
 go_ret
 exact ⟨rfl, rfl⟩
set_option maxRecDepth 100000 in
set_option maxHeartbeats 1000000 in
theorem hasmem_no {p a b R M : Nat} {E0 E1 C W B0 B1 U : Nat → Int} {i : Int} (w : World) (h : DeqAt w p a b R M E0 E1 C W B0 B1 U) (hi : i < 0 ∨ (M : Int) ≤ i) :
   Calls Tryz.prog 203 #[.pointer (some ⟨p, 0, none⟩), .int .i64 i] w fun e w' => e = .returned (.bool false) ∧ w = w' := by
 have q1 := h.p1
 have m0 := h.m0
 clear h
 rcases hi with hi | hi
 · go_enter Tryz.func203, Tryz.ntmps203
   go_wp2
   go_ret
   exact ⟨rfl, rfl⟩
 · have hi0 : 0 ≤ i := by omega
   have hd : decide (i < (M : Int)) = false := decide_eq_false (by omega)
   go_enter Tryz.func203, Tryz.ntmps203
   go_wp2
   go_ret
   exact ⟨rfl, rfl⟩
set_option maxRecDepth 100000 in
set_option maxHeartbeats 1000000 in
theorem side_none0 {p a b R M : Nat} {E0 E1 C W B0 B1 U : Nat → Int} {r : Nat} (hr : r < R) (w : World) (h : DeqAt w p a b R M E0 E1 C W B0 B1 U) :
   Calls Tryz.prog 247 #[.pointer (some ⟨p, 0, none⟩), .int .i64 (r : Int), .int .i64 (-1), .int .i64 0] w fun e w' => e = .returned (.pointer (some ⟨a, r * 3 + 1, none⟩)) ∧ w = w' := by
 have q0 := h.p0
 have n0 := h.r0
 clear h
 go_enter Tryz.func247, Tryz.ntmps247
 go_wp2
 go_ret
 exact ⟨rfl, rfl⟩
set_option maxRecDepth 100000 in
set_option maxHeartbeats 1000000 in
theorem side_mem0 {p a b R M : Nat} {E0 E1 C W B0 B1 U : Nat → Int} {r : Int} {i : Nat} (hi : i < M) (w : World) (h : DeqAt w p a b R M E0 E1 C W B0 B1 U) :
   Calls Tryz.prog 247 #[.pointer (some ⟨p, 0, none⟩), .int .i64 r, .int .i64 (i : Int), .int .i64 0] w fun e w' => e = .returned (.pointer (some ⟨b, i * 4 + 1, none⟩)) ∧ w = w' := by
 have q1 := h.p1
 have m0 := h.m0
 clear h
 go_enter Tryz.func247, Tryz.ntmps247
 go_wp2
 go_ret
 exact ⟨rfl, rfl⟩
set_option maxRecDepth 100000 in
set_option maxHeartbeats 1000000 in
theorem side_none1 {p a b R M : Nat} {E0 E1 C W B0 B1 U : Nat → Int} {r : Nat} (hr : r < R) (w : World) (h : DeqAt w p a b R M E0 E1 C W B0 B1 U) :
   Calls Tryz.prog 247 #[.pointer (some ⟨p, 0, none⟩), .int .i64 (r : Int), .int .i64 (-1), .int .i64 1] w fun e w' => e = .returned (.pointer (some ⟨a, r * 3, none⟩)) ∧ w = w' := by
 have q0 := h.p0
 have n0 := h.r0
 clear h
 go_enter Tryz.func247, Tryz.ntmps247
 go_wp2
 go_ret
 exact ⟨rfl, rfl⟩
set_option maxRecDepth 100000 in
set_option maxHeartbeats 1000000 in
theorem side_mem1 {p a b R M : Nat} {E0 E1 C W B0 B1 U : Nat → Int} {r : Int} {i : Nat} (hi : i < M) (w : World) (h : DeqAt w p a b R M E0 E1 C W B0 B1 U) :
   Calls Tryz.prog 247 #[.pointer (some ⟨p, 0, none⟩), .int .i64 r, .int .i64 (i : Int), .int .i64 1] w fun e w' => e = .returned (.pointer (some ⟨b, i * 4 + 2, none⟩)) ∧ w = w' := by
 have q1 := h.p1
 have m0 := h.m0
 clear h
 go_enter Tryz.func247, Tryz.ntmps247
 go_wp2
 go_ret
 exact ⟨rfl, rfl⟩
set_option maxRecDepth 100000 in
set_option maxHeartbeats 1000000 in
theorem link_nn {p a b R M : Nat} {E0 E1 C W B0 B1 U : Nat → Int} {r : Nat} (hr : r < R) (w : World) (h : DeqAt w p a b R M E0 E1 C W B0 B1 U) :
   Calls Tryz.prog 204 #[.pointer (some ⟨p, 0, none⟩), .int .i64 (r : Int), .int .i64 (-1), .int .i64 (-1)] w fun e w' => e = .returned (.tuple #[]) ∧ DeqAt w' p a b R M (fun j => if j = r then (-1) else E0 j) (fun j => if j = r then (-1) else E1 j) C W B0 B1 U ∧ Kept (fun g => g = a ∨ g = b) w w' := by
 have k1 := h.e0 hr
 have z1 := h.za (r * 3)
 have H0 := Lib.hid h
 clear h
 go_enter Tryz.func204, Tryz.ntmps204
 go_upto_region 1 with (go_at_call 247; refine (side_none1 hr _ H0.out).mono ?_; rintro e w1 ⟨rfl, rfl⟩)
 refine wp_world (fun wx => DeqAt wx p a b R M (fun j => if j = r then (-1) else E0 j) E1 C W B0 B1 U ∧ Kept (fun g => g = a ∨ g = b) w wx) ⟨(H0.out.setE0 hr), (by repeat (first | with_reducible exact Kept.refl _ _ | refine Kept.set_ ?_ (by simp) _ | with_reducible refine Kept.drewN_ ?_ _ | with_reducible refine Kept.drew_ ?_ | with_reducible refine Kept.alloc_ ?_ _))⟩ ?_
 clear k1 z1
 rintro wx ⟨h, hk⟩
 have k2 := h.e1 hr
 have z2 := h.za (r * 3 + 1)
 have H1 := Lib.hid h
 clear h
 go_wp2_with (go_at_call 247; refine (side_none0 hr _ H1.out).mono ?_; rintro e w1 ⟨rfl, rfl⟩)
 first | go_end0 | skip
 refine ⟨rfl, (H1.out.setE1 hr), hk.set_ (by simp) _⟩
set_option maxRecDepth 100000 in
set_option maxHeartbeats 1000000 in
theorem link_nm {p a b R M : Nat} {E0 E1 C W B0 B1 U : Nat → Int} {r : Nat} (hr : r < R) {y : Nat} (hy : y < M) (w : World) (h : DeqAt w p a b R M E0 E1 C W B0 B1 U) :
   Calls Tryz.prog 204 #[.pointer (some ⟨p, 0, none⟩), .int .i64 (r : Int), .int .i64 (-1), .int .i64 (y : Int)] w fun e w' => e = .returned (.tuple #[]) ∧ DeqAt w' p a b R M (fun j => if j = r then (y : Int) else E0 j) E1 C W (fun j => if j = y then (-1) else B0 j) B1 U ∧ Kept (fun g => g = a ∨ g = b) w w' := by
 have k1 := h.e0 hr
 have z1 := h.za (r * 3)
 have H0 := Lib.hid h
 clear h
 go_enter Tryz.func204, Tryz.ntmps204
 go_upto_region 1 with (go_at_call 247; refine (side_none1 hr _ H0.out).mono ?_; rintro e w1 ⟨rfl, rfl⟩)
 refine wp_world (fun wx => DeqAt wx p a b R M (fun j => if j = r then (y : Int) else E0 j) E1 C W B0 B1 U ∧ Kept (fun g => g = a ∨ g = b) w wx) ⟨(H0.out.setE0 hr), (by repeat (first | with_reducible exact Kept.refl _ _ | refine Kept.set_ ?_ (by simp) _ | with_reducible refine Kept.drewN_ ?_ _ | with_reducible refine Kept.drew_ ?_ | with_reducible refine Kept.alloc_ ?_ _))⟩ ?_
 clear k1 z1
 rintro wx ⟨h, hk⟩
 have k2 := h.b0 hy
 have z2 := h.zb (y * 4 + 1)
 have H1 := Lib.hid h
 clear h
 go_wp2_with (go_at_call 247; refine (side_mem0 hy _ H1.out).mono ?_; rintro e w1 ⟨rfl, rfl⟩)
 first | go_end0 | skip
 refine ⟨rfl, (H1.out.setB0 hy), hk.set_ (by simp) _⟩
set_option maxRecDepth 100000 in
set_option maxHeartbeats 1000000 in
theorem link_mn {p a b R M : Nat} {E0 E1 C W B0 B1 U : Nat → Int} {r : Nat} (hr : r < R) {x : Nat} (hx : x < M) (w : World) (h : DeqAt w p a b R M E0 E1 C W B0 B1 U) :
   Calls Tryz.prog 204 #[.pointer (some ⟨p, 0, none⟩), .int .i64 (r : Int), .int .i64 (x : Int), .int .i64 (-1)] w fun e w' => e = .returned (.tuple #[]) ∧ DeqAt w' p a b R M E0 (fun j => if j = r then (x : Int) else E1 j) C W B0 (fun j => if j = x then (-1) else B1 j) U ∧ Kept (fun g => g = a ∨ g = b) w w' := by
 have k1 := h.b1 hx
 have z1 := h.zb (x * 4 + 2)
 have H0 := Lib.hid h
 clear h
 go_enter Tryz.func204, Tryz.ntmps204
 go_upto_region 1 with (go_at_call 247; refine (side_mem1 hx _ H0.out).mono ?_; rintro e w1 ⟨rfl, rfl⟩)
 refine wp_world (fun wx => DeqAt wx p a b R M E0 E1 C W B0 (fun j => if j = x then (-1) else B1 j) U ∧ Kept (fun g => g = a ∨ g = b) w wx) ⟨(H0.out.setB1 hx), (by repeat (first | with_reducible exact Kept.refl _ _ | refine Kept.set_ ?_ (by simp) _ | with_reducible refine Kept.drewN_ ?_ _ | with_reducible refine Kept.drew_ ?_ | with_reducible refine Kept.alloc_ ?_ _))⟩ ?_
 clear k1 z1
 rintro wx ⟨h, hk⟩
 have k2 := h.e1 hr
 have z2 := h.za (r * 3 + 1)
 have H1 := Lib.hid h
 clear h
 go_wp2_with (go_at_call 247; refine (side_none0 hr _ H1.out).mono ?_; rintro e w1 ⟨rfl, rfl⟩)
 first | go_end0 | skip
 refine ⟨rfl, (H1.out.setE1 hr), hk.set_ (by simp) _⟩
set_option maxRecDepth 100000 in
set_option maxHeartbeats 1000000 in
theorem link_mm {p a b R M : Nat} {E0 E1 C W B0 B1 U : Nat → Int} {r : Nat} (hr : r < R) {x : Nat} (hx : x < M) {y : Nat} (hy : y < M) (w : World) (h : DeqAt w p a b R M E0 E1 C W B0 B1 U) :
   Calls Tryz.prog 204 #[.pointer (some ⟨p, 0, none⟩), .int .i64 (r : Int), .int .i64 (x : Int), .int .i64 (y : Int)] w fun e w' => e = .returned (.tuple #[]) ∧ DeqAt w' p a b R M E0 E1 C W (fun j => if j = y then (x : Int) else B0 j) (fun j => if j = x then (y : Int) else B1 j) U ∧ Kept (fun g => g = a ∨ g = b) w w' := by
 have k1 := h.b1 hx
 have z1 := h.zb (x * 4 + 2)
 have H0 := Lib.hid h
 clear h
 go_enter Tryz.func204, Tryz.ntmps204
 go_upto_region 1 with (go_at_call 247; refine (side_mem1 hx _ H0.out).mono ?_; rintro e w1 ⟨rfl, rfl⟩)
 refine wp_world (fun wx => DeqAt wx p a b R M E0 E1 C W B0 (fun j => if j = x then (y : Int) else B1 j) U ∧ Kept (fun g => g = a ∨ g = b) w wx) ⟨(H0.out.setB1 hx), (by repeat (first | with_reducible exact Kept.refl _ _ | refine Kept.set_ ?_ (by simp) _ | with_reducible refine Kept.drewN_ ?_ _ | with_reducible refine Kept.drew_ ?_ | with_reducible refine Kept.alloc_ ?_ _))⟩ ?_
 clear k1 z1
 rintro wx ⟨h, hk⟩
 have k2 := h.b0 hy
 have z2 := h.zb (y * 4 + 1)
 have H1 := Lib.hid h
 clear h
 go_wp2_with (go_at_call 247; refine (side_mem0 hy _ H1.out).mono ?_; rintro e w1 ⟨rfl, rfl⟩)
 first | go_end0 | skip
 refine ⟨rfl, (H1.out.setB0 hy), hk.set_ (by simp) _⟩
set_option maxRecDepth 100000 in
set_option maxHeartbeats 1000000 in
theorem push_busy {p a b R M : Nat} {E0 E1 C W B0 B1 U : Nat → Int} {r i k : Nat} (hr : r < R) (hi : i < M) (hk : W i = (k : Int)) (w : World) (h : DeqAt w p a b R M E0 E1 C W B0 B1 U) :
   Calls Tryz.prog 171 #[.pointer (some ⟨p, 0, none⟩), .int .i64 (r : Int), .int .i64 (i : Int)] w fun e w' => e = .returned (.int .i64 10) ∧ w = w' := by
 have q1 := h.p1
 have m0 := h.m0
 have k1 := h.mw hi
 rw [hk] at k1
 have hb : ((k : Int) == -1) = false := beq_eq_false_iff_ne.2 (by omega)
 have H0 := Lib.hid h
 clear h hk
 go_enter Tryz.func171, Tryz.ntmps171
 go_wp2_with (first
   | (go_at_call 211; refine (hasrow_yes hr _ H0.out).mono ?_; rintro e w1 ⟨rfl, rfl⟩)
   | (go_at_call 203; refine (hasmem_yes hi _ H0.out).mono ?_; rintro e w1 ⟨rfl, rfl⟩))
 go_ret
 exact ⟨rfl, rfl⟩
set_option maxRecDepth 100000 in
set_option maxHeartbeats 1000000 in
theorem push_none {p a b R M : Nat} {E0 E1 C W B0 B1 U : Nat → Int} {r i : Nat} (hr : r < R) (hi : i < M) (hk : W i = -1) (hl : E1 r = -1) (u0 : 0 ≤ U i) (u1 : U i ≤ 9223372036854775807) (c0 : 0 ≤ C r) (c1 : C r ≤ 1000000) (w : World) (h : DeqAt w p a b R M E0 E1 C W B0 B1 U) :
   Calls Tryz.prog 171 #[.pointer (some ⟨p, 0, none⟩), .int .i64 (r : Int), .int .i64 (i : Int)] w fun e w' => e = .returned (.int .i64 0) ∧ DeqAt w' p a b R M (fun j => if j = r then (i : Int) else E0 j) (fun j => if j = r then (i : Int) else E1 j) (fun j => if j = r then C r + 1 else C j) (fun j => if j = i then (r : Int) else W j) (fun j => if j = i then (-1) else B0 j) (fun j => if j = i then (-1) else B1 j) (fun j => if j = i then U i + 1 else U j) ∧ Kept (fun g => g = a ∨ g = b) w w' := by
 have q0 := h.p0
 have q1 := h.p1
 have m0 := h.m0
 have n0 := h.r0
 have k1 := h.mw hi
 rw [hk] at k1
 have k2 := h.e1 hr
 rw [hl] at k2
 have k3 := h.mu hi
 have z1 := h.zb (i * 4)
 have z3 := h.zb (i * 4 + 3)
 have pb := h.pb
 have pa := h.pa
 have ab := h.ab
 have pb' := Ne.symm h.pb
 have pa' := Ne.symm h.pa
 have ab' := Ne.symm h.ab
 have H0 := Lib.hid h
 clear h hk hl
 go_enter Tryz.func171, Tryz.ntmps171
 go_upto_region 11 with (first
   | (go_at_call 211; refine (hasrow_yes hr _ H0.out).mono ?_; rintro e w1 ⟨rfl, rfl⟩)
   | (go_at_call 203; refine (hasmem_yes hi _ H0.out).mono ?_; rintro e w1 ⟨rfl, rfl⟩))
 refine wp_world (fun wx => DeqAt wx p a b R M E0 E1 C (fun j => if j = i then (r : Int) else W j) B0 B1 (fun j => if j = i then U i + 1 else U j) ∧ Kept (fun g => g = a ∨ g = b) w wx) ⟨?_, ?_⟩ ?_
 · refine DeqAt.setU (U := U) ?_ hi
   exact H0.out.setW hi
 · repeat (first | with_reducible exact Kept.refl _ _ | refine Kept.set_ ?_ (by simp) _ | with_reducible refine Kept.drewN_ ?_ _ | with_reducible refine Kept.drew_ ?_ | with_reducible refine Kept.alloc_ ?_ _)
 clear k1 k2 k3 z1 z3 q0 q1
 rintro wx ⟨h, hk⟩
 have H1 := Lib.hid h
 clear h
 go_upto_region 13 with (first
   | (go_at_call 204; ((with_reducible refine (link_nm hr hi _ H1.out).mono ?_)); rintro e w2 ⟨rfl, h2, kk2⟩; have H2 := Lib.hid h2; have K2 := Lib.hid kk2; clear h2 kk2)
   | (go_at_call 204; ((with_reducible refine (link_mn hr hi _ H2.out).mono ?_)); rintro e w3 ⟨rfl, h3, kk3⟩; have H3 := Lib.hid h3; have K3 := Lib.hid kk3; clear h3 kk3))
 have q0 := H3.out.p0
 have k4 := H3.out.ct hr
 have z4 := H3.out.za (r * 3 + 2)
 go_wp2
 go_ret
 exact ⟨rfl, H3.out.setC hr, ((hk.trans K2.out).trans K3.out).set_ (by simp) _⟩
set_option maxRecDepth 100000 in
set_option maxHeartbeats 1000000 in
theorem push_some {p a b R M : Nat} {E0 E1 C W B0 B1 U : Nat → Int} {r i : Nat} (hr : r < R) (hi : i < M) (hk : W i = -1) {x : Nat} (hx : x < M) (hxi : x ≠ i) (hl : E1 r = (x : Int)) (u0 : 0 ≤ U i) (u1 : U i ≤ 9223372036854775807) (c0 : 0 ≤ C r) (c1 : C r ≤ 1000000) (w : World) (h : DeqAt w p a b R M E0 E1 C W B0 B1 U) :
   Calls Tryz.prog 171 #[.pointer (some ⟨p, 0, none⟩), .int .i64 (r : Int), .int .i64 (i : Int)] w fun e w' => e = .returned (.int .i64 0) ∧ DeqAt w' p a b R M E0 (fun j => if j = r then (i : Int) else E1 j) (fun j => if j = r then C r + 1 else C j) (fun j => if j = i then (r : Int) else W j) (fun j => if j = i then (x : Int) else B0 j) (fun j => if j = i then (-1) else (fun j => if j = x then (i : Int) else B1 j) j) (fun j => if j = i then U i + 1 else U j) ∧ Kept (fun g => g = a ∨ g = b) w w' := by
 have q0 := h.p0
 have q1 := h.p1
 have m0 := h.m0
 have n0 := h.r0
 have k1 := h.mw hi
 rw [hk] at k1
 have k2 := h.e1 hr
 rw [hl] at k2
 have k3 := h.mu hi
 have z1 := h.zb (i * 4)
 have z3 := h.zb (i * 4 + 3)
 have pb := h.pb
 have pa := h.pa
 have ab := h.ab
 have pb' := Ne.symm h.pb
 have pa' := Ne.symm h.pa
 have ab' := Ne.symm h.ab
 have H0 := Lib.hid h
 clear h hk hl
 go_enter Tryz.func171, Tryz.ntmps171
 go_upto_region 11 with (first
   | (go_at_call 211; refine (hasrow_yes hr _ H0.out).mono ?_; rintro e w1 ⟨rfl, rfl⟩)
   | (go_at_call 203; refine (hasmem_yes hi _ H0.out).mono ?_; rintro e w1 ⟨rfl, rfl⟩))
 refine wp_world (fun wx => DeqAt wx p a b R M E0 E1 C (fun j => if j = i then (r : Int) else W j) B0 B1 (fun j => if j = i then U i + 1 else U j) ∧ Kept (fun g => g = a ∨ g = b) w wx) ⟨?_, ?_⟩ ?_
 · refine DeqAt.setU (U := U) ?_ hi
   exact H0.out.setW hi
 · repeat (first | with_reducible exact Kept.refl _ _ | refine Kept.set_ ?_ (by simp) _ | with_reducible refine Kept.drewN_ ?_ _ | with_reducible refine Kept.drew_ ?_ | with_reducible refine Kept.alloc_ ?_ _)
 clear k1 k2 k3 z1 z3 q0 q1
 rintro wx ⟨h, hk⟩
 have H1 := Lib.hid h
 clear h
 go_upto_region 13 with (first
   | (go_at_call 204; ((with_reducible refine (link_mm hr hx hi _ H1.out).mono ?_)); rintro e w2 ⟨rfl, h2, kk2⟩; have H2 := Lib.hid h2; have K2 := Lib.hid kk2; clear h2 kk2)
   | (go_at_call 204; ((with_reducible refine (link_mn hr hi _ H2.out).mono ?_)); rintro e w3 ⟨rfl, h3, kk3⟩; have H3 := Lib.hid h3; have K3 := Lib.hid kk3; clear h3 kk3))
 have q0 := H3.out.p0
 have k4 := H3.out.ct hr
 have z4 := H3.out.za (r * 3 + 2)
 go_wp2
 go_ret
 exact ⟨rfl, H3.out.setC hr, ((hk.trans K2.out).trans K3.out).set_ (by simp) _⟩
set_option maxRecDepth 100000 in
set_option maxHeartbeats 1000000 in
theorem rem_nn {p a b R M : Nat} {E0 E1 C W B0 B1 U : Nat → Int} {r i : Nat} (hr : r < R) (hi : i < M) (hw : W i = (r : Int)) (h0 : B0 i = (-1)) (h1 : B1 i = (-1)) (c0 : 0 < C r) (c1 : C r ≤ 1000000) (w : World) (h : DeqAt w p a b R M E0 E1 C W B0 B1 U) :
   Calls Tryz.prog 165 #[.pointer (some ⟨p, 0, none⟩), .int .i64 (i : Int)] w fun e w' => e = .returned (.int .i64 0) ∧ DeqAt w' p a b R M (fun j => if j = r then (-1) else E0 j) (fun j => if j = r then (-1) else E1 j) (fun j => if j = r then C r - 1 else C j) (fun j => if j = i then (-1) else W j) B0 B1 U ∧ Kept (fun g => g = a ∨ g = b) w w' := by
 have q0 := h.p0
 have q1 := h.p1
 have m0 := h.m0
 have n0 := h.r0
 have k1 := h.mw hi
 rw [hw] at k1
 have k2 := h.b0 hi
 rw [h0] at k2
 have k3 := h.b1 hi
 rw [h1] at k3
 have pa' := Ne.symm h.pa
 have pb' := Ne.symm h.pb
 have ab' := Ne.symm h.ab
 have pa := h.pa
 have pb := h.pb
 have ab := h.ab
 have hne : ((r : Int) == -1) = false := beq_eq_false_iff_ne.2 (by omega)
 have H0 := Lib.hid h
 have HW := Lib.hid hw
 clear h hw h0 h1
 go_enter Tryz.func165, Tryz.ntmps165
 go_upto_region 8 with (go_at_call 203; refine (hasmem_yes hi _ H0.out).mono ?_; rintro e w1 ⟨rfl, rfl⟩)
 go_still_tail 15, (by kernel_rfl)
 go_upto_region 9 with (go_at_call 204; refine (link_nn hr   _ H0.out.drew_).mono ?_; rintro e w2 ⟨rfl, h2, kk2⟩; have H2 := Lib.hid h2; have K2 := Lib.hid kk2; clear h2 kk2)
 refine wp_world (fun wx => DeqAt wx p a b R M (fun j => if j = r then (-1) else E0 j) (fun j => if j = r then (-1) else E1 j) C W B0 B1 U ∧ Kept (fun g => g = a ∨ g = b) w wx) ⟨H2.out, (Kept.refl _ _).drew_.trans K2.out⟩ ?_
 rintro wx ⟨h, hk⟩
 clear q0 q1 k1 k2 k3
 have q0 := h.p0
 have k1 := h.mw hi
 rw [HW.out] at k1
 have k2 := h.ct hr
 have z2 := h.za (r * 3 + 2)
 have z4 := h.zb (i * 4)
 have H1 := Lib.hid h
 clear h
 go_still_tail 14, (by kernel_rfl)
 go_wp2
 go_ret
 refine ⟨rfl, (H1.out.drew_.setC hr).setW hi, (hk.drew_.set_ (by simp) _).set_ (by simp) _⟩
set_option maxRecDepth 100000 in
set_option maxHeartbeats 1000000 in
theorem rem_nm {p a b R M : Nat} {E0 E1 C W B0 B1 U : Nat → Int} {r i : Nat} (hr : r < R) (hi : i < M) (hw : W i = (r : Int)) {y : Nat} (hy : y < M) (h0 : B0 i = (-1)) (h1 : B1 i = (y : Int)) (c0 : 0 < C r) (c1 : C r ≤ 1000000) (w : World) (h : DeqAt w p a b R M E0 E1 C W B0 B1 U) :
   Calls Tryz.prog 165 #[.pointer (some ⟨p, 0, none⟩), .int .i64 (i : Int)] w fun e w' => e = .returned (.int .i64 0) ∧ DeqAt w' p a b R M (fun j => if j = r then (y : Int) else E0 j) E1 (fun j => if j = r then C r - 1 else C j) (fun j => if j = i then (-1) else W j) (fun j => if j = y then (-1) else B0 j) B1 U ∧ Kept (fun g => g = a ∨ g = b) w w' := by
 have q0 := h.p0
 have q1 := h.p1
 have m0 := h.m0
 have n0 := h.r0
 have k1 := h.mw hi
 rw [hw] at k1
 have k2 := h.b0 hi
 rw [h0] at k2
 have k3 := h.b1 hi
 rw [h1] at k3
 have pa' := Ne.symm h.pa
 have pb' := Ne.symm h.pb
 have ab' := Ne.symm h.ab
 have pa := h.pa
 have pb := h.pb
 have ab := h.ab
 have hne : ((r : Int) == -1) = false := beq_eq_false_iff_ne.2 (by omega)
 have H0 := Lib.hid h
 have HW := Lib.hid hw
 clear h hw h0 h1
 go_enter Tryz.func165, Tryz.ntmps165
 go_upto_region 8 with (go_at_call 203; refine (hasmem_yes hi _ H0.out).mono ?_; rintro e w1 ⟨rfl, rfl⟩)
 go_still_tail 15, (by kernel_rfl)
 go_upto_region 9 with (go_at_call 204; refine (link_nm hr  hy _ H0.out.drew_).mono ?_; rintro e w2 ⟨rfl, h2, kk2⟩; have H2 := Lib.hid h2; have K2 := Lib.hid kk2; clear h2 kk2)
 refine wp_world (fun wx => DeqAt wx p a b R M (fun j => if j = r then (y : Int) else E0 j) E1 C W (fun j => if j = y then (-1) else B0 j) B1 U ∧ Kept (fun g => g = a ∨ g = b) w wx) ⟨H2.out, (Kept.refl _ _).drew_.trans K2.out⟩ ?_
 rintro wx ⟨h, hk⟩
 clear q0 q1 k1 k2 k3
 have q0 := h.p0
 have k1 := h.mw hi
 rw [HW.out] at k1
 have k2 := h.ct hr
 have z2 := h.za (r * 3 + 2)
 have z4 := h.zb (i * 4)
 have H1 := Lib.hid h
 clear h
 go_still_tail 14, (by kernel_rfl)
 go_wp2
 go_ret
 refine ⟨rfl, (H1.out.drew_.setC hr).setW hi, (hk.drew_.set_ (by simp) _).set_ (by simp) _⟩
set_option maxRecDepth 100000 in
set_option maxHeartbeats 1000000 in
theorem rem_mn {p a b R M : Nat} {E0 E1 C W B0 B1 U : Nat → Int} {r i : Nat} (hr : r < R) (hi : i < M) (hw : W i = (r : Int)) {x : Nat} (hx : x < M) (h0 : B0 i = (x : Int)) (h1 : B1 i = (-1)) (c0 : 0 < C r) (c1 : C r ≤ 1000000) (w : World) (h : DeqAt w p a b R M E0 E1 C W B0 B1 U) :
   Calls Tryz.prog 165 #[.pointer (some ⟨p, 0, none⟩), .int .i64 (i : Int)] w fun e w' => e = .returned (.int .i64 0) ∧ DeqAt w' p a b R M E0 (fun j => if j = r then (x : Int) else E1 j) (fun j => if j = r then C r - 1 else C j) (fun j => if j = i then (-1) else W j) B0 (fun j => if j = x then (-1) else B1 j) U ∧ Kept (fun g => g = a ∨ g = b) w w' := by
 have q0 := h.p0
 have q1 := h.p1
 have m0 := h.m0
 have n0 := h.r0
 have k1 := h.mw hi
 rw [hw] at k1
 have k2 := h.b0 hi
 rw [h0] at k2
 have k3 := h.b1 hi
 rw [h1] at k3
 have pa' := Ne.symm h.pa
 have pb' := Ne.symm h.pb
 have ab' := Ne.symm h.ab
 have pa := h.pa
 have pb := h.pb
 have ab := h.ab
 have hne : ((r : Int) == -1) = false := beq_eq_false_iff_ne.2 (by omega)
 have H0 := Lib.hid h
 have HW := Lib.hid hw
 clear h hw h0 h1
 go_enter Tryz.func165, Tryz.ntmps165
 go_upto_region 8 with (go_at_call 203; refine (hasmem_yes hi _ H0.out).mono ?_; rintro e w1 ⟨rfl, rfl⟩)
 go_still_tail 15, (by kernel_rfl)
 go_upto_region 9 with (go_at_call 204; refine (link_mn hr hx  _ H0.out.drew_).mono ?_; rintro e w2 ⟨rfl, h2, kk2⟩; have H2 := Lib.hid h2; have K2 := Lib.hid kk2; clear h2 kk2)
 refine wp_world (fun wx => DeqAt wx p a b R M E0 (fun j => if j = r then (x : Int) else E1 j) C W B0 (fun j => if j = x then (-1) else B1 j) U ∧ Kept (fun g => g = a ∨ g = b) w wx) ⟨H2.out, (Kept.refl _ _).drew_.trans K2.out⟩ ?_
 rintro wx ⟨h, hk⟩
 clear q0 q1 k1 k2 k3
 have q0 := h.p0
 have k1 := h.mw hi
 rw [HW.out] at k1
 have k2 := h.ct hr
 have z2 := h.za (r * 3 + 2)
 have z4 := h.zb (i * 4)
 have H1 := Lib.hid h
 clear h
 go_still_tail 14, (by kernel_rfl)
 go_wp2
 go_ret
 refine ⟨rfl, (H1.out.drew_.setC hr).setW hi, (hk.drew_.set_ (by simp) _).set_ (by simp) _⟩
set_option maxRecDepth 100000 in
set_option maxHeartbeats 1000000 in
theorem rem_mm {p a b R M : Nat} {E0 E1 C W B0 B1 U : Nat → Int} {r i : Nat} (hr : r < R) (hi : i < M) (hw : W i = (r : Int)) {x : Nat} (hx : x < M) {y : Nat} (hy : y < M) (h0 : B0 i = (x : Int)) (h1 : B1 i = (y : Int)) (c0 : 0 < C r) (c1 : C r ≤ 1000000) (w : World) (h : DeqAt w p a b R M E0 E1 C W B0 B1 U) :
   Calls Tryz.prog 165 #[.pointer (some ⟨p, 0, none⟩), .int .i64 (i : Int)] w fun e w' => e = .returned (.int .i64 0) ∧ DeqAt w' p a b R M E0 E1 (fun j => if j = r then C r - 1 else C j) (fun j => if j = i then (-1) else W j) (fun j => if j = y then (x : Int) else B0 j) (fun j => if j = x then (y : Int) else B1 j) U ∧ Kept (fun g => g = a ∨ g = b) w w' := by
 have q0 := h.p0
 have q1 := h.p1
 have m0 := h.m0
 have n0 := h.r0
 have k1 := h.mw hi
 rw [hw] at k1
 have k2 := h.b0 hi
 rw [h0] at k2
 have k3 := h.b1 hi
 rw [h1] at k3
 have pa' := Ne.symm h.pa
 have pb' := Ne.symm h.pb
 have ab' := Ne.symm h.ab
 have pa := h.pa
 have pb := h.pb
 have ab := h.ab
 have hne : ((r : Int) == -1) = false := beq_eq_false_iff_ne.2 (by omega)
 have H0 := Lib.hid h
 have HW := Lib.hid hw
 clear h hw h0 h1
 go_enter Tryz.func165, Tryz.ntmps165
 go_upto_region 8 with (go_at_call 203; refine (hasmem_yes hi _ H0.out).mono ?_; rintro e w1 ⟨rfl, rfl⟩)
 go_still_tail 15, (by kernel_rfl)
 go_upto_region 9 with (go_at_call 204; refine (link_mm hr hx hy _ H0.out.drew_).mono ?_; rintro e w2 ⟨rfl, h2, kk2⟩; have H2 := Lib.hid h2; have K2 := Lib.hid kk2; clear h2 kk2)
 refine wp_world (fun wx => DeqAt wx p a b R M E0 E1 C W (fun j => if j = y then (x : Int) else B0 j) (fun j => if j = x then (y : Int) else B1 j) U ∧ Kept (fun g => g = a ∨ g = b) w wx) ⟨H2.out, (Kept.refl _ _).drew_.trans K2.out⟩ ?_
 rintro wx ⟨h, hk⟩
 clear q0 q1 k1 k2 k3
 have q0 := h.p0
 have k1 := h.mw hi
 rw [HW.out] at k1
 have k2 := h.ct hr
 have z2 := h.za (r * 3 + 2)
 have z4 := h.zb (i * 4)
 have H1 := Lib.hid h
 clear h
 go_still_tail 14, (by kernel_rfl)
 go_wp2
 go_ret
 refine ⟨rfl, (H1.out.drew_.setC hr).setW hi, (hk.drew_.set_ (by simp) _).set_ (by simp) _⟩
end Go.Proofs.YtcffeokbipjaoaaGreat
