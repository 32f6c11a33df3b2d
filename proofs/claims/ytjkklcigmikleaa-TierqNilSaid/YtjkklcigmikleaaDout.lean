/- The rows' methods where there is no such row, no such member, or no rows. -/
import Derived.Test.YtjkklcigmikleaaDeqd
namespace Go.Proofs.Ytjkklcigmikleaa
open Go.RowKit
set_option linter.unusedVariables false
set_option maxRecDepth 100000
set_option maxHeartbeats 1000000 in
theorem hasrow_nil (r : Int) (w : World) :
    Calls Try.prog 54 #[.pointer none, .int .i64 r] w fun e w' => e = .returned (.bool false) ∧ w = w' := by
  go_enter Try.func54, Try.ntmps54
  go_wp2
  go_ret
  exact ⟨rfl, rfl⟩
set_option maxHeartbeats 1000000 in
theorem hasmem_nil (i : Int) (w : World) :
    Calls Try.prog 55 #[.pointer none, .int .i64 i] w fun e w' => e = .returned (.bool false) ∧ w = w' := by
  go_enter Try.func55, Try.ntmps55
  go_wp2
  go_ret
  exact ⟨rfl, rfl⟩
set_option maxHeartbeats 1000000 in
theorem dlen_nil (r : Int) (w : World) :
    Calls Try.prog 52 #[.pointer none, .int .i64 r] w fun e w' => e = .returned (.int .i64 0) ∧ w = w' := by
  go_enter Try.func52, Try.ntmps52
  go_wp2_with (go_at_call 54; refine (hasrow_nil r _).mono ?_; rintro e w1 ⟨rfl, rfl⟩)
  go_ret
  exact ⟨rfl, rfl⟩
set_option maxHeartbeats 1000000 in
theorem dat_nil (r s : Int) (w : World) :
    Calls Try.prog 65 #[.pointer none, .int .i64 r, .int .i64 s] w fun e w' => e = .returned (.tuple #[.int .i64 0, .bool false]) ∧ w = w' := by
  go_enter Try.func65, Try.ntmps65
  go_wp2_with (go_at_call 52; refine (dlen_nil r _).mono ?_; rintro e w1 ⟨rfl, rfl⟩)
  go_ret2
  exact ⟨rfl, rfl⟩
set_option maxHeartbeats 1000000 in
theorem dfront_nil (r : Int) (w : World) :
    Calls Try.prog 47 #[.pointer none, .int .i64 r] w fun e w' => e = .returned (.tuple #[.int .i64 0, .bool false]) ∧ w = w' := by
  go_enter Try.func47, Try.ntmps47
  go_wp2_with (go_at_call 65; refine (dat_nil r 0 _).mono ?_; rintro e w1 ⟨rfl, rfl⟩)
  go_ret2
  exact ⟨rfl, rfl⟩
set_option maxHeartbeats 1000000 in
theorem dback_nil (r : Int) (w : World) :
    Calls Try.prog 48 #[.pointer none, .int .i64 r] w fun e w' => e = .returned (.tuple #[.int .i64 0, .bool false]) ∧ w = w' := by
  go_enter Try.func48, Try.ntmps48
  go_wp2_with (go_at_call 65; refine (dat_nil r 1 _).mono ?_; rintro e w1 ⟨rfl, rfl⟩)
  go_ret2
  exact ⟨rfl, rfl⟩
set_option maxHeartbeats 1000000 in
theorem push_nil (r i : Int) (w : World) :
    Calls Try.prog 31 #[.pointer none, .int .i64 r, .int .i64 i] w fun e w' => e = .returned (.int .i64 3) ∧ w = w' := by
  go_enter Try.func31, Try.ntmps31
  go_wp2
  go_ret
  exact ⟨rfl, rfl⟩
set_option maxHeartbeats 1000000 in
theorem rem_nil (i : Int) (w : World) :
    Calls Try.prog 40 #[.pointer none, .int .i64 i] w fun e w' => e = .returned (.int .i64 3) ∧ w = w' := by
  go_enter Try.func40, Try.ntmps40
  go_wp2
  go_ret
  exact ⟨rfl, rfl⟩
section
variable {p a b R M : Nat} {E0 E1 C W B0 B1 U : Nat → Int}
set_option maxHeartbeats 1000000 in
theorem dlen_out {r : Int} (hr : r < 0 ∨ (R : Int) ≤ r) (w : World) (h : DeqAt w p a b R M E0 E1 C W B0 B1 U) :
    Calls Try.prog 52 #[.pointer (some ⟨p, 0, none⟩), .int .i64 r] w fun e w' => e = .returned (.int .i64 0) ∧ w = w' := by
  have H0 := Lib.hid h
  clear h
  go_enter Try.func52, Try.ntmps52
  go_wp2_with (go_at_call 54; refine (hasrow_no _ H0.out hr).mono ?_; rintro e w1 ⟨rfl, rfl⟩)
  go_ret
  exact ⟨rfl, rfl⟩
set_option maxHeartbeats 1000000 in
theorem dat_out {r : Int} (hr : r < 0 ∨ (R : Int) ≤ r) (s : Int) (w : World) (h : DeqAt w p a b R M E0 E1 C W B0 B1 U) :
    Calls Try.prog 65 #[.pointer (some ⟨p, 0, none⟩), .int .i64 r, .int .i64 s] w fun e w' => e = .returned (.tuple #[.int .i64 0, .bool false]) ∧ w = w' := by
  have H0 := Lib.hid h
  clear h
  go_enter Try.func65, Try.ntmps65
  go_wp2_with (go_at_call 52; refine (dlen_out hr _ H0.out).mono ?_; rintro e w1 ⟨rfl, rfl⟩)
  go_ret2
  exact ⟨rfl, rfl⟩
set_option maxHeartbeats 1000000 in
theorem dfront_out {r : Int} (hr : r < 0 ∨ (R : Int) ≤ r) (w : World) (h : DeqAt w p a b R M E0 E1 C W B0 B1 U) :
    Calls Try.prog 47 #[.pointer (some ⟨p, 0, none⟩), .int .i64 r] w fun e w' => e = .returned (.tuple #[.int .i64 0, .bool false]) ∧ w = w' := by
  have H0 := Lib.hid h
  clear h
  go_enter Try.func47, Try.ntmps47
  go_wp2_with (go_at_call 65; refine (dat_out hr 0 _ H0.out).mono ?_; rintro e w1 ⟨rfl, rfl⟩)
  go_ret2
  exact ⟨rfl, rfl⟩
set_option maxHeartbeats 1000000 in
theorem dback_out {r : Int} (hr : r < 0 ∨ (R : Int) ≤ r) (w : World) (h : DeqAt w p a b R M E0 E1 C W B0 B1 U) :
    Calls Try.prog 48 #[.pointer (some ⟨p, 0, none⟩), .int .i64 r] w fun e w' => e = .returned (.tuple #[.int .i64 0, .bool false]) ∧ w = w' := by
  have H0 := Lib.hid h
  clear h
  go_enter Try.func48, Try.ntmps48
  go_wp2_with (go_at_call 65; refine (dat_out hr 1 _ H0.out).mono ?_; rintro e w1 ⟨rfl, rfl⟩)
  go_ret2
  exact ⟨rfl, rfl⟩
set_option maxHeartbeats 1000000 in
theorem dfront_empty {r : Nat} (hr : r < R) (hc : C r = 0) (w : World) (h : DeqAt w p a b R M E0 E1 C W B0 B1 U) :
    Calls Try.prog 47 #[.pointer (some ⟨p, 0, none⟩), .int .i64 (r : Int)] w fun e w' => e = .returned (.tuple #[.int .i64 0, .bool false]) ∧ w = w' := by
  have H0 := Lib.hid h
  clear h
  go_enter Try.func47, Try.ntmps47
  go_wp2_with (go_at_call 65; refine (dat_none hr hc 0 _ H0.out).mono ?_; rintro e w1 ⟨rfl, rfl⟩)
  go_ret2
  exact ⟨rfl, rfl⟩
set_option maxHeartbeats 1000000 in
theorem dback_empty {r : Nat} (hr : r < R) (hc : C r = 0) (w : World) (h : DeqAt w p a b R M E0 E1 C W B0 B1 U) :
    Calls Try.prog 48 #[.pointer (some ⟨p, 0, none⟩), .int .i64 (r : Int)] w fun e w' => e = .returned (.tuple #[.int .i64 0, .bool false]) ∧ w = w' := by
  have H0 := Lib.hid h
  clear h
  go_enter Try.func48, Try.ntmps48
  go_wp2_with (go_at_call 65; refine (dat_none hr hc 1 _ H0.out).mono ?_; rintro e w1 ⟨rfl, rfl⟩)
  go_ret2
  exact ⟨rfl, rfl⟩
set_option maxHeartbeats 1000000 in
theorem push_outr {r i : Int} (hr : r < 0 ∨ (R : Int) ≤ r) (w : World) (h : DeqAt w p a b R M E0 E1 C W B0 B1 U) :
    Calls Try.prog 31 #[.pointer (some ⟨p, 0, none⟩), .int .i64 r, .int .i64 i] w fun e w' => e = .returned (.int .i64 1) ∧ w = w' := by
  have H0 := Lib.hid h
  clear h
  go_enter Try.func31, Try.ntmps31
  go_wp2_with (go_at_call 54; refine (hasrow_no _ H0.out hr).mono ?_; rintro e w1 ⟨rfl, rfl⟩)
  go_ret
  exact ⟨rfl, rfl⟩
set_option maxHeartbeats 1000000 in
theorem push_outm {r : Nat} {i : Int} (hr : r < R) (hi : i < 0 ∨ (M : Int) ≤ i) (w : World) (h : DeqAt w p a b R M E0 E1 C W B0 B1 U) :
    Calls Try.prog 31 #[.pointer (some ⟨p, 0, none⟩), .int .i64 (r : Int), .int .i64 i] w fun e w' => e = .returned (.int .i64 1) ∧ w = w' := by
  have H0 := Lib.hid h
  clear h
  go_enter Try.func31, Try.ntmps31
  go_wp2_with (first
    | (go_at_call 54; refine (hasrow_yes hr _ H0.out).mono ?_; rintro e w1 ⟨rfl, rfl⟩)
    | (go_at_call 55; refine (hasmem_no _ H0.out hi).mono ?_; rintro e w1 ⟨rfl, rfl⟩))
  go_ret
  exact ⟨rfl, rfl⟩
set_option maxHeartbeats 1000000 in
theorem rem_out {i : Int} (hi : i < 0 ∨ (M : Int) ≤ i) (w : World) (h : DeqAt w p a b R M E0 E1 C W B0 B1 U) :
    Calls Try.prog 40 #[.pointer (some ⟨p, 0, none⟩), .int .i64 i] w fun e w' => e = .returned (.int .i64 1) ∧ w = w' := by
  have H0 := Lib.hid h
  clear h
  go_enter Try.func40, Try.ntmps40
  go_wp2_with (go_at_call 55; refine (hasmem_no _ H0.out hi).mono ?_; rintro e w1 ⟨rfl, rfl⟩)
  go_ret
  exact ⟨rfl, rfl⟩
set_option maxHeartbeats 1000000 in
theorem rem_none {i : Nat} (hi : i < M) (hw : W i = -1) (w : World) (h : DeqAt w p a b R M E0 E1 C W B0 B1 U) :
    Calls Try.prog 40 #[.pointer (some ⟨p, 0, none⟩), .int .i64 (i : Int)] w fun e w' => e = .returned (.int .i64 3) ∧ w = w' := by
  have q1 := h.p1
  have m0 := h.m0
  have k0 := h.mw hi
  rw [hw] at k0
  have H0 := Lib.hid h
  clear h
  go_enter Try.func40, Try.ntmps40
  go_wp2_with (go_at_call 55; refine (hasmem_yes hi _ H0.out).mono ?_; rintro e w1 ⟨rfl, rfl⟩)
  go_ret
  exact ⟨rfl, rfl⟩
end
end Go.Proofs.Ytjkklcigmikleaa
