/- The rows' methods where there is no such row, no such member, or no rows. -/
import Derived.Test.YthkkkcdiidflpaaDeqd
namespace Go.Proofs.Ythkkkcdiidflpaa
open Go.RowKit
set_option linter.unusedVariables false
set_option maxRecDepth 100000
set_option maxHeartbeats 1000000 in
theorem hasrow_nil (r : Int) (w : World) :
    Calls Try.prog 57 #[.pointer none, .int .i64 r] w fun e w' => e = .returned (.bool false) ∧ w = w' := by
  go_enter Try.func57, Try.ntmps57
  go_wp2
  go_ret
  exact ⟨rfl, rfl⟩
set_option maxHeartbeats 1000000 in
theorem hasmem_nil (i : Int) (w : World) :
    Calls Try.prog 58 #[.pointer none, .int .i64 i] w fun e w' => e = .returned (.bool false) ∧ w = w' := by
  go_enter Try.func58, Try.ntmps58
  go_wp2
  go_ret
  exact ⟨rfl, rfl⟩
set_option maxHeartbeats 1000000 in
theorem dlen_nil (r : Int) (w : World) :
    Calls Try.prog 56 #[.pointer none, .int .i64 r] w fun e w' => e = .returned (.int .i64 0) ∧ w = w' := by
  go_enter Try.func56, Try.ntmps56
  go_wp2_with (go_at_call 57; refine (hasrow_nil r _).mono ?_; rintro e w1 ⟨rfl, rfl⟩)
  go_ret
  exact ⟨rfl, rfl⟩
set_option maxHeartbeats 1000000 in
theorem dat_nil (r s : Int) (w : World) :
    Calls Try.prog 68 #[.pointer none, .int .i64 r, .int .i64 s] w fun e w' => e = .returned (.tuple #[.int .i64 0, .bool false]) ∧ w = w' := by
  go_enter Try.func68, Try.ntmps68
  go_wp2_with (go_at_call 56; refine (dlen_nil r _).mono ?_; rintro e w1 ⟨rfl, rfl⟩)
  go_ret2
  exact ⟨rfl, rfl⟩
set_option maxHeartbeats 1000000 in
theorem dfront_nil (r : Int) (w : World) :
    Calls Try.prog 51 #[.pointer none, .int .i64 r] w fun e w' => e = .returned (.tuple #[.int .i64 0, .bool false]) ∧ w = w' := by
  go_enter Try.func51, Try.ntmps51
  go_wp2_with (go_at_call 68; refine (dat_nil r 0 _).mono ?_; rintro e w1 ⟨rfl, rfl⟩)
  go_ret2
  exact ⟨rfl, rfl⟩
set_option maxHeartbeats 1000000 in
theorem dback_nil (r : Int) (w : World) :
    Calls Try.prog 52 #[.pointer none, .int .i64 r] w fun e w' => e = .returned (.tuple #[.int .i64 0, .bool false]) ∧ w = w' := by
  go_enter Try.func52, Try.ntmps52
  go_wp2_with (go_at_call 68; refine (dat_nil r 1 _).mono ?_; rintro e w1 ⟨rfl, rfl⟩)
  go_ret2
  exact ⟨rfl, rfl⟩
set_option maxHeartbeats 1000000 in
theorem push_nil (r i : Int) (w : World) :
    Calls Try.prog 34 #[.pointer none, .int .i64 r, .int .i64 i] w fun e w' => e = .returned (.int .i64 3) ∧ w = w' := by
  go_enter Try.func34, Try.ntmps34
  go_wp2
  go_ret
  exact ⟨rfl, rfl⟩
set_option maxHeartbeats 1000000 in
theorem rem_nil (i : Int) (w : World) :
    Calls Try.prog 43 #[.pointer none, .int .i64 i] w fun e w' => e = .returned (.int .i64 3) ∧ w = w' := by
  go_enter Try.func43, Try.ntmps43
  go_wp2
  go_ret
  exact ⟨rfl, rfl⟩
section
variable {p a b R M : Nat} {E0 E1 C W B0 B1 U : Nat → Int}
set_option maxHeartbeats 1000000 in
theorem dlen_out {r : Int} (hr : r < 0 ∨ (R : Int) ≤ r) (w : World) (h : DeqAt w p a b R M E0 E1 C W B0 B1 U) :
    Calls Try.prog 56 #[.pointer (some ⟨p, 0, none⟩), .int .i64 r] w fun e w' => e = .returned (.int .i64 0) ∧ w = w' := by
  have H0 := Lib.hid h
  clear h
  go_enter Try.func56, Try.ntmps56
  go_wp2_with (go_at_call 57; refine (hasrow_no _ H0.out hr).mono ?_; rintro e w1 ⟨rfl, rfl⟩)
  go_ret
  exact ⟨rfl, rfl⟩
set_option maxHeartbeats 1000000 in
theorem dat_out {r : Int} (hr : r < 0 ∨ (R : Int) ≤ r) (s : Int) (w : World) (h : DeqAt w p a b R M E0 E1 C W B0 B1 U) :
    Calls Try.prog 68 #[.pointer (some ⟨p, 0, none⟩), .int .i64 r, .int .i64 s] w fun e w' => e = .returned (.tuple #[.int .i64 0, .bool false]) ∧ w = w' := by
  have H0 := Lib.hid h
  clear h
  go_enter Try.func68, Try.ntmps68
  go_wp2_with (go_at_call 56; refine (dlen_out hr _ H0.out).mono ?_; rintro e w1 ⟨rfl, rfl⟩)
  go_ret2
  exact ⟨rfl, rfl⟩
set_option maxHeartbeats 1000000 in
theorem dfront_out {r : Int} (hr : r < 0 ∨ (R : Int) ≤ r) (w : World) (h : DeqAt w p a b R M E0 E1 C W B0 B1 U) :
    Calls Try.prog 51 #[.pointer (some ⟨p, 0, none⟩), .int .i64 r] w fun e w' => e = .returned (.tuple #[.int .i64 0, .bool false]) ∧ w = w' := by
  have H0 := Lib.hid h
  clear h
  go_enter Try.func51, Try.ntmps51
  go_wp2_with (go_at_call 68; refine (dat_out hr 0 _ H0.out).mono ?_; rintro e w1 ⟨rfl, rfl⟩)
  go_ret2
  exact ⟨rfl, rfl⟩
set_option maxHeartbeats 1000000 in
theorem dback_out {r : Int} (hr : r < 0 ∨ (R : Int) ≤ r) (w : World) (h : DeqAt w p a b R M E0 E1 C W B0 B1 U) :
    Calls Try.prog 52 #[.pointer (some ⟨p, 0, none⟩), .int .i64 r] w fun e w' => e = .returned (.tuple #[.int .i64 0, .bool false]) ∧ w = w' := by
  have H0 := Lib.hid h
  clear h
  go_enter Try.func52, Try.ntmps52
  go_wp2_with (go_at_call 68; refine (dat_out hr 1 _ H0.out).mono ?_; rintro e w1 ⟨rfl, rfl⟩)
  go_ret2
  exact ⟨rfl, rfl⟩
set_option maxHeartbeats 1000000 in
theorem dfront_empty {r : Nat} (hr : r < R) (hc : C r = 0) (w : World) (h : DeqAt w p a b R M E0 E1 C W B0 B1 U) :
    Calls Try.prog 51 #[.pointer (some ⟨p, 0, none⟩), .int .i64 (r : Int)] w fun e w' => e = .returned (.tuple #[.int .i64 0, .bool false]) ∧ w = w' := by
  have H0 := Lib.hid h
  clear h
  go_enter Try.func51, Try.ntmps51
  go_wp2_with (go_at_call 68; refine (dat_none hr hc 0 _ H0.out).mono ?_; rintro e w1 ⟨rfl, rfl⟩)
  go_ret2
  exact ⟨rfl, rfl⟩
set_option maxHeartbeats 1000000 in
theorem dback_empty {r : Nat} (hr : r < R) (hc : C r = 0) (w : World) (h : DeqAt w p a b R M E0 E1 C W B0 B1 U) :
    Calls Try.prog 52 #[.pointer (some ⟨p, 0, none⟩), .int .i64 (r : Int)] w fun e w' => e = .returned (.tuple #[.int .i64 0, .bool false]) ∧ w = w' := by
  have H0 := Lib.hid h
  clear h
  go_enter Try.func52, Try.ntmps52
  go_wp2_with (go_at_call 68; refine (dat_none hr hc 1 _ H0.out).mono ?_; rintro e w1 ⟨rfl, rfl⟩)
  go_ret2
  exact ⟨rfl, rfl⟩
set_option maxHeartbeats 1000000 in
theorem push_outr {r i : Int} (hr : r < 0 ∨ (R : Int) ≤ r) (w : World) (h : DeqAt w p a b R M E0 E1 C W B0 B1 U) :
    Calls Try.prog 34 #[.pointer (some ⟨p, 0, none⟩), .int .i64 r, .int .i64 i] w fun e w' => e = .returned (.int .i64 1) ∧ w = w' := by
  have H0 := Lib.hid h
  clear h
  go_enter Try.func34, Try.ntmps34
  go_wp2_with (go_at_call 57; refine (hasrow_no _ H0.out hr).mono ?_; rintro e w1 ⟨rfl, rfl⟩)
  go_ret
  exact ⟨rfl, rfl⟩
set_option maxHeartbeats 1000000 in
theorem push_outm {r : Nat} {i : Int} (hr : r < R) (hi : i < 0 ∨ (M : Int) ≤ i) (w : World) (h : DeqAt w p a b R M E0 E1 C W B0 B1 U) :
    Calls Try.prog 34 #[.pointer (some ⟨p, 0, none⟩), .int .i64 (r : Int), .int .i64 i] w fun e w' => e = .returned (.int .i64 1) ∧ w = w' := by
  have H0 := Lib.hid h
  clear h
  go_enter Try.func34, Try.ntmps34
  go_wp2_with (first
    | (go_at_call 57; refine (hasrow_yes hr _ H0.out).mono ?_; rintro e w1 ⟨rfl, rfl⟩)
    | (go_at_call 58; refine (hasmem_no _ H0.out hi).mono ?_; rintro e w1 ⟨rfl, rfl⟩))
  go_ret
  exact ⟨rfl, rfl⟩
set_option maxHeartbeats 1000000 in
theorem rem_out {i : Int} (hi : i < 0 ∨ (M : Int) ≤ i) (w : World) (h : DeqAt w p a b R M E0 E1 C W B0 B1 U) :
    Calls Try.prog 43 #[.pointer (some ⟨p, 0, none⟩), .int .i64 i] w fun e w' => e = .returned (.int .i64 1) ∧ w = w' := by
  have H0 := Lib.hid h
  clear h
  go_enter Try.func43, Try.ntmps43
  go_wp2_with (go_at_call 58; refine (hasmem_no _ H0.out hi).mono ?_; rintro e w1 ⟨rfl, rfl⟩)
  go_ret
  exact ⟨rfl, rfl⟩
set_option maxHeartbeats 1000000 in
theorem rem_none {i : Nat} (hi : i < M) (hw : W i = -1) (w : World) (h : DeqAt w p a b R M E0 E1 C W B0 B1 U) :
    Calls Try.prog 43 #[.pointer (some ⟨p, 0, none⟩), .int .i64 (i : Int)] w fun e w' => e = .returned (.int .i64 3) ∧ w = w' := by
  have q1 := h.p1
  have m0 := h.m0
  have k0 := h.mw hi
  rw [hw] at k0
  have H0 := Lib.hid h
  clear h
  go_enter Try.func43, Try.ntmps43
  go_wp2_with (go_at_call 58; refine (hasmem_yes hi _ H0.out).mono ?_; rintro e w1 ⟨rfl, rfl⟩)
  go_ret
  exact ⟨rfl, rfl⟩
end
end Go.Proofs.Ythkkkcdiidflpaa
