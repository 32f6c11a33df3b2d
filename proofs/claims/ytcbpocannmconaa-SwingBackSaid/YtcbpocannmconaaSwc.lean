/- Package swing: a point made, the greatest distance; the document's points. -/
import Derived.Test.YtcbpocannmconaaSwb
import Derived.WalkLawsBesides
import Derived.Laws.Cover2
namespace Go.Proofs.Ytcbpocannmconaa
open Go.RowKit
set_option linter.unusedVariables false
set_option linter.unusedSimpArgs false
def clampZ (x : Int) : Int := if x < -1048576 then -1048576 else if 1048576 < x then 1048576 else x
theorem clampZ_in (x : Int) : -1048576 ≤ clampZ x ∧ clampZ x ≤ 1048576 := by unfold clampZ; split <;> (try split) <;> omega
theorem clampZ_abs (x : Int) : (clampZ x).natAbs ≤ 1048576 := by have := clampZ_in x; omega
theorem clampZ_fl (x : Int) : Fl (floatOfInt .f64 (clampZ x)) (clampZ x) := Fl.int (by have := clampZ_abs x; have : (2 : Nat) ^ 53 = 9007199254740992 := rfl; omega)
/-- The word of a part. -/
def wd (x : Int) : Nat := floatOfInt .f64 (clampZ x)
theorem wd_fl (x : Int) : Fl (wd x) (clampZ x) := clampZ_fl x
theorem clampc_any (x : Int) (w : World) : Calls Try.prog 31 #[.int .i64 x, .int .i64 (-1048576), .int .i64 1048576] w fun e w' => e = .returned (.int .i64 (clampZ x)) ∧ w = w' := by
  go_enter Try.func31, Try.ntmps31
  go_wp2
  all_goals (go_ret; exact ⟨ret_int (by unfold clampZ; split <;> (try split) <;> omega), rfl⟩)
theorem part_any (x : Int) (w : World) : Calls Try.prog 23 #[.int .i64 x] w fun e w' => e = .returned (.float .f64 (wd x)) ∧ w = w' := by
  have hcv : ∀ W, (convert 2 33 (.int .i64 (clampZ x))).run Try.prog W = .ok (.float .f64 (wd x)) W := fun W => run_convert_int_float W _ _ _ _ _ (by rw [Try.underlying2]; rfl) Try.underlying33
  go_enter Try.func23, Try.ntmps23
  go_wp2_with (go_at_call 31; refine (clampc_any _ _).mono ?_; rintro e w1 ⟨rfl, rfl⟩)
  go_ret
  exact ⟨rfl, rfl⟩
theorem at_any (x y : Int) (w : World) : Calls Try.prog 9 #[.int .i64 x, .int .i64 y] w fun e w' => e = .returned (.complex .f64 (wd x) (wd y)) ∧ w = w' := by
  go_enter Try.func9, Try.ntmps9
  go_wp2_with (go_at_call 23; refine (part_any _ _).mono ?_; rintro e w1 ⟨rfl, rfl⟩)
  go_ret
  exact ⟨rfl, rfl⟩
theorem rclampc_any (x : Int) (w : World) : Calls Try.prog 24 #[.int .i64 x] w fun e w' => e = .returned (.int .i64 (clampZ x)) ∧ w = w' := by
  go_enter Try.func24, Try.ntmps24
  go_wp2
  all_goals (go_ret; exact ⟨ret_int (by unfold clampZ; split <;> (try split) <;> omega), rfl⟩)
theorem rpoint_any (x y : Int) (w : World) : Calls Try.prog 10 #[.int .i64 x, .int .i64 y] w fun e w' => e = .returned (.agg #[.int .i64 (clampZ x), .int .i64 (clampZ y)]) ∧ Below w.heap.size w w' := by
  go_enter Try.func10, Try.ntmps10
  go_wp2_with (go_at_call 24; refine (rclampc_any _ _).mono ?_; rintro e w1 ⟨rfl, rfl⟩)
  refine bodyPost_ret (v := .agg #[.int .i64 (clampZ x), .int .i64 (clampZ y)]) (by simp [results, Try.results10, go_sem, *]) rfl ⟨rfl, ?_⟩
  first | exact (Below.refl _ _).alloc (Nat.le_refl _) _ | exact (((Below.refl _ _).alloc (Nat.le_refl _) _).setCell (by simp) _).setCell (by simp) _
def farS (a b : Nat → Int) (p q : Int) : Nat → Int
  | 0 => 0
  | k + 1 => max (farS a b p q k) ((a k - p) * (a k - p) + (b k - q) * (b k - q))
section
variable {A : Option Addr} {len cap B : Nat} {a b : Nat → Int} {w : World}
set_option maxHeartbeats 2000000 in
theorem far_any {xp yp : Nat} {p q : Int} (hp : Pts w B A len a b) (hB : B ≤ w.heap.size) (h5 : Fl xp p) (h6 : Fl yp q) (g5 : p.natAbs ≤ 1048576) (g6 : q.natAbs ≤ 1048576) (hl : len ≤ 1000) :
    Calls Try.prog 13 #[.slice A len cap, .complex .f64 xp yp] w fun e w' => e = .returned (.int .i64 (farS a b p q len)) ∧ w = w' := by
  have HP := Lib.hid hp
  have H5 := Lib.hid h5
  have H6 := Lib.hid h6
  clear hp h5 h6
  go_enter Try.func13, Try.ntmps13
  go_wp2_with fail
  go_loopw [5, 10] (fun s5 s10 wr => ∃ k : Nat, k ≤ len ∧ s10 = .int .i64 k ∧ s5 = .int .i64 (farS a b p q k) ∧ w = wr) (fun _ i _ => len - (intOf i).toNat)
  case atStart => exact ⟨0, Nat.zero_le _, rfl, rfl, rfl⟩
  case round =>
    obtain ⟨k, hk, rfl, rfl, rfl⟩ := hrel
    by_cases hlt : k < len
    · obtain ⟨kb, ko, X, Y, rfl, hkb, hc⟩ := HP.out (by omega)
      obtain ⟨q0, f0, f1, g0, g1⟩ := hc k hlt
      obtain ⟨_, r1, i1, e1, fr1, fi1⟩ := csum f0 f1 H5.out H6.out (by omega) (by omega) (by omega) (by omega)
      have k1 : ∀ W, (binOp .sub 28 (.complex .f64 (X k) (Y k)) (.complex .f64 xp yp)).run Try.prog W = .ok (.complex .f64 r1 i1) W := fun W => run_complex_sum W _ (.inr rfl) _ _ _ _ _ _ _ _ e1
      have KC := Lib.hid (fun W => square_any fr1 fi1 (by omega) (by omega) W)
      have hr : kb < w.heap.size := by omega
      clear hc f0 f1 g0 g1 fr1 fi1 e1
      go_wp2_with (go_at_call 28; refine (KC.out _).mono ?_; rintro e w1 ⟨rfl, rfl⟩)
      go_roundw
      case rel => exact ⟨k + 1, by omega, by go_num, congrArg (Value.int IntKind.i64) (by simp only [farS]; omega), trivial⟩
      case measure => simp [intOf]; omega
    · obtain rfl : k = len := by omega
      go_wp2_with fail
      go_ret
      exact ⟨rfl, rfl⟩
end
end Go.Proofs.Ytcbpocannmconaa
