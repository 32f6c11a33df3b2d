/- GateFalls is true of every input, and changes nothing that it was given. -/
import Derived.Test.YtgocnliapkokbaaDoorGlaid
import Derived.Test.YtgocnliapkokbaaDoorRowb
import Derived.Test.YtgocnliapkokbaaDoorRows
import Derived.WalkKit
import Derived.ProofKit
import Derived.OpenShut
import Derived.Deep.DeepCutAuto
import Derived.Deep.RegionHeld3
import Derived.Test.YtgocnliapkokbaaDoorTie
import Derived.Test.YtgocnliapkokbaaDoorCards
import Derived.LaidMore
import Derived.Lay
import Derived.SevenTiedAt
import Derived.Stop.Joined
namespace Go.Proofs.YtgocnliapkokbaaDoor.gateFalls
open Go.ChangeShapes Go.WideShapes Go.ChangeAt Go.RowKit
set_option linter.unusedVariables false
theorem own : ownKnob Tryd.prog.godebug = none := by kernel_rfl
theorem laidOut : laidOutB Tryd.prog = true := by kernel_rfl
theorem reads : (Tryd.f4.params.toList.all fun t => Tryd.prog.readableRec t && decide (t < Tryd.prog.types.size)) = true := by kernel_rfl
open Kn
set_option linter.unusedSimpArgs false
set_option maxRecDepth 100000 in
set_option maxHeartbeats 4000000 in
theorem walk (t l s now ti co ot mo d : Int) (w : World) (hN : NamesAt w) (t0 : 0 ≤ t) (t1 : t ≤ 255) (l0 : -9223372036854775808 ≤ l) (l1 : l ≤ 9223372036854775807) (s0 : -9223372036854775808 ≤ s) (s1 : s ≤ 9223372036854775807) (now0 : -9223372036854775808 ≤ now) (now1 : now ≤ 9223372036854775807) (ti0 : 0 ≤ ti) (ti1 : ti ≤ 255) (co0 : 0 ≤ co) (co1 : co ≤ 255) (ot0 : 0 ≤ ot) (ot1 : ot ≤ 255) (mo0 : 0 ≤ mo) (mo1 : mo ≤ 255) (d0 : -9223372036854775808 ≤ d) (d1 : d ≤ 9223372036854775807) :
    Calls Tryd.prog 4 #[.int .u8 t, .int .i64 l, .int .i64 s, .int .i64 now, .int .u8 ti, .int .u8 co, .int .u8 ot, .int .u8 mo, .int .i64 d] w fun e w' => e = .returned (.bool true) ∧ Below w.heap.size w w' := by
  have HN := Lib.hid hN
  clear hN
  obtain ⟨n, hn⟩ : ∃ n : Int, 1 + t % 8 = n := ⟨_, rfl⟩
  have n0 : 1 ≤ n := by omega
  have n1 : n ≤ 8 := by omega
  have hfw := fun wq => few_n t n 1000 (by omega) hn wq
  have HFW := Lib.hid hfw
  clear hfw hn
  have g7 : ¬ n = 0 := by omega
  obtain ⟨q, hq⟩ : ∃ q, decide (l < s) = q := ⟨_, rfl⟩
  go_enter Tryd.func4, Tryd.ntmps4
  go_wp2_with fail
  refine (awake14 _ HN.out).mono ?_
  rintro e x1 ⟨rfl, hb⟩
  have bx : Bxs w x1 [] := (Bxs.nil_ w).below hb
  clear hb
  have BX := Lib.hid bx
  clear bx
  go_wp2_with fail
  refine (HFW.out _).mono ?_
  rintro e x2 ⟨rfl, hb⟩
  have bx : Bxs w x2 [] := (BX.out).below hb
  clear hb BX
  have BX := Lib.hid bx
  clear bx
  go_upto_region 4 with fail
  refine wp_worldx (fun wx => Bxs w wx [(x2.heap.size, 25, [.int .i64 n, .int .i64 64, .int .i64 5, .int .i64 100, .int .i64 50, .int .i64 10, .int .i64 20, .int .i64 1000, .int .i64 2147483648, .int .i64 4294967296, .int .i64 1073741824, .int .i64 0, .int .i64 1099511627776, .int .i64 64, .int .i64 4, .int .i64 4])]) ((BX.out).alloc_ _ _ (by simp)) ?_
  clear BX
  rintro x3 bx
  have BX := Lib.hid bx
  clear bx
  have p0_0 : x3.cell? ⟨x2.heap.size, 0, none⟩ = some (.int .i64 n) := (BX.out.bl 0 _ _ _ rfl).val rfl
  have p0_1 : x3.cell? ⟨x2.heap.size, 1, none⟩ = some (.int .i64 64) := (BX.out.bl 0 _ _ _ rfl).val rfl
  have p0_2 : x3.cell? ⟨x2.heap.size, 2, none⟩ = some (.int .i64 5) := (BX.out.bl 0 _ _ _ rfl).val rfl
  have p0_3 : x3.cell? ⟨x2.heap.size, 3, none⟩ = some (.int .i64 100) := (BX.out.bl 0 _ _ _ rfl).val rfl
  have p0_4 : x3.cell? ⟨x2.heap.size, 4, none⟩ = some (.int .i64 50) := (BX.out.bl 0 _ _ _ rfl).val rfl
  have p0_5 : x3.cell? ⟨x2.heap.size, 5, none⟩ = some (.int .i64 10) := (BX.out.bl 0 _ _ _ rfl).val rfl
  have p0_6 : x3.cell? ⟨x2.heap.size, 6, none⟩ = some (.int .i64 20) := (BX.out.bl 0 _ _ _ rfl).val rfl
  have p0_7 : x3.cell? ⟨x2.heap.size, 7, none⟩ = some (.int .i64 1000) := (BX.out.bl 0 _ _ _ rfl).val rfl
  have p0_8 : x3.cell? ⟨x2.heap.size, 8, none⟩ = some (.int .i64 2147483648) := (BX.out.bl 0 _ _ _ rfl).val rfl
  have p0_9 : x3.cell? ⟨x2.heap.size, 9, none⟩ = some (.int .i64 4294967296) := (BX.out.bl 0 _ _ _ rfl).val rfl
  have p0_10 : x3.cell? ⟨x2.heap.size, 10, none⟩ = some (.int .i64 1073741824) := (BX.out.bl 0 _ _ _ rfl).val rfl
  have p0_11 : x3.cell? ⟨x2.heap.size, 11, none⟩ = some (.int .i64 0) := (BX.out.bl 0 _ _ _ rfl).val rfl
  have p0_12 : x3.cell? ⟨x2.heap.size, 12, none⟩ = some (.int .i64 1099511627776) := (BX.out.bl 0 _ _ _ rfl).val rfl
  have p0_13 : x3.cell? ⟨x2.heap.size, 13, none⟩ = some (.int .i64 64) := (BX.out.bl 0 _ _ _ rfl).val rfl
  have p0_14 : x3.cell? ⟨x2.heap.size, 14, none⟩ = some (.int .i64 4) := (BX.out.bl 0 _ _ _ rfl).val rfl
  have p0_15 : x3.cell? ⟨x2.heap.size, 15, none⟩ = some (.int .i64 4) := (BX.out.bl 0 _ _ _ rfl).val rfl
  have z0 : ∀ k, x3.frozen? ⟨x2.heap.size, k, none⟩ = false := (BX.out.bl 0 _ _ _ rfl).free
  have y0 : x2.heap.size < x3.heap.size := (BX.out.bl 0 _ _ _ rfl).size
  have HQ := Lib.hid hq
  go_upto_if 32 with fail
  go_cut [1, 2] from 33 to 127 (fun s1 s2 wx => ∃ L S : Int, s1 = .int .i64 L ∧ s2 = .int .i64 S ∧ S ≤ L ∧ -9223372036854775808 ≤ S ∧ L ≤ 9223372036854775807 ∧ Bxs w wx [(x2.heap.size, 25, [.int .i64 n, .int .i64 64, .int .i64 5, .int .i64 100, .int .i64 50, .int .i64 10, .int .i64 20, .int .i64 1000, .int .i64 2147483648, .int .i64 4294967296, .int .i64 1073741824, .int .i64 0, .int .i64 1099511627776, .int .i64 64, .int .i64 4, .int .i64 4])])
  case first =>
    cases q with
    | true => have hls := of_decide_eq_true HQ.out; go_wp2_with fail; go_meet; exact ⟨s, l, rfl, rfl, by omega, by omega, by omega, BX.out⟩
    | false => have hls := of_decide_eq_false HQ.out; go_wp2_with fail; go_meet; exact ⟨l, s, rfl, rfl, by omega, by omega, by omega, BX.out⟩
  case rest =>
    clear p0_0 p0_1 p0_2 p0_3 p0_4 p0_5 p0_6 p0_7 p0_8 p0_9 p0_10 p0_11 p0_12 p0_13 p0_14 p0_15 z0 y0
    clear BX HQ hq
    obtain ⟨L, S, rfl, rfl, hSL, hS0, hL1, bx⟩ := hcut
    obtain ⟨wd, rfl⟩ : ∃ wd, wd = wc := ⟨_, rfl⟩
    have BX := Lib.hid bx
    clear bx
    have p0_0 : wd.cell? ⟨x2.heap.size, 0, none⟩ = some (.int .i64 n) := (BX.out.bl 0 _ _ _ rfl).val rfl
    have p0_1 : wd.cell? ⟨x2.heap.size, 1, none⟩ = some (.int .i64 64) := (BX.out.bl 0 _ _ _ rfl).val rfl
    have p0_2 : wd.cell? ⟨x2.heap.size, 2, none⟩ = some (.int .i64 5) := (BX.out.bl 0 _ _ _ rfl).val rfl
    have p0_3 : wd.cell? ⟨x2.heap.size, 3, none⟩ = some (.int .i64 100) := (BX.out.bl 0 _ _ _ rfl).val rfl
    have p0_4 : wd.cell? ⟨x2.heap.size, 4, none⟩ = some (.int .i64 50) := (BX.out.bl 0 _ _ _ rfl).val rfl
    have p0_5 : wd.cell? ⟨x2.heap.size, 5, none⟩ = some (.int .i64 10) := (BX.out.bl 0 _ _ _ rfl).val rfl
    have p0_6 : wd.cell? ⟨x2.heap.size, 6, none⟩ = some (.int .i64 20) := (BX.out.bl 0 _ _ _ rfl).val rfl
    have p0_7 : wd.cell? ⟨x2.heap.size, 7, none⟩ = some (.int .i64 1000) := (BX.out.bl 0 _ _ _ rfl).val rfl
    have p0_8 : wd.cell? ⟨x2.heap.size, 8, none⟩ = some (.int .i64 2147483648) := (BX.out.bl 0 _ _ _ rfl).val rfl
    have p0_9 : wd.cell? ⟨x2.heap.size, 9, none⟩ = some (.int .i64 4294967296) := (BX.out.bl 0 _ _ _ rfl).val rfl
    have p0_10 : wd.cell? ⟨x2.heap.size, 10, none⟩ = some (.int .i64 1073741824) := (BX.out.bl 0 _ _ _ rfl).val rfl
    have p0_11 : wd.cell? ⟨x2.heap.size, 11, none⟩ = some (.int .i64 0) := (BX.out.bl 0 _ _ _ rfl).val rfl
    have p0_12 : wd.cell? ⟨x2.heap.size, 12, none⟩ = some (.int .i64 1099511627776) := (BX.out.bl 0 _ _ _ rfl).val rfl
    have p0_13 : wd.cell? ⟨x2.heap.size, 13, none⟩ = some (.int .i64 64) := (BX.out.bl 0 _ _ _ rfl).val rfl
    have p0_14 : wd.cell? ⟨x2.heap.size, 14, none⟩ = some (.int .i64 4) := (BX.out.bl 0 _ _ _ rfl).val rfl
    have p0_15 : wd.cell? ⟨x2.heap.size, 15, none⟩ = some (.int .i64 4) := (BX.out.bl 0 _ _ _ rfl).val rfl
    have z0 : ∀ k, wd.frozen? ⟨x2.heap.size, k, none⟩ = false := (BX.out.bl 0 _ _ _ rfl).free
    have y0 : x2.heap.size < wd.heap.size := (BX.out.bl 0 _ _ _ rfl).size
    obtain ⟨A, hA⟩ : ∃ A, ti % n = A := ⟨_, rfl⟩
    have A0 : 0 ≤ A := by rw [← hA]; exact Int.emod_nonneg _ (by omega)
    have A1 : A < n := by rw [← hA]; exact Int.emod_lt_of_pos _ (by omega)
    have eA : ti.tmod n = A := by rw [Int.tmod_eq_emod_of_nonneg ti0]; exact hA
    have uA : IntKind.i64.wrap A = A := by rw [IntKind.wrap_i64]; omega
    have vA : IntKind.i64.wrap ti = ti := by rw [IntKind.wrap_i64]; omega
    clear hA
    obtain ⟨C, hC⟩ : ∃ C, ot % n = C := ⟨_, rfl⟩
    have C0 : 0 ≤ C := by rw [← hC]; exact Int.emod_nonneg _ (by omega)
    have C1 : C < n := by rw [← hC]; exact Int.emod_lt_of_pos _ (by omega)
    have eC : ot.tmod n = C := by rw [Int.tmod_eq_emod_of_nonneg ot0]; exact hC
    have uC : IntKind.i64.wrap C = C := by rw [IntKind.wrap_i64]; omega
    have vC : IntKind.i64.wrap ot = ot := by rw [IntKind.wrap_i64]; omega
    clear hC
    obtain ⟨X, hX⟩ : ∃ X, co % 128 = X := ⟨_, rfl⟩
    have X0 : 0 ≤ X := by omega
    have X1 : X < 128 := by omega
    have eX : co.tmod 128 = X := by rw [Int.tmod_eq_emod_of_nonneg co0]; exact hX
    have uX : IntKind.i64.wrap X = X := by rw [IntKind.wrap_i64]; omega
    have vX : IntKind.u8.wrap X = X := by
      have : IntKind.u8.wrap X = X % 256 := by simp [IntKind.wrap, IntKind.signed, IntKind.bits]
      rw [this]; omega
    clear hX
    obtain ⟨Y, hY⟩ : ∃ Y, mo % 128 = Y := ⟨_, rfl⟩
    have Y0 : 0 ≤ Y := by omega
    have Y1 : Y < 128 := by omega
    have eY : mo.tmod 128 = Y := by rw [Int.tmod_eq_emod_of_nonneg mo0]; exact hY
    have uY : IntKind.i64.wrap Y = Y := by rw [IntKind.wrap_i64]; omega
    have vY : IntKind.u8.wrap Y = Y := by
      have : IntKind.u8.wrap Y = Y % 256 := by simp [IntKind.wrap, IntKind.signed, IntKind.bits]
      rw [this]; omega
    clear hY
    obtain ⟨P, hP⟩ : ∃ P, A * 128 + X = P := ⟨_, rfl⟩
    obtain ⟨R, hR⟩ : ∃ R, C * 128 + Y = R := ⟨_, rfl⟩
    obtain ⟨z, hz⟩ : ∃ z, decide (R < P) = z := ⟨_, rfl⟩
    have k1 := fun wq => gkey_any A X (by omega) (by omega) (by omega) (by omega) wq
    have k2 := fun wq => gkey_any C Y (by omega) (by omega) (by omega) (by omega) wq
    rw [hP] at k1
    rw [hR] at k2
    have K1 := Lib.hid k1
    have K2 := Lib.hid k2
    have HP := Lib.hid hP
    have HR := Lib.hid hR
    have HZ := Lib.hid hz
    clear k1 k2 hP hR
    go_upto_region 6 with fail
    go_cut [20, 21] from 35 to 127 (fun s20 s21 wx => s20 = .int .i64 A ∧ s21 = .int .i64 C ∧ Bxs w wx [(x2.heap.size, 25, [.int .i64 n, .int .i64 64, .int .i64 5, .int .i64 100, .int .i64 50, .int .i64 10, .int .i64 20, .int .i64 1000, .int .i64 2147483648, .int .i64 4294967296, .int .i64 1073741824, .int .i64 0, .int .i64 1099511627776, .int .i64 64, .int .i64 4, .int .i64 4])])
    case first =>
      go_quiet (fail)
      all_goals (go_wp2_with fail; go_meet; exact ⟨rfl, rfl, by first | with_reducible exact BX.out | with_reducible exact BX.out.drew_ | with_reducible exact BX.out.drewN_ _⟩)
    case rest =>
      clear p0_0 p0_1 p0_2 p0_3 p0_4 p0_5 p0_6 p0_7 p0_8 p0_9 p0_10 p0_11 p0_12 p0_13 p0_14 p0_15 z0 y0
      clear BX
      obtain ⟨rfl, rfl, bx⟩ := hcut
      obtain ⟨we, rfl⟩ : ∃ we, we = wc := ⟨_, rfl⟩
      have BX := Lib.hid bx
      clear bx
      have p0_0 : we.cell? ⟨x2.heap.size, 0, none⟩ = some (.int .i64 n) := (BX.out.bl 0 _ _ _ rfl).val rfl
      have p0_1 : we.cell? ⟨x2.heap.size, 1, none⟩ = some (.int .i64 64) := (BX.out.bl 0 _ _ _ rfl).val rfl
      have p0_2 : we.cell? ⟨x2.heap.size, 2, none⟩ = some (.int .i64 5) := (BX.out.bl 0 _ _ _ rfl).val rfl
      have p0_3 : we.cell? ⟨x2.heap.size, 3, none⟩ = some (.int .i64 100) := (BX.out.bl 0 _ _ _ rfl).val rfl
      have p0_4 : we.cell? ⟨x2.heap.size, 4, none⟩ = some (.int .i64 50) := (BX.out.bl 0 _ _ _ rfl).val rfl
      have p0_5 : we.cell? ⟨x2.heap.size, 5, none⟩ = some (.int .i64 10) := (BX.out.bl 0 _ _ _ rfl).val rfl
      have p0_6 : we.cell? ⟨x2.heap.size, 6, none⟩ = some (.int .i64 20) := (BX.out.bl 0 _ _ _ rfl).val rfl
      have p0_7 : we.cell? ⟨x2.heap.size, 7, none⟩ = some (.int .i64 1000) := (BX.out.bl 0 _ _ _ rfl).val rfl
      have p0_8 : we.cell? ⟨x2.heap.size, 8, none⟩ = some (.int .i64 2147483648) := (BX.out.bl 0 _ _ _ rfl).val rfl
      have p0_9 : we.cell? ⟨x2.heap.size, 9, none⟩ = some (.int .i64 4294967296) := (BX.out.bl 0 _ _ _ rfl).val rfl
      have p0_10 : we.cell? ⟨x2.heap.size, 10, none⟩ = some (.int .i64 1073741824) := (BX.out.bl 0 _ _ _ rfl).val rfl
      have p0_11 : we.cell? ⟨x2.heap.size, 11, none⟩ = some (.int .i64 0) := (BX.out.bl 0 _ _ _ rfl).val rfl
      have p0_12 : we.cell? ⟨x2.heap.size, 12, none⟩ = some (.int .i64 1099511627776) := (BX.out.bl 0 _ _ _ rfl).val rfl
      have p0_13 : we.cell? ⟨x2.heap.size, 13, none⟩ = some (.int .i64 64) := (BX.out.bl 0 _ _ _ rfl).val rfl
      have p0_14 : we.cell? ⟨x2.heap.size, 14, none⟩ = some (.int .i64 4) := (BX.out.bl 0 _ _ _ rfl).val rfl
      have p0_15 : we.cell? ⟨x2.heap.size, 15, none⟩ = some (.int .i64 4) := (BX.out.bl 0 _ _ _ rfl).val rfl
      have z0 : ∀ k, we.frozen? ⟨x2.heap.size, k, none⟩ = false := (BX.out.bl 0 _ _ _ rfl).free
      have y0 : x2.heap.size < we.heap.size := (BX.out.bl 0 _ _ _ rfl).size
      go_upto_if 57 with (first | (go_at_call 18; first | ((with_reducible refine (K1.out _).mono ?_); rintro e wk ⟨rfl, rfl⟩) | ((with_reducible refine (K2.out _).mono ?_); rintro e wk ⟨rfl, rfl⟩)))
      go_cut [20, 21, 22, 23] from 58 to 127 (fun s20 s21 s22 s23 wx => ∃ A' X' C' Y' : Int, s20 = .int .i64 A' ∧ s21 = .int .i64 C' ∧ s22 = .int .i64 X' ∧ s23 = .int .i64 Y' ∧ (0 ≤ A' ∧ A' < n) ∧ (0 ≤ C' ∧ C' < n) ∧ (0 ≤ X' ∧ X' < 128) ∧ (0 ≤ Y' ∧ Y' < 128) ∧ A' * 128 + X' ≤ C' * 128 + Y' ∧ Bxs w wx [(x2.heap.size, 25, [.int .i64 n, .int .i64 64, .int .i64 5, .int .i64 100, .int .i64 50, .int .i64 10, .int .i64 20, .int .i64 1000, .int .i64 2147483648, .int .i64 4294967296, .int .i64 1073741824, .int .i64 0, .int .i64 1099511627776, .int .i64 64, .int .i64 4, .int .i64 4])])
      case first =>
        cases z with
        | true => have hpr := of_decide_eq_true HZ.out; have := HP.out; have := HR.out; clear hz; go_wp2_with fail; go_meet; exact ⟨C, Y, A, X, rfl, rfl, rfl, rfl, ⟨by omega, by omega⟩, ⟨by omega, by omega⟩, ⟨by omega, by omega⟩, ⟨by omega, by omega⟩, by omega, BX.out⟩
        | false => have hpr := of_decide_eq_false HZ.out; have := HP.out; have := HR.out; clear hz; go_wp2_with fail; go_meet; exact ⟨A, X, C, Y, rfl, rfl, rfl, rfl, ⟨by omega, by omega⟩, ⟨by omega, by omega⟩, ⟨by omega, by omega⟩, ⟨by omega, by omega⟩, by omega, BX.out⟩
      case rest =>
        clear p0_0 p0_1 p0_2 p0_3 p0_4 p0_5 p0_6 p0_7 p0_8 p0_9 p0_10 p0_11 p0_12 p0_13 p0_14 p0_15 z0 y0
        clear BX K1 K2 HP HR HZ hz eA eC eX eY vA vC vX vY uA uC uX uY
        obtain ⟨A', X', C', Y', rfl, rfl, rfl, rfl, ⟨A0', A1'⟩, ⟨C0', C1'⟩, ⟨X0', X1'⟩, ⟨Y0', Y1'⟩, hle, bx⟩ := hcut
        clear A0 A1 C0 C1 X0 X1 Y0 Y1
        obtain ⟨wf, rfl⟩ : ∃ wf, wf = wc := ⟨_, rfl⟩
        have BX := Lib.hid bx
        clear bx
        have p0_0 : wf.cell? ⟨x2.heap.size, 0, none⟩ = some (.int .i64 n) := (BX.out.bl 0 _ _ _ rfl).val rfl
        have p0_1 : wf.cell? ⟨x2.heap.size, 1, none⟩ = some (.int .i64 64) := (BX.out.bl 0 _ _ _ rfl).val rfl
        have p0_2 : wf.cell? ⟨x2.heap.size, 2, none⟩ = some (.int .i64 5) := (BX.out.bl 0 _ _ _ rfl).val rfl
        have p0_3 : wf.cell? ⟨x2.heap.size, 3, none⟩ = some (.int .i64 100) := (BX.out.bl 0 _ _ _ rfl).val rfl
        have p0_4 : wf.cell? ⟨x2.heap.size, 4, none⟩ = some (.int .i64 50) := (BX.out.bl 0 _ _ _ rfl).val rfl
        have p0_5 : wf.cell? ⟨x2.heap.size, 5, none⟩ = some (.int .i64 10) := (BX.out.bl 0 _ _ _ rfl).val rfl
        have p0_6 : wf.cell? ⟨x2.heap.size, 6, none⟩ = some (.int .i64 20) := (BX.out.bl 0 _ _ _ rfl).val rfl
        have p0_7 : wf.cell? ⟨x2.heap.size, 7, none⟩ = some (.int .i64 1000) := (BX.out.bl 0 _ _ _ rfl).val rfl
        have p0_8 : wf.cell? ⟨x2.heap.size, 8, none⟩ = some (.int .i64 2147483648) := (BX.out.bl 0 _ _ _ rfl).val rfl
        have p0_9 : wf.cell? ⟨x2.heap.size, 9, none⟩ = some (.int .i64 4294967296) := (BX.out.bl 0 _ _ _ rfl).val rfl
        have p0_10 : wf.cell? ⟨x2.heap.size, 10, none⟩ = some (.int .i64 1073741824) := (BX.out.bl 0 _ _ _ rfl).val rfl
        have p0_11 : wf.cell? ⟨x2.heap.size, 11, none⟩ = some (.int .i64 0) := (BX.out.bl 0 _ _ _ rfl).val rfl
        have p0_12 : wf.cell? ⟨x2.heap.size, 12, none⟩ = some (.int .i64 1099511627776) := (BX.out.bl 0 _ _ _ rfl).val rfl
        have p0_13 : wf.cell? ⟨x2.heap.size, 13, none⟩ = some (.int .i64 64) := (BX.out.bl 0 _ _ _ rfl).val rfl
        have p0_14 : wf.cell? ⟨x2.heap.size, 14, none⟩ = some (.int .i64 4) := (BX.out.bl 0 _ _ _ rfl).val rfl
        have p0_15 : wf.cell? ⟨x2.heap.size, 15, none⟩ = some (.int .i64 4) := (BX.out.bl 0 _ _ _ rfl).val rfl
        have z0 : ∀ k, wf.frozen? ⟨x2.heap.size, k, none⟩ = false := (BX.out.bl 0 _ _ _ rfl).free
        have y0 : x2.heap.size < wf.heap.size := (BX.out.bl 0 _ _ _ rfl).size
        obtain ⟨JL, hJL⟩ : ∃ J, judgeG n L now A' X' d = J := ⟨_, rfl⟩
        obtain ⟨JH, hJH⟩ : ∃ J, judgeG n L now C' Y' d = J := ⟨_, rfl⟩
        obtain ⟨JS, hJS⟩ : ∃ J, judgeG n S now C' Y' d = J := ⟨_, rfl⟩
        have hr1 : rightG n A' X' = true := rightG_iff.2 ⟨A0', A1', X0', X1'⟩
        have hr2 : rightG n C' Y' = true := rightG_iff.2 ⟨C0', C1', Y0', Y1'⟩
        have hmono : edgeG n L ≤ edgeG n S := by unfold edgeG sat; omega
        have hz : JH = 0 → JL = 0 ∧ JS = 0 := by
          intro h0
          rw [← hJH] at h0
          rw [← hJL, ← hJS]
          unfold judgeG at h0 ⊢
          have hf : ¬ (true = false) := by simp
          simp only [hr2, if_neg hf] at h0
          simp only [hr1, hr2, if_neg hf]
          by_cases hd : d ≤ now
          · rw [if_pos hd] at h0; omega
          · simp only [if_neg hd] at h0 ⊢
            by_cases he : edgeG n L ≤ C' * 128 + Y'
            · rw [if_pos he] at h0; omega
            · exact ⟨if_neg (by omega), if_neg (by omega)⟩
        have k1 := fun wq => judge_few n 1000 L now A' X' d (by omega) (by omega) (by omega) wq
        have k2 := fun wq => judge_few n 1000 L now C' Y' d (by omega) (by omega) (by omega) wq
        have k3 := fun wq => judge_few n 1000 S now C' Y' d (by omega) (by omega) (by omega) wq
        rw [hJL] at k1
        rw [hJH] at k2
        rw [hJS] at k3
        obtain ⟨P, hP⟩ : ∃ P, A' * 128 + X' = P := ⟨_, rfl⟩
        obtain ⟨R, hR⟩ : ∃ R, C' * 128 + Y' = R := ⟨_, rfl⟩
        have k4 := fun wq => gkey_any A' X' (by omega) (by omega) (by omega) (by omega) wq
        have k5 := fun wq => gkey_any C' Y' (by omega) (by omega) (by omega) (by omega) wq
        rw [hP] at k4
        rw [hR] at k5
        have K1 := Lib.hid k1
        have K2 := Lib.hid k2
        have K3 := Lib.hid k3
        have K4 := Lib.hid k4
        have K5 := Lib.hid k5
        have HZ := Lib.hid hz
        have HPR := Lib.hid (And.intro hP hR)
        have HLE := Lib.hid (show P ≤ R by omega)
        clear hJL hJH hJS hr1 hr2 hmono hz k1 k2 k3 k4 k5 hP hR hle
        go_upto_region 10 with fail
        go_cut [24, 25] from 62 to 127 (fun s24 s25 wx => s24 = .int .u8 JL ∧ s25 = .int .u8 JH ∧ Bxs w wx [(x2.heap.size, 25, [.int .i64 n, .int .i64 64, .int .i64 5, .int .i64 100, .int .i64 50, .int .i64 10, .int .i64 20, .int .i64 1000, .int .i64 2147483648, .int .i64 4294967296, .int .i64 1073741824, .int .i64 0, .int .i64 1099511627776, .int .i64 64, .int .i64 4, .int .i64 4])])
        case first =>
          as_aux_lemma =>
            go_region_held3 (fun w' => w'.cell? ⟨x2.heap.size, 0, none⟩ = some (.int .i64 n) ∧ w'.cell? ⟨x2.heap.size, 1, none⟩ = some (.int .i64 64) ∧ w'.cell? ⟨x2.heap.size, 2, none⟩ = some (.int .i64 5) ∧ w'.cell? ⟨x2.heap.size, 3, none⟩ = some (.int .i64 100) ∧ w'.cell? ⟨x2.heap.size, 4, none⟩ = some (.int .i64 50) ∧ w'.cell? ⟨x2.heap.size, 5, none⟩ = some (.int .i64 10) ∧ w'.cell? ⟨x2.heap.size, 6, none⟩ = some (.int .i64 20) ∧ w'.cell? ⟨x2.heap.size, 7, none⟩ = some (.int .i64 1000) ∧ w'.cell? ⟨x2.heap.size, 8, none⟩ = some (.int .i64 2147483648) ∧ w'.cell? ⟨x2.heap.size, 9, none⟩ = some (.int .i64 4294967296) ∧ w'.cell? ⟨x2.heap.size, 10, none⟩ = some (.int .i64 1073741824) ∧ w'.cell? ⟨x2.heap.size, 11, none⟩ = some (.int .i64 0) ∧ w'.cell? ⟨x2.heap.size, 12, none⟩ = some (.int .i64 1099511627776) ∧ w'.cell? ⟨x2.heap.size, 13, none⟩ = some (.int .i64 64) ∧ w'.cell? ⟨x2.heap.size, 14, none⟩ = some (.int .i64 4) ∧ w'.cell? ⟨x2.heap.size, 15, none⟩ = some (.int .i64 4)) ((repeat (first | with_reducible assumption | refine ⟨?_, ?_⟩ | with_reducible refine kdrew ?_ | with_reducible refine cell_later ha ?_ | with_reducible refine cell_later hb ?_ | with_reducible refine cell_later hc ?_))) (first | (go_at_call 16; first | ((with_reducible refine (K1.out _).mono ?_); rintro e wa ⟨rfl, ha⟩; replace BX := Lib.hid (show Bxs w wa [(x2.heap.size, 25, [.int .i64 n, .int .i64 64, .int .i64 5, .int .i64 100, .int .i64 50, .int .i64 10, .int .i64 20, .int .i64 1000, .int .i64 2147483648, .int .i64 4294967296, .int .i64 1073741824, .int .i64 0, .int .i64 1099511627776, .int .i64 64, .int .i64 4, .int .i64 4])] from by first | with_reducible exact BX.out.below ha | with_reducible exact BX.out.drew_.below ha | with_reducible exact (BX.out.drewN_ _).below ha | with_reducible exact BX.out.drew_.drew_.below ha | with_reducible exact BX.out.drew_.drew_.drew_.below ha)) | ((with_reducible refine (K2.out _).mono ?_); rintro e wb ⟨rfl, hb⟩; replace BX := Lib.hid (show Bxs w wb [(x2.heap.size, 25, [.int .i64 n, .int .i64 64, .int .i64 5, .int .i64 100, .int .i64 50, .int .i64 10, .int .i64 20, .int .i64 1000, .int .i64 2147483648, .int .i64 4294967296, .int .i64 1073741824, .int .i64 0, .int .i64 1099511627776, .int .i64 64, .int .i64 4, .int .i64 4])] from by first | with_reducible exact BX.out.below hb | with_reducible exact BX.out.drew_.below hb | with_reducible exact (BX.out.drewN_ _).below hb | with_reducible exact BX.out.drew_.drew_.below hb | with_reducible exact BX.out.drew_.drew_.drew_.below hb))))
            all_goals (go_wp2_with fail; go_meet; exact ⟨rfl, rfl, by first | with_reducible exact BX.out | with_reducible exact BX.out.drew_ | with_reducible exact BX.out.drewN_ _⟩)
        case rest =>
          as_aux_lemma =>
            clear p0_0 p0_1 p0_2 p0_3 p0_4 p0_5 p0_6 p0_7 p0_8 p0_9 p0_10 p0_11 p0_12 p0_13 p0_14 p0_15 z0 y0
            clear BX
            obtain ⟨rfl, rfl, bx⟩ := hcut
            obtain ⟨wg, rfl⟩ : ∃ wg, wg = wc := ⟨_, rfl⟩
            have BX := Lib.hid bx
            clear bx
            have p0_0 : wg.cell? ⟨x2.heap.size, 0, none⟩ = some (.int .i64 n) := (BX.out.bl 0 _ _ _ rfl).val rfl
            have p0_1 : wg.cell? ⟨x2.heap.size, 1, none⟩ = some (.int .i64 64) := (BX.out.bl 0 _ _ _ rfl).val rfl
            have p0_2 : wg.cell? ⟨x2.heap.size, 2, none⟩ = some (.int .i64 5) := (BX.out.bl 0 _ _ _ rfl).val rfl
            have p0_3 : wg.cell? ⟨x2.heap.size, 3, none⟩ = some (.int .i64 100) := (BX.out.bl 0 _ _ _ rfl).val rfl
            have p0_4 : wg.cell? ⟨x2.heap.size, 4, none⟩ = some (.int .i64 50) := (BX.out.bl 0 _ _ _ rfl).val rfl
            have p0_5 : wg.cell? ⟨x2.heap.size, 5, none⟩ = some (.int .i64 10) := (BX.out.bl 0 _ _ _ rfl).val rfl
            have p0_6 : wg.cell? ⟨x2.heap.size, 6, none⟩ = some (.int .i64 20) := (BX.out.bl 0 _ _ _ rfl).val rfl
            have p0_7 : wg.cell? ⟨x2.heap.size, 7, none⟩ = some (.int .i64 1000) := (BX.out.bl 0 _ _ _ rfl).val rfl
            have p0_8 : wg.cell? ⟨x2.heap.size, 8, none⟩ = some (.int .i64 2147483648) := (BX.out.bl 0 _ _ _ rfl).val rfl
            have p0_9 : wg.cell? ⟨x2.heap.size, 9, none⟩ = some (.int .i64 4294967296) := (BX.out.bl 0 _ _ _ rfl).val rfl
            have p0_10 : wg.cell? ⟨x2.heap.size, 10, none⟩ = some (.int .i64 1073741824) := (BX.out.bl 0 _ _ _ rfl).val rfl
            have p0_11 : wg.cell? ⟨x2.heap.size, 11, none⟩ = some (.int .i64 0) := (BX.out.bl 0 _ _ _ rfl).val rfl
            have p0_12 : wg.cell? ⟨x2.heap.size, 12, none⟩ = some (.int .i64 1099511627776) := (BX.out.bl 0 _ _ _ rfl).val rfl
            have p0_13 : wg.cell? ⟨x2.heap.size, 13, none⟩ = some (.int .i64 64) := (BX.out.bl 0 _ _ _ rfl).val rfl
            have p0_14 : wg.cell? ⟨x2.heap.size, 14, none⟩ = some (.int .i64 4) := (BX.out.bl 0 _ _ _ rfl).val rfl
            have p0_15 : wg.cell? ⟨x2.heap.size, 15, none⟩ = some (.int .i64 4) := (BX.out.bl 0 _ _ _ rfl).val rfl
            have z0 : ∀ k, wg.frozen? ⟨x2.heap.size, k, none⟩ = false := (BX.out.bl 0 _ _ _ rfl).free
            have y0 : x2.heap.size < wg.heap.size := (BX.out.bl 0 _ _ _ rfl).size
            by_cases h0 : JH = 0
            ·
              obtain ⟨z1, z2⟩ := HZ.out h0
              subst h0 z1 z2
              by_cases hac : A' = C'
              ·
                subst hac
                by_cases hxy : X' = Y'
                ·
                  subst hxy
                  as_aux_lemma =>
                    obtain rfl : P = R := by have := HPR.out; omega
                    have hle := HLE.out
                    go_wp2_with fail
                    refine (K3.out _).mono ?_
                    rintro e wa ⟨rfl, ha⟩
                    replace BX := Lib.hid (show Bxs w wa [(x2.heap.size, 25, [.int .i64 n, .int .i64 64, .int .i64 5, .int .i64 100, .int .i64 50, .int .i64 10, .int .i64 20, .int .i64 1000, .int .i64 2147483648, .int .i64 4294967296, .int .i64 1073741824, .int .i64 0, .int .i64 1099511627776, .int .i64 64, .int .i64 4, .int .i64 4])] from by first | with_reducible exact BX.out.below ha | with_reducible exact BX.out.drew_.below ha | with_reducible exact (BX.out.drewN_ _).below ha | with_reducible exact BX.out.drew_.drew_.below ha | with_reducible exact BX.out.drew_.drew_.drew_.below ha)
                    clear ha
                    go_wp2_with (go_at_call 18; first | ((with_reducible refine (K4.out _).mono ?_); rintro e wk ⟨rfl, rfl⟩) | ((with_reducible refine (K5.out _).mono ?_); rintro e wk ⟨rfl, rfl⟩))
                    all_goals (go_ret; exact ⟨ret_bool (by first | rfl | (simp; done) | (simp; omega)), (by first | with_reducible exact BX.out.be | with_reducible exact BX.out.drew_.be | with_reducible exact (BX.out.drewN_ _).be | with_reducible exact BX.out.drew_.drew_.be | with_reducible exact BX.out.drew_.drew_.drew_.be)⟩)
                ·
                  as_aux_lemma =>
                    have pr1 : (P == R) = false := by have := HPR.out; simp; omega
                    have xy1 : (X' == Y') = false := by simp; omega
                    have hle := HLE.out
                    go_wp2_with fail
                    refine (K3.out _).mono ?_
                    rintro e wa ⟨rfl, ha⟩
                    replace BX := Lib.hid (show Bxs w wa [(x2.heap.size, 25, [.int .i64 n, .int .i64 64, .int .i64 5, .int .i64 100, .int .i64 50, .int .i64 10, .int .i64 20, .int .i64 1000, .int .i64 2147483648, .int .i64 4294967296, .int .i64 1073741824, .int .i64 0, .int .i64 1099511627776, .int .i64 64, .int .i64 4, .int .i64 4])] from by first | with_reducible exact BX.out.below ha | with_reducible exact BX.out.drew_.below ha | with_reducible exact (BX.out.drewN_ _).below ha | with_reducible exact BX.out.drew_.drew_.below ha | with_reducible exact BX.out.drew_.drew_.drew_.below ha)
                    clear ha
                    go_wp2_with (go_at_call 18; first | ((with_reducible refine (K4.out _).mono ?_); rintro e wk ⟨rfl, rfl⟩) | ((with_reducible refine (K5.out _).mono ?_); rintro e wk ⟨rfl, rfl⟩))
                    all_goals (go_ret; exact ⟨ret_bool (by first | rfl | (simp; done) | (simp; omega)), (by first | with_reducible exact BX.out.be | with_reducible exact BX.out.drew_.be | with_reducible exact (BX.out.drewN_ _).be | with_reducible exact BX.out.drew_.drew_.be | with_reducible exact BX.out.drew_.drew_.drew_.be)⟩)
              ·
                as_aux_lemma =>
                  have pr1 : (P == R) = false := by have := HPR.out; simp; omega
                  have ac1 : (A' == C') = false := by simp; omega
                  have hle := HLE.out
                  have ac2 : ¬ C' ≤ A' := by have := HPR.out; omega
                  have pr2 : P < R := by have := HPR.out; omega
                  go_wp2_with fail
                  refine (K3.out _).mono ?_
                  rintro e wa ⟨rfl, ha⟩
                  replace BX := Lib.hid (show Bxs w wa [(x2.heap.size, 25, [.int .i64 n, .int .i64 64, .int .i64 5, .int .i64 100, .int .i64 50, .int .i64 10, .int .i64 20, .int .i64 1000, .int .i64 2147483648, .int .i64 4294967296, .int .i64 1073741824, .int .i64 0, .int .i64 1099511627776, .int .i64 64, .int .i64 4, .int .i64 4])] from by first | with_reducible exact BX.out.below ha | with_reducible exact BX.out.drew_.below ha | with_reducible exact (BX.out.drewN_ _).below ha | with_reducible exact BX.out.drew_.drew_.below ha | with_reducible exact BX.out.drew_.drew_.drew_.below ha)
                  clear ha
                  go_wp2_with (go_at_call 18; first | ((with_reducible refine (K4.out _).mono ?_); rintro e wk ⟨rfl, rfl⟩) | ((with_reducible refine (K5.out _).mono ?_); rintro e wk ⟨rfl, rfl⟩))
                  all_goals (go_ret; exact ⟨ret_bool (by first | rfl | (simp; done) | (simp; omega)), (by first | with_reducible exact BX.out.be | with_reducible exact BX.out.drew_.be | with_reducible exact (BX.out.drewN_ _).be | with_reducible exact BX.out.drew_.drew_.be | with_reducible exact BX.out.drew_.drew_.drew_.be)⟩)
            ·
              have h0b : (JH == 0) = false := by simp [h0]
              have h0c : (JH != 0) = true := by simp [h0]
              by_cases hac : A' = C'
              ·
                subst hac
                by_cases hxy : X' = Y'
                ·
                  subst hxy
                  as_aux_lemma =>
                    obtain rfl : P = R := by have := HPR.out; omega
                    have hle := HLE.out
                    go_wp2_with (go_at_call 18; first | ((with_reducible refine (K4.out _).mono ?_); rintro e wk ⟨rfl, rfl⟩) | ((with_reducible refine (K5.out _).mono ?_); rintro e wk ⟨rfl, rfl⟩))
                    all_goals (go_ret; exact ⟨ret_bool (by first | rfl | (simp; done) | (simp; omega)), (by first | with_reducible exact BX.out.be | with_reducible exact BX.out.drew_.be | with_reducible exact (BX.out.drewN_ _).be | with_reducible exact BX.out.drew_.drew_.be | with_reducible exact BX.out.drew_.drew_.drew_.be)⟩)
                ·
                  as_aux_lemma =>
                    have pr1 : (P == R) = false := by have := HPR.out; simp; omega
                    have xy1 : (X' == Y') = false := by simp; omega
                    have hle := HLE.out
                    go_wp2_with (go_at_call 18; first | ((with_reducible refine (K4.out _).mono ?_); rintro e wk ⟨rfl, rfl⟩) | ((with_reducible refine (K5.out _).mono ?_); rintro e wk ⟨rfl, rfl⟩))
                    all_goals (go_ret; exact ⟨ret_bool (by first | rfl | (simp; done) | (simp; omega)), (by first | with_reducible exact BX.out.be | with_reducible exact BX.out.drew_.be | with_reducible exact (BX.out.drewN_ _).be | with_reducible exact BX.out.drew_.drew_.be | with_reducible exact BX.out.drew_.drew_.drew_.be)⟩)
              ·
                as_aux_lemma =>
                  have pr1 : (P == R) = false := by have := HPR.out; simp; omega
                  have ac1 : (A' == C') = false := by simp; omega
                  have hle := HLE.out
                  have ac2 : ¬ C' ≤ A' := by have := HPR.out; omega
                  have pr2 : P < R := by have := HPR.out; omega
                  go_wp2_with (go_at_call 18; first | ((with_reducible refine (K4.out _).mono ?_); rintro e wk ⟨rfl, rfl⟩) | ((with_reducible refine (K5.out _).mono ?_); rintro e wk ⟨rfl, rfl⟩))
                  all_goals (go_ret; exact ⟨ret_bool (by first | rfl | (simp; done) | (simp; omega)), (by first | with_reducible exact BX.out.be | with_reducible exact BX.out.drew_.be | with_reducible exact (BX.out.drewN_ _).be | with_reducible exact BX.out.drew_.drew_.be | with_reducible exact BX.out.drew_.drew_.drew_.be)⟩)
set_option maxRecDepth 100000 in
theorem lifted (os : Os) (started : os.Started) (H : Type) (enc : TypeId × Value → H) :
    ReturnsInHanded {} Tryd.checked os 4 .any (fun w args => (Rows.gateFallsSpec.pre enc Tryd.prog Tryd.f4 Rows.gateFallsRow.domain false w args ∧ laidMetH Tryd.prog [("overfall/gate.names", Rows.laid_overfall_gate_names)] w) ∧ sizedMet enc Tryd.prog Tryd.f4 (OpenSpec.ofChange Rows.gateFallsSpec) false w args)
      (Rows.gateFallsSpec.post enc Tryd.prog Tryd.f4 false true false false) := by
  refine returnsInHanded_of_change_and (C := Tryd.checked) (X := fun w _ => laidMetH Tryd.prog [("overfall/gate.names", Rows.laid_overfall_gate_names)] w) (fun _ _ _ hh h => h.of_heap hh) own started (by kernel_rfl) Tryd.func4
    (ChangeSpec.witness_shaped (enc := enc) (C := Tryd.checked) (os := os) (X := fun w _ => laidMetH Tryd.prog [("overfall/gate.names", Rows.laid_overfall_gate_names)] w) false (World.laidAll Tryd.prog os [("overfall/gate.names", Rows.laid_overfall_gate_names)]) #[.int .u8 0, .int .i64 0, .int .i64 0, .int .i64 0, .int .u8 0, .int .u8 0, .int .u8 0, .int .u8 0, .int .i64 0] 8 (World.laidAll_os _ _ _)
      (World.shaped_of_ZipB (by kernel_rfl) (by kernel_rfl)) (by kernel_rfl) (by kernel_rfl) (by kernel_rfl)
      (by rw [MakeChecks.laidMetH_plain _ _ _ (by kernel_rfl)]; exact laidMet_laidAll _ (by kernel_rfl) (by kernel_rfl))) ?_
  intro W base args ds gs before hval0 hW hcnd _ hL _
  have hLO := names_of_laid hL
  have hval : ∀ (j : Nat) t v, Tryd.f4.params[j]? = some t → args[j]? = some v → Value.okWide Tryd.prog W .any base t v := hval0
  have hW' := hW
  obtain ⟨p, q, hA0, hV, rfl, hfz, hnd⟩ := hW
  have hA : DataW.TrodAll enc Tryd.prog W 0 (fun _ => true) true Tryd.f4.params.toList args.toList ds p := hA0
  rw [Tryd.params4] at hA hval
  obtain ⟨v0, vs0, d0, ds0, p0, q0, hargs, rfl, rfl, h0, r0⟩ := trodAll_cons hA
  obtain ⟨v1, vs1, d1, ds1, p1, q1, rfl, rfl, rfl, h1, r1⟩ := trodAll_cons r0
  obtain ⟨v2, vs2, d2, ds2, p2, q2, rfl, rfl, rfl, h2, r2⟩ := trodAll_cons r1
  obtain ⟨v3, vs3, d3, ds3, p3, q3, rfl, rfl, rfl, h3, r3⟩ := trodAll_cons r2
  obtain ⟨v4, vs4, d4, ds4, p4, q4, rfl, rfl, rfl, h4, r4⟩ := trodAll_cons r3
  obtain ⟨v5, vs5, d5, ds5, p5, q5, rfl, rfl, rfl, h5, r5⟩ := trodAll_cons r4
  obtain ⟨v6, vs6, d6, ds6, p6, q6, rfl, rfl, rfl, h6, r6⟩ := trodAll_cons r5
  obtain ⟨v7, vs7, d7, ds7, p7, q7, rfl, rfl, rfl, h7, r7⟩ := trodAll_cons r6
  obtain ⟨v8, vs8, d8, ds8, p8, q8, rfl, rfl, rfl, h8, r8⟩ := trodAll_cons r7
  obtain ⟨rfl, rfl, rfl⟩ := trodAll_nil r8
  obtain rfl : args = #[v0, v1, v2, v3, v4, v5, v6, v7, v8] := by cases args; simp_all
  obtain ⟨rfl, rfl⟩ := trodVars_none hV
  obtain ⟨a0, rfl, rfl, rfl, w0⟩ := open_int Tryd.underlying5 (hval 0 _ v0 rfl rfl) h0
  obtain ⟨a1, rfl, rfl, rfl, w1⟩ := open_int Tryd.underlying2 (hval 1 _ v1 rfl rfl) h1
  obtain ⟨a2, rfl, rfl, rfl, w2⟩ := open_int Tryd.underlying2 (hval 2 _ v2 rfl rfl) h2
  obtain ⟨a3, rfl, rfl, rfl, w3⟩ := open_int Tryd.underlying2 (hval 3 _ v3 rfl rfl) h3
  obtain ⟨a4, rfl, rfl, rfl, w4⟩ := open_int Tryd.underlying5 (hval 4 _ v4 rfl rfl) h4
  obtain ⟨a5, rfl, rfl, rfl, w5⟩ := open_int Tryd.underlying5 (hval 5 _ v5 rfl rfl) h5
  obtain ⟨a6, rfl, rfl, rfl, w6⟩ := open_int Tryd.underlying5 (hval 6 _ v6 rfl rfl) h6
  obtain ⟨a7, rfl, rfl, rfl, w7⟩ := open_int Tryd.underlying5 (hval 7 _ v7 rfl rfl) h7
  obtain ⟨a8, rfl, rfl, rfl, w8⟩ := open_int Tryd.underlying2 (hval 8 _ v8 rfl rfl) h8
  clear hA0 hval0
  obtain ⟨l0, m0⟩ := wf_u8 w0
  obtain ⟨l1, m1⟩ := wf_i64 w1
  obtain ⟨l2, m2⟩ := wf_i64 w2
  obtain ⟨l3, m3⟩ := wf_i64 w3
  obtain ⟨l4, m4⟩ := wf_u8 w4
  obtain ⟨l5, m5⟩ := wf_u8 w5
  obtain ⟨l6, m6⟩ := wf_u8 w6
  obtain ⟨l7, m7⟩ := wf_u8 w7
  obtain ⟨l8, m8⟩ := wf_i64 w8
  refine (walk a0 a1 a2 a3 a4 a5 a6 a7 a8 W hLO l0 m0 l1 m1 l2 m2 l3 m3 l4 m4 l5 m5 l6 m6 l7 m7 l8 m8).mono fun e W' ⟨he, hg⟩ => ?_
  subst he
  exact ⟨_, rfl, post_of_law hW' rfl laidOut reads rfl Tryd.underlying4 rfl rfl rfl hg⟩
theorem over : Rows.gateFallsRow.holds Tryd.pinned (OpenSpec.ofChange Rows.gateFallsSpec) :=
  OpenClaim.holds_of_wide 4 Tryd.f4 rfl rfl rfl rfl rfl rfl rfl ⟨rfl, rfl, rfl, rfl, rfl⟩ rfl rfl rfl rfl rfl (by kernel_rfl) Tryd.func4 (by kernel_rfl)
    (of_decide_eq_true (by kernel_rfl)) (by unfold Func.isWrapper; first | (rw [if_pos (by decide +kernel)]; kernel_rfl) | (rw [if_neg (by decide +kernel)]; exact ⟨rfl, rfl⟩))
    (fun os started H enc _ => lifted os started H enc)
theorem proved : Rows.GateFallsCardSaid :=
  Claim7.holds_tied_plain_at .later [] [.data] true Rows.gateFallsCard.stood.harness false over (fun _ h => by cases h) (by kernel_rfl) (fun _ h => by cases h) gateFalls_row_tie rfl ⟨rfl, rfl⟩ (by kernel_rfl) rfl
    (fun f fn hf hfn => by
      obtain rfl : f = 4 := Option.some.inj ((show Tryd.prog.funcNamed "overfall/overfalllaw14.GateFalls" = some 4 by kernel_rfl).symm.trans hf) |>.symm
      obtain rfl : fn = Tryd.f4 := (Option.some.inj (Tryd.func4.symm.trans hfn)).symm
      exact ⟨by kernel_rfl, fun j t ht => by
        have hm : t ∈ Tryd.f4.params.toList := by simpa using Array.mem_of_getElem? ht
        have hall : (Tryd.f4.params.toList.all fun u => !Tryd.prog.wantsStandIn u) = true := by kernel_rfl
        exact (show Tryd.prog.wantsStandIn t = false by simpa using List.all_eq_true.1 hall t hm)⟩)
    (by kernel_rfl)
end Go.Proofs.YtgocnliapkokbaaDoor.gateFalls
