/- GateHorizons is true of every input, and changes nothing that it was given. -/
import Derived.Test.YtgocnliapkokbaaDoorGlaid
import Derived.Test.YtgocnliapkokbaaDoorRowb
import Derived.Test.YtgocnliapkokbaaDoorRows
import Derived.WalkKit
import Derived.ProofKit
import Derived.OpenShut
import Derived.Deep.DeepCutAuto
import Derived.Deep.RegionHeld3
import Derived.Test.YtgocnliapkokbaaDoorTie
import Derived.Test.YtgocnliapkokbaaDoorCards
import Derived.LaidMore
import Derived.Lay
import Derived.SevenTiedAt
import Derived.Stop.Joined
namespace Go.Proofs.YtgocnliapkokbaaDoor.gateHorizons
open Go.ChangeShapes Go.WideShapes Go.ChangeAt Go.RowKit
set_option linter.unusedVariables false
theorem own : ownKnob Tryd.prog.godebug = none := by kernel_rfl
theorem laidOut : laidOutB Tryd.prog = true := by kernel_rfl
theorem reads : (Tryd.f7.params.toList.all fun t => Tryd.prog.readableRec t && decide (t < Tryd.prog.types.size)) = true := by kernel_rfl
open Kn
set_option linter.unusedSimpArgs false
set_option maxRecDepth 100000 in
set_option maxHeartbeats 4000000 in
theorem walk_gt (h now a b : Int) (w : World) (hN : NamesAt w) (h0 : -9223372036854775808 ≤ h) (h1 : h ≤ 9223372036854775807) (now0 : -9223372036854775808 ≤ now) (now1 : now ≤ 9223372036854775807) (a0 : -9223372036854775808 ≤ a) (a1 : a ≤ 9223372036854775807) (b0 : -9223372036854775808 ≤ b) (b1 : b ≤ 9223372036854775807) (hab : b < a) :
    Calls Tryd.prog 7 #[.int .i64 h, .int .i64 now, .int .i64 a, .int .i64 b] w fun e w' => e = .returned (.bool true) ∧ Below w.heap.size w w' := by
  have HN := Lib.hid hN
  clear hN
  obtain ⟨n, hn⟩ : ∃ n : Int, 1 + (0 : Int) % 8 = n := ⟨_, rfl⟩
  have n0 : 1 ≤ n := by omega
  have n1 : n ≤ 8 := by omega
  have hfw := fun wq => few_n (0 : Int) n h (by omega) hn wq
  have HFW := Lib.hid hfw
  clear hfw hn
  go_enter Tryd.func7, Tryd.ntmps7
  go_wp2_with fail
  refine (awake14 _ HN.out).mono ?_
  rintro e x1 ⟨rfl, hb⟩
  have bx : Bxs w x1 [] := (Bxs.nil_ w).below hb
  clear hb
  have BX := Lib.hid bx
  clear bx
  go_wp2_with fail
  refine (HFW.out _).mono ?_
  rintro e x2 ⟨rfl, hb⟩
  have bx : Bxs w x2 [] := (BX.out).below hb
  clear hb BX
  have BX := Lib.hid bx
  clear bx
  go_upto_region 4 with fail
  refine wp_worldx (fun wx => Bxs w wx [(x2.heap.size, 25, [.int .i64 n, .int .i64 64, .int .i64 5, .int .i64 100, .int .i64 50, .int .i64 10, .int .i64 20, .int .i64 h, .int .i64 2147483648, .int .i64 4294967296, .int .i64 1073741824, .int .i64 0, .int .i64 1099511627776, .int .i64 64, .int .i64 4, .int .i64 4])]) ((BX.out).alloc_ _ _ (by simp)) ?_
  clear BX
  rintro x3 bx
  have BX := Lib.hid bx
  clear bx
  have p0_0 : x3.cell? ⟨x2.heap.size, 0, none⟩ = some (.int .i64 n) := (BX.out.bl 0 _ _ _ rfl).val rfl
  have p0_1 : x3.cell? ⟨x2.heap.size, 1, none⟩ = some (.int .i64 64) := (BX.out.bl 0 _ _ _ rfl).val rfl
  have p0_2 : x3.cell? ⟨x2.heap.size, 2, none⟩ = some (.int .i64 5) := (BX.out.bl 0 _ _ _ rfl).val rfl
  have p0_3 : x3.cell? ⟨x2.heap.size, 3, none⟩ = some (.int .i64 100) := (BX.out.bl 0 _ _ _ rfl).val rfl
  have p0_4 : x3.cell? ⟨x2.heap.size, 4, none⟩ = some (.int .i64 50) := (BX.out.bl 0 _ _ _ rfl).val rfl
  have p0_5 : x3.cell? ⟨x2.heap.size, 5, none⟩ = some (.int .i64 10) := (BX.out.bl 0 _ _ _ rfl).val rfl
  have p0_6 : x3.cell? ⟨x2.heap.size, 6, none⟩ = some (.int .i64 20) := (BX.out.bl 0 _ _ _ rfl).val rfl
  have p0_7 : x3.cell? ⟨x2.heap.size, 7, none⟩ = some (.int .i64 h) := (BX.out.bl 0 _ _ _ rfl).val rfl
  have p0_8 : x3.cell? ⟨x2.heap.size, 8, none⟩ = some (.int .i64 2147483648) := (BX.out.bl 0 _ _ _ rfl).val rfl
  have p0_9 : x3.cell? ⟨x2.heap.size, 9, none⟩ = some (.int .i64 4294967296) := (BX.out.bl 0 _ _ _ rfl).val rfl
  have p0_10 : x3.cell? ⟨x2.heap.size, 10, none⟩ = some (.int .i64 1073741824) := (BX.out.bl 0 _ _ _ rfl).val rfl
  have p0_11 : x3.cell? ⟨x2.heap.size, 11, none⟩ = some (.int .i64 0) := (BX.out.bl 0 _ _ _ rfl).val rfl
  have p0_12 : x3.cell? ⟨x2.heap.size, 12, none⟩ = some (.int .i64 1099511627776) := (BX.out.bl 0 _ _ _ rfl).val rfl
  have p0_13 : x3.cell? ⟨x2.heap.size, 13, none⟩ = some (.int .i64 64) := (BX.out.bl 0 _ _ _ rfl).val rfl
  have p0_14 : x3.cell? ⟨x2.heap.size, 14, none⟩ = some (.int .i64 4) := (BX.out.bl 0 _ _ _ rfl).val rfl
  have p0_15 : x3.cell? ⟨x2.heap.size, 15, none⟩ = some (.int .i64 4) := (BX.out.bl 0 _ _ _ rfl).val rfl
  have z0 : ∀ k, x3.frozen? ⟨x2.heap.size, k, none⟩ = false := (BX.out.bl 0 _ _ _ rfl).free
  have y0 : x2.heap.size < x3.heap.size := (BX.out.bl 0 _ _ _ rfl).size
  have hle : b ≤ a := by omega
  obtain ⟨X, hX⟩ : ∃ X, deadG h now b = X := ⟨_, rfl⟩
  obtain ⟨Y, hY⟩ : ∃ Y, deadG h now a = Y := ⟨_, rfl⟩
  obtain ⟨Z, hZ⟩ : ∃ Z, deadG h now 9223372036854775807 = Z := ⟨_, rfl⟩
  have hF : (X ≤ b ∧ X ≤ Z ∧ X ≤ Y ∧ (X = b ∨ X = Z) ∧ deadG h now X = X) := by
    have hm := sat_up (now + h)
    rw [← hX, ← hY, ← hZ]
    unfold deadG
    generalize sat (now + h) = s at hm ⊢
    refine ⟨by split <;> omega, by split <;> split <;> omega, by split <;> split <;> omega, by split <;> split <;> omega, ?_⟩
    by_cases hc : s < b
    · simp only [if_pos hc]; split <;> omega
    · simp only [if_neg hc]
  have k1 := fun wq => dead_few n h now b now0 now1 h0 h1 wq
  have k2 := fun wq => dead_few n h now a now0 now1 h0 h1 wq
  have k3 := fun wq => rdead_any h now 9223372036854775807 now0 now1 h0 h1 wq
  have k4 := fun wq => dead_few n h now X now0 now1 h0 h1 wq
  rw [hX] at k1
  rw [hY] at k2
  rw [hZ] at k3
  rw [hF.2.2.2.2] at k4
  have K1 := Lib.hid k1
  have K2 := Lib.hid k2
  have K3 := Lib.hid k3
  have K4 := Lib.hid k4
  obtain ⟨f1, f2, f3, f4, -⟩ := hF
  have F4 := Lib.hid f4
  clear hX hY hZ k1 k2 k3 k4 f4
  go_upto_region 6 with fail
  go_cut [10, 11] from 22 to 77 (fun s10 s11 wx => s10 = .int .i64 X ∧ s11 = .int .i64 Y ∧ Bxs w wx [(x2.heap.size, 25, [.int .i64 n, .int .i64 64, .int .i64 5, .int .i64 100, .int .i64 50, .int .i64 10, .int .i64 20, .int .i64 h, .int .i64 2147483648, .int .i64 4294967296, .int .i64 1073741824, .int .i64 0, .int .i64 1099511627776, .int .i64 64, .int .i64 4, .int .i64 4])])
  case first =>
    go_region_held3 (fun w' => w'.cell? ⟨x2.heap.size, 0, none⟩ = some (.int .i64 n) ∧ w'.cell? ⟨x2.heap.size, 1, none⟩ = some (.int .i64 64) ∧ w'.cell? ⟨x2.heap.size, 2, none⟩ = some (.int .i64 5) ∧ w'.cell? ⟨x2.heap.size, 3, none⟩ = some (.int .i64 100) ∧ w'.cell? ⟨x2.heap.size, 4, none⟩ = some (.int .i64 50) ∧ w'.cell? ⟨x2.heap.size, 5, none⟩ = some (.int .i64 10) ∧ w'.cell? ⟨x2.heap.size, 6, none⟩ = some (.int .i64 20) ∧ w'.cell? ⟨x2.heap.size, 7, none⟩ = some (.int .i64 h) ∧ w'.cell? ⟨x2.heap.size, 8, none⟩ = some (.int .i64 2147483648) ∧ w'.cell? ⟨x2.heap.size, 9, none⟩ = some (.int .i64 4294967296) ∧ w'.cell? ⟨x2.heap.size, 10, none⟩ = some (.int .i64 1073741824) ∧ w'.cell? ⟨x2.heap.size, 11, none⟩ = some (.int .i64 0) ∧ w'.cell? ⟨x2.heap.size, 12, none⟩ = some (.int .i64 1099511627776) ∧ w'.cell? ⟨x2.heap.size, 13, none⟩ = some (.int .i64 64) ∧ w'.cell? ⟨x2.heap.size, 14, none⟩ = some (.int .i64 4) ∧ w'.cell? ⟨x2.heap.size, 15, none⟩ = some (.int .i64 4)) ((repeat (first | with_reducible assumption | refine ⟨?_, ?_⟩ | with_reducible refine kdrew ?_ | with_reducible refine cell_later ha ?_ | with_reducible refine cell_later hb ?_ | with_reducible refine cell_later hc ?_))) (first | (go_at_call 14; first | ((with_reducible refine (K1.out _).mono ?_); rintro e wa ⟨rfl, ha⟩; replace BX := Lib.hid (show Bxs w wa [(x2.heap.size, 25, [.int .i64 n, .int .i64 64, .int .i64 5, .int .i64 100, .int .i64 50, .int .i64 10, .int .i64 20, .int .i64 h, .int .i64 2147483648, .int .i64 4294967296, .int .i64 1073741824, .int .i64 0, .int .i64 1099511627776, .int .i64 64, .int .i64 4, .int .i64 4])] from by first | with_reducible exact BX.out.below ha | with_reducible exact BX.out.drew_.below ha | with_reducible exact (BX.out.drewN_ _).below ha | with_reducible exact BX.out.drew_.drew_.below ha | with_reducible exact BX.out.drew_.drew_.drew_.below ha)) | ((with_reducible refine (K2.out _).mono ?_); rintro e wb ⟨rfl, hb⟩; replace BX := Lib.hid (show Bxs w wb [(x2.heap.size, 25, [.int .i64 n, .int .i64 64, .int .i64 5, .int .i64 100, .int .i64 50, .int .i64 10, .int .i64 20, .int .i64 h, .int .i64 2147483648, .int .i64 4294967296, .int .i64 1073741824, .int .i64 0, .int .i64 1099511627776, .int .i64 64, .int .i64 4, .int .i64 4])] from by first | with_reducible exact BX.out.below hb | with_reducible exact BX.out.drew_.below hb | with_reducible exact (BX.out.drewN_ _).below hb | with_reducible exact BX.out.drew_.drew_.below hb | with_reducible exact BX.out.drew_.drew_.drew_.below hb))))
    all_goals (go_wp2_with fail; go_meet; exact ⟨rfl, rfl, by first | with_reducible exact BX.out | with_reducible exact BX.out.drew_ | with_reducible exact BX.out.drewN_ _⟩)
  case rest =>
    clear p0_0 p0_1 p0_2 p0_3 p0_4 p0_5 p0_6 p0_7 p0_8 p0_9 p0_10 p0_11 p0_12 p0_13 p0_14 p0_15 z0 y0
    clear BX
    obtain ⟨rfl, rfl, bx⟩ := hcut
    have BX := Lib.hid bx
    clear bx
    have p0_0 : wc.cell? ⟨x2.heap.size, 0, none⟩ = some (.int .i64 n) := (BX.out.bl 0 _ _ _ rfl).val rfl
    have p0_1 : wc.cell? ⟨x2.heap.size, 1, none⟩ = some (.int .i64 64) := (BX.out.bl 0 _ _ _ rfl).val rfl
    have p0_2 : wc.cell? ⟨x2.heap.size, 2, none⟩ = some (.int .i64 5) := (BX.out.bl 0 _ _ _ rfl).val rfl
    have p0_3 : wc.cell? ⟨x2.heap.size, 3, none⟩ = some (.int .i64 100) := (BX.out.bl 0 _ _ _ rfl).val rfl
    have p0_4 : wc.cell? ⟨x2.heap.size, 4, none⟩ = some (.int .i64 50) := (BX.out.bl 0 _ _ _ rfl).val rfl
    have p0_5 : wc.cell? ⟨x2.heap.size, 5, none⟩ = some (.int .i64 10) := (BX.out.bl 0 _ _ _ rfl).val rfl
    have p0_6 : wc.cell? ⟨x2.heap.size, 6, none⟩ = some (.int .i64 20) := (BX.out.bl 0 _ _ _ rfl).val rfl
    have p0_7 : wc.cell? ⟨x2.heap.size, 7, none⟩ = some (.int .i64 h) := (BX.out.bl 0 _ _ _ rfl).val rfl
    have p0_8 : wc.cell? ⟨x2.heap.size, 8, none⟩ = some (.int .i64 2147483648) := (BX.out.bl 0 _ _ _ rfl).val rfl
    have p0_9 : wc.cell? ⟨x2.heap.size, 9, none⟩ = some (.int .i64 4294967296) := (BX.out.bl 0 _ _ _ rfl).val rfl
    have p0_10 : wc.cell? ⟨x2.heap.size, 10, none⟩ = some (.int .i64 1073741824) := (BX.out.bl 0 _ _ _ rfl).val rfl
    have p0_11 : wc.cell? ⟨x2.heap.size, 11, none⟩ = some (.int .i64 0) := (BX.out.bl 0 _ _ _ rfl).val rfl
    have p0_12 : wc.cell? ⟨x2.heap.size, 12, none⟩ = some (.int .i64 1099511627776) := (BX.out.bl 0 _ _ _ rfl).val rfl
    have p0_13 : wc.cell? ⟨x2.heap.size, 13, none⟩ = some (.int .i64 64) := (BX.out.bl 0 _ _ _ rfl).val rfl
    have p0_14 : wc.cell? ⟨x2.heap.size, 14, none⟩ = some (.int .i64 4) := (BX.out.bl 0 _ _ _ rfl).val rfl
    have p0_15 : wc.cell? ⟨x2.heap.size, 15, none⟩ = some (.int .i64 4) := (BX.out.bl 0 _ _ _ rfl).val rfl
    have z0 : ∀ k, wc.frozen? ⟨x2.heap.size, k, none⟩ = false := (BX.out.bl 0 _ _ _ rfl).free
    have y0 : x2.heap.size < wc.heap.size := (BX.out.bl 0 _ _ _ rfl).size
    go_wp2_with fail
    refine (K3.out _).mono ?_
    rintro e x4 ⟨rfl, hb⟩
    have bx : Bxs w x4 [(x2.heap.size, 25, [.int .i64 n, .int .i64 64, .int .i64 5, .int .i64 100, .int .i64 50, .int .i64 10, .int .i64 20, .int .i64 h, .int .i64 2147483648, .int .i64 4294967296, .int .i64 1073741824, .int .i64 0, .int .i64 1099511627776, .int .i64 64, .int .i64 4, .int .i64 4])] := (BX.out).below hb
    clear p0_0 p0_1 p0_2 p0_3 p0_4 p0_5 p0_6 p0_7 p0_8 p0_9 p0_10 p0_11 p0_12 p0_13 p0_14 p0_15 z0 y0
    clear hb BX
    have BX := Lib.hid bx
    clear bx
    have p0_0 : x4.cell? ⟨x2.heap.size, 0, none⟩ = some (.int .i64 n) := (BX.out.bl 0 _ _ _ rfl).val rfl
    have p0_1 : x4.cell? ⟨x2.heap.size, 1, none⟩ = some (.int .i64 64) := (BX.out.bl 0 _ _ _ rfl).val rfl
    have p0_2 : x4.cell? ⟨x2.heap.size, 2, none⟩ = some (.int .i64 5) := (BX.out.bl 0 _ _ _ rfl).val rfl
    have p0_3 : x4.cell? ⟨x2.heap.size, 3, none⟩ = some (.int .i64 100) := (BX.out.bl 0 _ _ _ rfl).val rfl
    have p0_4 : x4.cell? ⟨x2.heap.size, 4, none⟩ = some (.int .i64 50) := (BX.out.bl 0 _ _ _ rfl).val rfl
    have p0_5 : x4.cell? ⟨x2.heap.size, 5, none⟩ = some (.int .i64 10) := (BX.out.bl 0 _ _ _ rfl).val rfl
    have p0_6 : x4.cell? ⟨x2.heap.size, 6, none⟩ = some (.int .i64 20) := (BX.out.bl 0 _ _ _ rfl).val rfl
    have p0_7 : x4.cell? ⟨x2.heap.size, 7, none⟩ = some (.int .i64 h) := (BX.out.bl 0 _ _ _ rfl).val rfl
    have p0_8 : x4.cell? ⟨x2.heap.size, 8, none⟩ = some (.int .i64 2147483648) := (BX.out.bl 0 _ _ _ rfl).val rfl
    have p0_9 : x4.cell? ⟨x2.heap.size, 9, none⟩ = some (.int .i64 4294967296) := (BX.out.bl 0 _ _ _ rfl).val rfl
    have p0_10 : x4.cell? ⟨x2.heap.size, 10, none⟩ = some (.int .i64 1073741824) := (BX.out.bl 0 _ _ _ rfl).val rfl
    have p0_11 : x4.cell? ⟨x2.heap.size, 11, none⟩ = some (.int .i64 0) := (BX.out.bl 0 _ _ _ rfl).val rfl
    have p0_12 : x4.cell? ⟨x2.heap.size, 12, none⟩ = some (.int .i64 1099511627776) := (BX.out.bl 0 _ _ _ rfl).val rfl
    have p0_13 : x4.cell? ⟨x2.heap.size, 13, none⟩ = some (.int .i64 64) := (BX.out.bl 0 _ _ _ rfl).val rfl
    have p0_14 : x4.cell? ⟨x2.heap.size, 14, none⟩ = some (.int .i64 4) := (BX.out.bl 0 _ _ _ rfl).val rfl
    have p0_15 : x4.cell? ⟨x2.heap.size, 15, none⟩ = some (.int .i64 4) := (BX.out.bl 0 _ _ _ rfl).val rfl
    have z0 : ∀ k, x4.frozen? ⟨x2.heap.size, k, none⟩ = false := (BX.out.bl 0 _ _ _ rfl).free
    have y0 : x2.heap.size < x4.heap.size := (BX.out.bl 0 _ _ _ rfl).size
    by_cases hxa : X = b
    ·
      subst hxa
      have HFIN := Lib.hid (show (decide (X ≤ now) == (decide (X ≤ now) || decide (Z ≤ now))) = true from by (by_cases p1 : X ≤ now) <;> (by_cases p2 : X ≤ now) <;> (by_cases p3 : Z ≤ now) <;> (first | (exfalso; omega) | simp [p1, p2, p3]))
      go_wp2_with fail
      refine (K4.out _).mono ?_
      rintro e wz ⟨rfl, hz⟩
      replace BX := Lib.hid (show Bxs w wz [(x2.heap.size, 25, [.int .i64 n, .int .i64 64, .int .i64 5, .int .i64 100, .int .i64 50, .int .i64 10, .int .i64 20, .int .i64 h, .int .i64 2147483648, .int .i64 4294967296, .int .i64 1073741824, .int .i64 0, .int .i64 1099511627776, .int .i64 64, .int .i64 4, .int .i64 4])] from by first | with_reducible exact BX.out.below hz | with_reducible exact BX.out.drew_.below hz | with_reducible exact (BX.out.drewN_ _).below hz | with_reducible exact BX.out.drew_.drew_.below hz | with_reducible exact BX.out.drew_.drew_.drew_.below hz)
      clear hz
      go_wp2_with fail
      all_goals (go_ret; exact ⟨ret_bool (by first | rfl | exact HFIN.out | (simp only [decide_eq_true_eq]; omega) | (simp [*]; done) | (simp [*]; omega)), (by first | with_reducible exact BX.out.be | with_reducible exact BX.out.drew_.be | with_reducible exact (BX.out.drewN_ _).be | with_reducible exact BX.out.drew_.drew_.be | with_reducible exact BX.out.drew_.drew_.drew_.be)⟩)
    ·
      have hxz : X = Z := by have := F4.out; omega
      subst hxz
      have hxb : (X == b) = false := by simp [hxa]
      have HFIN := Lib.hid (show (decide (X ≤ now) == (decide (b ≤ now) || decide (X ≤ now))) = true from by (by_cases p1 : X ≤ now) <;> (by_cases p2 : b ≤ now) <;> (by_cases p3 : X ≤ now) <;> (first | (exfalso; omega) | simp [p1, p2, p3]))
      go_wp2_with fail
      refine (K4.out _).mono ?_
      rintro e wz ⟨rfl, hz⟩
      replace BX := Lib.hid (show Bxs w wz [(x2.heap.size, 25, [.int .i64 n, .int .i64 64, .int .i64 5, .int .i64 100, .int .i64 50, .int .i64 10, .int .i64 20, .int .i64 h, .int .i64 2147483648, .int .i64 4294967296, .int .i64 1073741824, .int .i64 0, .int .i64 1099511627776, .int .i64 64, .int .i64 4, .int .i64 4])] from by first | with_reducible exact BX.out.below hz | with_reducible exact BX.out.drew_.below hz | with_reducible exact (BX.out.drewN_ _).below hz | with_reducible exact BX.out.drew_.drew_.below hz | with_reducible exact BX.out.drew_.drew_.drew_.below hz)
      clear hz
      go_wp2_with fail
      all_goals (go_ret; exact ⟨ret_bool (by first | rfl | exact HFIN.out | (simp only [decide_eq_true_eq]; omega) | (simp [*]; done) | (simp [*]; omega)), (by first | with_reducible exact BX.out.be | with_reducible exact BX.out.drew_.be | with_reducible exact (BX.out.drewN_ _).be | with_reducible exact BX.out.drew_.drew_.be | with_reducible exact BX.out.drew_.drew_.drew_.be)⟩)
set_option maxRecDepth 100000 in
set_option maxHeartbeats 4000000 in
theorem walk_le (h now a b : Int) (w : World) (hN : NamesAt w) (h0 : -9223372036854775808 ≤ h) (h1 : h ≤ 9223372036854775807) (now0 : -9223372036854775808 ≤ now) (now1 : now ≤ 9223372036854775807) (a0 : -9223372036854775808 ≤ a) (a1 : a ≤ 9223372036854775807) (b0 : -9223372036854775808 ≤ b) (b1 : b ≤ 9223372036854775807) (hab : ¬ b < a) :
    Calls Tryd.prog 7 #[.int .i64 h, .int .i64 now, .int .i64 a, .int .i64 b] w fun e w' => e = .returned (.bool true) ∧ Below w.heap.size w w' := by
  have HN := Lib.hid hN
  clear hN
  obtain ⟨n, hn⟩ : ∃ n : Int, 1 + (0 : Int) % 8 = n := ⟨_, rfl⟩
  have n0 : 1 ≤ n := by omega
  have n1 : n ≤ 8 := by omega
  have hfw := fun wq => few_n (0 : Int) n h (by omega) hn wq
  have HFW := Lib.hid hfw
  clear hfw hn
  go_enter Tryd.func7, Tryd.ntmps7
  go_wp2_with fail
  refine (awake14 _ HN.out).mono ?_
  rintro e x1 ⟨rfl, hb⟩
  have bx : Bxs w x1 [] := (Bxs.nil_ w).below hb
  clear hb
  have BX := Lib.hid bx
  clear bx
  go_wp2_with fail
  refine (HFW.out _).mono ?_
  rintro e x2 ⟨rfl, hb⟩
  have bx : Bxs w x2 [] := (BX.out).below hb
  clear hb BX
  have BX := Lib.hid bx
  clear bx
  go_upto_region 4 with fail
  refine wp_worldx (fun wx => Bxs w wx [(x2.heap.size, 25, [.int .i64 n, .int .i64 64, .int .i64 5, .int .i64 100, .int .i64 50, .int .i64 10, .int .i64 20, .int .i64 h, .int .i64 2147483648, .int .i64 4294967296, .int .i64 1073741824, .int .i64 0, .int .i64 1099511627776, .int .i64 64, .int .i64 4, .int .i64 4])]) ((BX.out).alloc_ _ _ (by simp)) ?_
  clear BX
  rintro x3 bx
  have BX := Lib.hid bx
  clear bx
  have p0_0 : x3.cell? ⟨x2.heap.size, 0, none⟩ = some (.int .i64 n) := (BX.out.bl 0 _ _ _ rfl).val rfl
  have p0_1 : x3.cell? ⟨x2.heap.size, 1, none⟩ = some (.int .i64 64) := (BX.out.bl 0 _ _ _ rfl).val rfl
  have p0_2 : x3.cell? ⟨x2.heap.size, 2, none⟩ = some (.int .i64 5) := (BX.out.bl 0 _ _ _ rfl).val rfl
  have p0_3 : x3.cell? ⟨x2.heap.size, 3, none⟩ = some (.int .i64 100) := (BX.out.bl 0 _ _ _ rfl).val rfl
  have p0_4 : x3.cell? ⟨x2.heap.size, 4, none⟩ = some (.int .i64 50) := (BX.out.bl 0 _ _ _ rfl).val rfl
  have p0_5 : x3.cell? ⟨x2.heap.size, 5, none⟩ = some (.int .i64 10) := (BX.out.bl 0 _ _ _ rfl).val rfl
  have p0_6 : x3.cell? ⟨x2.heap.size, 6, none⟩ = some (.int .i64 20) := (BX.out.bl 0 _ _ _ rfl).val rfl
  have p0_7 : x3.cell? ⟨x2.heap.size, 7, none⟩ = some (.int .i64 h) := (BX.out.bl 0 _ _ _ rfl).val rfl
  have p0_8 : x3.cell? ⟨x2.heap.size, 8, none⟩ = some (.int .i64 2147483648) := (BX.out.bl 0 _ _ _ rfl).val rfl
  have p0_9 : x3.cell? ⟨x2.heap.size, 9, none⟩ = some (.int .i64 4294967296) := (BX.out.bl 0 _ _ _ rfl).val rfl
  have p0_10 : x3.cell? ⟨x2.heap.size, 10, none⟩ = some (.int .i64 1073741824) := (BX.out.bl 0 _ _ _ rfl).val rfl
  have p0_11 : x3.cell? ⟨x2.heap.size, 11, none⟩ = some (.int .i64 0) := (BX.out.bl 0 _ _ _ rfl).val rfl
  have p0_12 : x3.cell? ⟨x2.heap.size, 12, none⟩ = some (.int .i64 1099511627776) := (BX.out.bl 0 _ _ _ rfl).val rfl
  have p0_13 : x3.cell? ⟨x2.heap.size, 13, none⟩ = some (.int .i64 64) := (BX.out.bl 0 _ _ _ rfl).val rfl
  have p0_14 : x3.cell? ⟨x2.heap.size, 14, none⟩ = some (.int .i64 4) := (BX.out.bl 0 _ _ _ rfl).val rfl
  have p0_15 : x3.cell? ⟨x2.heap.size, 15, none⟩ = some (.int .i64 4) := (BX.out.bl 0 _ _ _ rfl).val rfl
  have z0 : ∀ k, x3.frozen? ⟨x2.heap.size, k, none⟩ = false := (BX.out.bl 0 _ _ _ rfl).free
  have y0 : x2.heap.size < x3.heap.size := (BX.out.bl 0 _ _ _ rfl).size
  have hle : a ≤ b := by omega
  obtain ⟨X, hX⟩ : ∃ X, deadG h now a = X := ⟨_, rfl⟩
  obtain ⟨Y, hY⟩ : ∃ Y, deadG h now b = Y := ⟨_, rfl⟩
  obtain ⟨Z, hZ⟩ : ∃ Z, deadG h now 9223372036854775807 = Z := ⟨_, rfl⟩
  have hF : (X ≤ a ∧ X ≤ Z ∧ X ≤ Y ∧ (X = a ∨ X = Z) ∧ deadG h now X = X) := by
    have hm := sat_up (now + h)
    rw [← hX, ← hY, ← hZ]
    unfold deadG
    generalize sat (now + h) = s at hm ⊢
    refine ⟨by split <;> omega, by split <;> split <;> omega, by split <;> split <;> omega, by split <;> split <;> omega, ?_⟩
    by_cases hc : s < a
    · simp only [if_pos hc]; split <;> omega
    · simp only [if_neg hc]
  have k1 := fun wq => dead_few n h now a now0 now1 h0 h1 wq
  have k2 := fun wq => dead_few n h now b now0 now1 h0 h1 wq
  have k3 := fun wq => rdead_any h now 9223372036854775807 now0 now1 h0 h1 wq
  have k4 := fun wq => dead_few n h now X now0 now1 h0 h1 wq
  rw [hX] at k1
  rw [hY] at k2
  rw [hZ] at k3
  rw [hF.2.2.2.2] at k4
  have K1 := Lib.hid k1
  have K2 := Lib.hid k2
  have K3 := Lib.hid k3
  have K4 := Lib.hid k4
  obtain ⟨f1, f2, f3, f4, -⟩ := hF
  have F4 := Lib.hid f4
  clear hX hY hZ k1 k2 k3 k4 f4
  go_upto_region 6 with fail
  go_cut [10, 11] from 22 to 77 (fun s10 s11 wx => s10 = .int .i64 X ∧ s11 = .int .i64 Y ∧ Bxs w wx [(x2.heap.size, 25, [.int .i64 n, .int .i64 64, .int .i64 5, .int .i64 100, .int .i64 50, .int .i64 10, .int .i64 20, .int .i64 h, .int .i64 2147483648, .int .i64 4294967296, .int .i64 1073741824, .int .i64 0, .int .i64 1099511627776, .int .i64 64, .int .i64 4, .int .i64 4])])
  case first =>
    go_region_held3 (fun w' => w'.cell? ⟨x2.heap.size, 0, none⟩ = some (.int .i64 n) ∧ w'.cell? ⟨x2.heap.size, 1, none⟩ = some (.int .i64 64) ∧ w'.cell? ⟨x2.heap.size, 2, none⟩ = some (.int .i64 5) ∧ w'.cell? ⟨x2.heap.size, 3, none⟩ = some (.int .i64 100) ∧ w'.cell? ⟨x2.heap.size, 4, none⟩ = some (.int .i64 50) ∧ w'.cell? ⟨x2.heap.size, 5, none⟩ = some (.int .i64 10) ∧ w'.cell? ⟨x2.heap.size, 6, none⟩ = some (.int .i64 20) ∧ w'.cell? ⟨x2.heap.size, 7, none⟩ = some (.int .i64 h) ∧ w'.cell? ⟨x2.heap.size, 8, none⟩ = some (.int .i64 2147483648) ∧ w'.cell? ⟨x2.heap.size, 9, none⟩ = some (.int .i64 4294967296) ∧ w'.cell? ⟨x2.heap.size, 10, none⟩ = some (.int .i64 1073741824) ∧ w'.cell? ⟨x2.heap.size, 11, none⟩ = some (.int .i64 0) ∧ w'.cell? ⟨x2.heap.size, 12, none⟩ = some (.int .i64 1099511627776) ∧ w'.cell? ⟨x2.heap.size, 13, none⟩ = some (.int .i64 64) ∧ w'.cell? ⟨x2.heap.size, 14, none⟩ = some (.int .i64 4) ∧ w'.cell? ⟨x2.heap.size, 15, none⟩ = some (.int .i64 4)) ((repeat (first | with_reducible assumption | refine ⟨?_, ?_⟩ | with_reducible refine kdrew ?_ | with_reducible refine cell_later ha ?_ | with_reducible refine cell_later hb ?_ | with_reducible refine cell_later hc ?_))) (first | (go_at_call 14; first | ((with_reducible refine (K1.out _).mono ?_); rintro e wa ⟨rfl, ha⟩; replace BX := Lib.hid (show Bxs w wa [(x2.heap.size, 25, [.int .i64 n, .int .i64 64, .int .i64 5, .int .i64 100, .int .i64 50, .int .i64 10, .int .i64 20, .int .i64 h, .int .i64 2147483648, .int .i64 4294967296, .int .i64 1073741824, .int .i64 0, .int .i64 1099511627776, .int .i64 64, .int .i64 4, .int .i64 4])] from by first | with_reducible exact BX.out.below ha | with_reducible exact BX.out.drew_.below ha | with_reducible exact (BX.out.drewN_ _).below ha | with_reducible exact BX.out.drew_.drew_.below ha | with_reducible exact BX.out.drew_.drew_.drew_.below ha)) | ((with_reducible refine (K2.out _).mono ?_); rintro e wb ⟨rfl, hb⟩; replace BX := Lib.hid (show Bxs w wb [(x2.heap.size, 25, [.int .i64 n, .int .i64 64, .int .i64 5, .int .i64 100, .int .i64 50, .int .i64 10, .int .i64 20, .int .i64 h, .int .i64 2147483648, .int .i64 4294967296, .int .i64 1073741824, .int .i64 0, .int .i64 1099511627776, .int .i64 64, .int .i64 4, .int .i64 4])] from by first | with_reducible exact BX.out.below hb | with_reducible exact BX.out.drew_.below hb | with_reducible exact (BX.out.drewN_ _).below hb | with_reducible exact BX.out.drew_.drew_.below hb | with_reducible exact BX.out.drew_.drew_.drew_.below hb))))
    all_goals (go_wp2_with fail; go_meet; exact ⟨rfl, rfl, by first | with_reducible exact BX.out | with_reducible exact BX.out.drew_ | with_reducible exact BX.out.drewN_ _⟩)
  case rest =>
    clear p0_0 p0_1 p0_2 p0_3 p0_4 p0_5 p0_6 p0_7 p0_8 p0_9 p0_10 p0_11 p0_12 p0_13 p0_14 p0_15 z0 y0
    clear BX
    obtain ⟨rfl, rfl, bx⟩ := hcut
    have BX := Lib.hid bx
    clear bx
    have p0_0 : wc.cell? ⟨x2.heap.size, 0, none⟩ = some (.int .i64 n) := (BX.out.bl 0 _ _ _ rfl).val rfl
    have p0_1 : wc.cell? ⟨x2.heap.size, 1, none⟩ = some (.int .i64 64) := (BX.out.bl 0 _ _ _ rfl).val rfl
    have p0_2 : wc.cell? ⟨x2.heap.size, 2, none⟩ = some (.int .i64 5) := (BX.out.bl 0 _ _ _ rfl).val rfl
    have p0_3 : wc.cell? ⟨x2.heap.size, 3, none⟩ = some (.int .i64 100) := (BX.out.bl 0 _ _ _ rfl).val rfl
    have p0_4 : wc.cell? ⟨x2.heap.size, 4, none⟩ = some (.int .i64 50) := (BX.out.bl 0 _ _ _ rfl).val rfl
    have p0_5 : wc.cell? ⟨x2.heap.size, 5, none⟩ = some (.int .i64 10) := (BX.out.bl 0 _ _ _ rfl).val rfl
    have p0_6 : wc.cell? ⟨x2.heap.size, 6, none⟩ = some (.int .i64 20) := (BX.out.bl 0 _ _ _ rfl).val rfl
    have p0_7 : wc.cell? ⟨x2.heap.size, 7, none⟩ = some (.int .i64 h) := (BX.out.bl 0 _ _ _ rfl).val rfl
    have p0_8 : wc.cell? ⟨x2.heap.size, 8, none⟩ = some (.int .i64 2147483648) := (BX.out.bl 0 _ _ _ rfl).val rfl
    have p0_9 : wc.cell? ⟨x2.heap.size, 9, none⟩ = some (.int .i64 4294967296) := (BX.out.bl 0 _ _ _ rfl).val rfl
    have p0_10 : wc.cell? ⟨x2.heap.size, 10, none⟩ = some (.int .i64 1073741824) := (BX.out.bl 0 _ _ _ rfl).val rfl
    have p0_11 : wc.cell? ⟨x2.heap.size, 11, none⟩ = some (.int .i64 0) := (BX.out.bl 0 _ _ _ rfl).val rfl
    have p0_12 : wc.cell? ⟨x2.heap.size, 12, none⟩ = some (.int .i64 1099511627776) := (BX.out.bl 0 _ _ _ rfl).val rfl
    have p0_13 : wc.cell? ⟨x2.heap.size, 13, none⟩ = some (.int .i64 64) := (BX.out.bl 0 _ _ _ rfl).val rfl
    have p0_14 : wc.cell? ⟨x2.heap.size, 14, none⟩ = some (.int .i64 4) := (BX.out.bl 0 _ _ _ rfl).val rfl
    have p0_15 : wc.cell? ⟨x2.heap.size, 15, none⟩ = some (.int .i64 4) := (BX.out.bl 0 _ _ _ rfl).val rfl
    have z0 : ∀ k, wc.frozen? ⟨x2.heap.size, k, none⟩ = false := (BX.out.bl 0 _ _ _ rfl).free
    have y0 : x2.heap.size < wc.heap.size := (BX.out.bl 0 _ _ _ rfl).size
    go_wp2_with fail
    refine (K3.out _).mono ?_
    rintro e x4 ⟨rfl, hb⟩
    have bx : Bxs w x4 [(x2.heap.size, 25, [.int .i64 n, .int .i64 64, .int .i64 5, .int .i64 100, .int .i64 50, .int .i64 10, .int .i64 20, .int .i64 h, .int .i64 2147483648, .int .i64 4294967296, .int .i64 1073741824, .int .i64 0, .int .i64 1099511627776, .int .i64 64, .int .i64 4, .int .i64 4])] := (BX.out).below hb
    clear p0_0 p0_1 p0_2 p0_3 p0_4 p0_5 p0_6 p0_7 p0_8 p0_9 p0_10 p0_11 p0_12 p0_13 p0_14 p0_15 z0 y0
    clear hb BX
    have BX := Lib.hid bx
    clear bx
    have p0_0 : x4.cell? ⟨x2.heap.size, 0, none⟩ = some (.int .i64 n) := (BX.out.bl 0 _ _ _ rfl).val rfl
    have p0_1 : x4.cell? ⟨x2.heap.size, 1, none⟩ = some (.int .i64 64) := (BX.out.bl 0 _ _ _ rfl).val rfl
    have p0_2 : x4.cell? ⟨x2.heap.size, 2, none⟩ = some (.int .i64 5) := (BX.out.bl 0 _ _ _ rfl).val rfl
    have p0_3 : x4.cell? ⟨x2.heap.size, 3, none⟩ = some (.int .i64 100) := (BX.out.bl 0 _ _ _ rfl).val rfl
    have p0_4 : x4.cell? ⟨x2.heap.size, 4, none⟩ = some (.int .i64 50) := (BX.out.bl 0 _ _ _ rfl).val rfl
    have p0_5 : x4.cell? ⟨x2.heap.size, 5, none⟩ = some (.int .i64 10) := (BX.out.bl 0 _ _ _ rfl).val rfl
    have p0_6 : x4.cell? ⟨x2.heap.size, 6, none⟩ = some (.int .i64 20) := (BX.out.bl 0 _ _ _ rfl).val rfl
    have p0_7 : x4.cell? ⟨x2.heap.size, 7, none⟩ = some (.int .i64 h) := (BX.out.bl 0 _ _ _ rfl).val rfl
    have p0_8 : x4.cell? ⟨x2.heap.size, 8, none⟩ = some (.int .i64 2147483648) := (BX.out.bl 0 _ _ _ rfl).val rfl
    have p0_9 : x4.cell? ⟨x2.heap.size, 9, none⟩ = some (.int .i64 4294967296) := (BX.out.bl 0 _ _ _ rfl).val rfl
    have p0_10 : x4.cell? ⟨x2.heap.size, 10, none⟩ = some (.int .i64 1073741824) := (BX.out.bl 0 _ _ _ rfl).val rfl
    have p0_11 : x4.cell? ⟨x2.heap.size, 11, none⟩ = some (.int .i64 0) := (BX.out.bl 0 _ _ _ rfl).val rfl
    have p0_12 : x4.cell? ⟨x2.heap.size, 12, none⟩ = some (.int .i64 1099511627776) := (BX.out.bl 0 _ _ _ rfl).val rfl
    have p0_13 : x4.cell? ⟨x2.heap.size, 13, none⟩ = some (.int .i64 64) := (BX.out.bl 0 _ _ _ rfl).val rfl
    have p0_14 : x4.cell? ⟨x2.heap.size, 14, none⟩ = some (.int .i64 4) := (BX.out.bl 0 _ _ _ rfl).val rfl
    have p0_15 : x4.cell? ⟨x2.heap.size, 15, none⟩ = some (.int .i64 4) := (BX.out.bl 0 _ _ _ rfl).val rfl
    have z0 : ∀ k, x4.frozen? ⟨x2.heap.size, k, none⟩ = false := (BX.out.bl 0 _ _ _ rfl).free
    have y0 : x2.heap.size < x4.heap.size := (BX.out.bl 0 _ _ _ rfl).size
    by_cases hxa : X = a
    ·
      subst hxa
      have HFIN := Lib.hid (show (decide (X ≤ now) == (decide (X ≤ now) || decide (Z ≤ now))) = true from by (by_cases p1 : X ≤ now) <;> (by_cases p2 : X ≤ now) <;> (by_cases p3 : Z ≤ now) <;> (first | (exfalso; omega) | simp [p1, p2, p3]))
      go_wp2_with fail
      refine (K4.out _).mono ?_
      rintro e wz ⟨rfl, hz⟩
      replace BX := Lib.hid (show Bxs w wz [(x2.heap.size, 25, [.int .i64 n, .int .i64 64, .int .i64 5, .int .i64 100, .int .i64 50, .int .i64 10, .int .i64 20, .int .i64 h, .int .i64 2147483648, .int .i64 4294967296, .int .i64 1073741824, .int .i64 0, .int .i64 1099511627776, .int .i64 64, .int .i64 4, .int .i64 4])] from by first | with_reducible exact BX.out.below hz | with_reducible exact BX.out.drew_.below hz | with_reducible exact (BX.out.drewN_ _).below hz | with_reducible exact BX.out.drew_.drew_.below hz | with_reducible exact BX.out.drew_.drew_.drew_.below hz)
      clear hz
      go_wp2_with fail
      all_goals (go_ret; exact ⟨ret_bool (by first | rfl | exact HFIN.out | (simp only [decide_eq_true_eq]; omega) | (simp [*]; done) | (simp [*]; omega)), (by first | with_reducible exact BX.out.be | with_reducible exact BX.out.drew_.be | with_reducible exact (BX.out.drewN_ _).be | with_reducible exact BX.out.drew_.drew_.be | with_reducible exact BX.out.drew_.drew_.drew_.be)⟩)
    ·
      have hxz : X = Z := by have := F4.out; omega
      subst hxz
      have hxb : (X == a) = false := by simp [hxa]
      have HFIN := Lib.hid (show (decide (X ≤ now) == (decide (a ≤ now) || decide (X ≤ now))) = true from by (by_cases p1 : X ≤ now) <;> (by_cases p2 : a ≤ now) <;> (by_cases p3 : X ≤ now) <;> (first | (exfalso; omega) | simp [p1, p2, p3]))
      go_wp2_with fail
      refine (K4.out _).mono ?_
      rintro e wz ⟨rfl, hz⟩
      replace BX := Lib.hid (show Bxs w wz [(x2.heap.size, 25, [.int .i64 n, .int .i64 64, .int .i64 5, .int .i64 100, .int .i64 50, .int .i64 10, .int .i64 20, .int .i64 h, .int .i64 2147483648, .int .i64 4294967296, .int .i64 1073741824, .int .i64 0, .int .i64 1099511627776, .int .i64 64, .int .i64 4, .int .i64 4])] from by first | with_reducible exact BX.out.below hz | with_reducible exact BX.out.drew_.below hz | with_reducible exact (BX.out.drewN_ _).below hz | with_reducible exact BX.out.drew_.drew_.below hz | with_reducible exact BX.out.drew_.drew_.drew_.below hz)
      clear hz
      go_wp2_with fail
      all_goals (go_ret; exact ⟨ret_bool (by first | rfl | exact HFIN.out | (simp only [decide_eq_true_eq]; omega) | (simp [*]; done) | (simp [*]; omega)), (by first | with_reducible exact BX.out.be | with_reducible exact BX.out.drew_.be | with_reducible exact (BX.out.drewN_ _).be | with_reducible exact BX.out.drew_.drew_.be | with_reducible exact BX.out.drew_.drew_.drew_.be)⟩)
theorem walk (h now a b : Int) (w : World) (hN : NamesAt w) (h0 : -9223372036854775808 ≤ h) (h1 : h ≤ 9223372036854775807) (now0 : -9223372036854775808 ≤ now) (now1 : now ≤ 9223372036854775807) (a0 : -9223372036854775808 ≤ a) (a1 : a ≤ 9223372036854775807) (b0 : -9223372036854775808 ≤ b) (b1 : b ≤ 9223372036854775807) :
    Calls Tryd.prog 7 #[.int .i64 h, .int .i64 now, .int .i64 a, .int .i64 b] w fun e w' => e = .returned (.bool true) ∧ Below w.heap.size w w' := by
  by_cases hab : b < a
  · exact walk_gt h now a b w hN h0 h1 now0 now1 a0 a1 b0 b1 hab
  · exact walk_le h now a b w hN h0 h1 now0 now1 a0 a1 b0 b1 hab
set_option maxRecDepth 100000 in
theorem lifted (os : Os) (started : os.Started) (H : Type) (enc : TypeId × Value → H) :
    ReturnsInHanded {} Tryd.checked os 7 .any (fun w args => (Rows.gateHorizonsSpec.pre enc Tryd.prog Tryd.f7 Rows.gateHorizonsRow.domain false w args ∧ laidMetH Tryd.prog [("overfall/gate.names", Rows.laid_overfall_gate_names)] w) ∧ sizedMet enc Tryd.prog Tryd.f7 (OpenSpec.ofChange Rows.gateHorizonsSpec) false w args)
      (Rows.gateHorizonsSpec.post enc Tryd.prog Tryd.f7 false true false false) := by
  refine returnsInHanded_of_change_and (C := Tryd.checked) (X := fun w _ => laidMetH Tryd.prog [("overfall/gate.names", Rows.laid_overfall_gate_names)] w) (fun _ _ _ hh h => h.of_heap hh) own started (by kernel_rfl) Tryd.func7
    (ChangeSpec.witness_shaped (enc := enc) (C := Tryd.checked) (os := os) (X := fun w _ => laidMetH Tryd.prog [("overfall/gate.names", Rows.laid_overfall_gate_names)] w) false (World.laidAll Tryd.prog os [("overfall/gate.names", Rows.laid_overfall_gate_names)]) #[.int .i64 0, .int .i64 0, .int .i64 0, .int .i64 0] 8 (World.laidAll_os _ _ _)
      (World.shaped_of_ZipB (by kernel_rfl) (by kernel_rfl)) (by kernel_rfl) (by kernel_rfl) (by kernel_rfl)
      (by rw [MakeChecks.laidMetH_plain _ _ _ (by kernel_rfl)]; exact laidMet_laidAll _ (by kernel_rfl) (by kernel_rfl))) ?_
  intro W base args ds gs before hval0 hW hcnd _ hL _
  have hLO := names_of_laid hL
  have hval : ∀ (j : Nat) t v, Tryd.f7.params[j]? = some t → args[j]? = some v → Value.okWide Tryd.prog W .any base t v := hval0
  have hW' := hW
  obtain ⟨p, q, hA0, hV, rfl, hfz, hnd⟩ := hW
  have hA : DataW.TrodAll enc Tryd.prog W 0 (fun _ => true) true Tryd.f7.params.toList args.toList ds p := hA0
  rw [Tryd.params7] at hA hval
  obtain ⟨v0, vs0, d0, ds0, p0, q0, hargs, rfl, rfl, h0, r0⟩ := trodAll_cons hA
  obtain ⟨v1, vs1, d1, ds1, p1, q1, rfl, rfl, rfl, h1, r1⟩ := trodAll_cons r0
  obtain ⟨v2, vs2, d2, ds2, p2, q2, rfl, rfl, rfl, h2, r2⟩ := trodAll_cons r1
  obtain ⟨v3, vs3, d3, ds3, p3, q3, rfl, rfl, rfl, h3, r3⟩ := trodAll_cons r2
  obtain ⟨rfl, rfl, rfl⟩ := trodAll_nil r3
  obtain rfl : args = #[v0, v1, v2, v3] := by cases args; simp_all
  obtain ⟨rfl, rfl⟩ := trodVars_none hV
  obtain ⟨a0, rfl, rfl, rfl, w0⟩ := open_int Tryd.underlying2 (hval 0 _ v0 rfl rfl) h0
  obtain ⟨a1, rfl, rfl, rfl, w1⟩ := open_int Tryd.underlying2 (hval 1 _ v1 rfl rfl) h1
  obtain ⟨a2, rfl, rfl, rfl, w2⟩ := open_int Tryd.underlying2 (hval 2 _ v2 rfl rfl) h2
  obtain ⟨a3, rfl, rfl, rfl, w3⟩ := open_int Tryd.underlying2 (hval 3 _ v3 rfl rfl) h3
  clear hA0 hval0
  obtain ⟨l0, m0⟩ := wf_i64 w0
  obtain ⟨l1, m1⟩ := wf_i64 w1
  obtain ⟨l2, m2⟩ := wf_i64 w2
  obtain ⟨l3, m3⟩ := wf_i64 w3
  refine (walk a0 a1 a2 a3 W hLO l0 m0 l1 m1 l2 m2 l3 m3).mono fun e W' ⟨he, hg⟩ => ?_
  subst he
  exact ⟨_, rfl, post_of_law hW' rfl laidOut reads rfl Tryd.underlying4 rfl rfl rfl hg⟩
theorem over : Rows.gateHorizonsRow.holds Tryd.pinned (OpenSpec.ofChange Rows.gateHorizonsSpec) :=
  OpenClaim.holds_of_wide 7 Tryd.f7 rfl rfl rfl rfl rfl rfl rfl ⟨rfl, rfl, rfl, rfl, rfl⟩ rfl rfl rfl rfl rfl (by kernel_rfl) Tryd.func7 (by kernel_rfl)
    (of_decide_eq_true (by kernel_rfl)) (by unfold Func.isWrapper; first | (rw [if_pos (by decide +kernel)]; kernel_rfl) | (rw [if_neg (by decide +kernel)]; exact ⟨rfl, rfl⟩))
    (fun os started H enc _ => lifted os started H enc)
theorem proved : Rows.GateHorizonsCardSaid :=
  Claim7.holds_tied_plain_at .later [] [.data] true Rows.gateHorizonsCard.stood.harness false over (fun _ h => by cases h) (by kernel_rfl) (fun _ h => by cases h) gateHorizons_row_tie rfl ⟨rfl, rfl⟩ (by kernel_rfl) rfl
    (fun f fn hf hfn => by
      obtain rfl : f = 7 := Option.some.inj ((show Tryd.prog.funcNamed "overfall/overfalllaw14.GateHorizons" = some 7 by kernel_rfl).symm.trans hf) |>.symm
      obtain rfl : fn = Tryd.f7 := (Option.some.inj (Tryd.func7.symm.trans hfn)).symm
      exact ⟨by kernel_rfl, fun j t ht => by
        have hm : t ∈ Tryd.f7.params.toList := by simpa using Array.mem_of_getElem? ht
        have hall : (Tryd.f7.params.toList.all fun u => !Tryd.prog.wantsStandIn u) = true := by kernel_rfl
        exact (show Tryd.prog.wantsStandIn t = false by simpa using List.all_eq_true.1 hall t hm)⟩)
    (by kernel_rfl)
end Go.Proofs.YtgocnliapkokbaaDoor.gateHorizons
