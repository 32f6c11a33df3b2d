/- GateEnds is true of every input, and changes nothing that it was given. -/
import Derived.Test.YtgocnliapkokbaaDoorGlaid
import Derived.Test.YtgocnliapkokbaaDoorRowb
import Derived.Test.YtgocnliapkokbaaDoorRows
import Derived.WalkKit
import Derived.ProofKit
import Derived.OpenShut
import Derived.Deep.DeepCutAuto
import Derived.Deep.RegionHeld3
import Derived.Test.YtgocnliapkokbaaDoorTie
import Derived.Test.YtgocnliapkokbaaDoorCards
import Derived.LaidMore
import Derived.Lay
import Derived.SevenTiedAt
import Derived.Stop.Joined
namespace Go.Proofs.YtgocnliapkokbaaDoor.gateEnds
open Go.ChangeShapes Go.WideShapes Go.ChangeAt Go.RowKit
set_option linter.unusedVariables false
theorem own : ownKnob Tryd.prog.godebug = none := by kernel_rfl
theorem laidOut : laidOutB Tryd.prog = true := by kernel_rfl
theorem reads : (Tryd.f5.params.toList.all fun t => Tryd.prog.readableRec t && decide (t < Tryd.prog.types.size)) = true := by kernel_rfl
open Kn
set_option linter.unusedSimpArgs false
set_option maxRecDepth 100000 in
set_option maxHeartbeats 4000000 in
theorem walk (t a k now d b : Int) (w : World) (hN : NamesAt w) (t0 : 0 ≤ t) (t1 : t ≤ 255) (a0 : 0 ≤ a) (a1 : a ≤ 255) (k0 : 0 ≤ k) (k1 : k ≤ 255) (now0 : -9223372036854775808 ≤ now) (now1 : now ≤ 9223372036854775807) (d0 : -9223372036854775808 ≤ d) (d1 : d ≤ 9223372036854775807) (b0 : 0 ≤ b) (b1 : b ≤ 4294967295) :
    Calls Tryd.prog 5 #[.int .u8 t, .int .u8 a, .int .u8 k, .int .i64 now, .int .i64 d, .int .u32 b] w fun e w' => e = .returned (.bool true) ∧ Below w.heap.size w w' := by
  have HN := Lib.hid hN
  clear hN
  obtain ⟨n, hn⟩ : ∃ n : Int, 1 + t % 8 = n := ⟨_, rfl⟩
  have n0 : 1 ≤ n := by omega
  have n1 : n ≤ 8 := by omega
  have hfw := fun wq => few_n t n 1000 (by omega) hn wq
  have HFW := Lib.hid hfw
  clear hfw hn
  obtain ⟨A, hA⟩ : ∃ A, a % n = A := ⟨_, rfl⟩
  obtain ⟨X, hX⟩ : ∃ X, k % 128 = X := ⟨_, rfl⟩
  have A0 : 0 ≤ A := by rw [← hA]; exact Int.emod_nonneg _ (by omega)
  have A1 : A < n := by rw [← hA]; exact Int.emod_lt_of_pos _ (by omega)
  have X0 : 0 ≤ X := by omega
  have X1 : X < 128 := by omega
  have g1 : a.tmod n = A := by rw [Int.tmod_eq_emod_of_nonneg a0]; exact hA
  have g2 : k.tmod 128 = X := by rw [Int.tmod_eq_emod_of_nonneg k0]; exact hX
  have g3 : IntKind.u8.wrap X = X := by have : IntKind.u8.wrap X = X % 256 := by simp [IntKind.wrap, IntKind.signed, IntKind.bits]
                                        rw [this]; omega
  have g4 : IntKind.i64.wrap X = X := by rw [IntKind.wrap_i64]; omega
  have g5 : IntKind.i64.wrap A = A := by rw [IntKind.wrap_i64]; omega
  have g6 : IntKind.i64.wrap a = a := by rw [IntKind.wrap_i64]; omega
  have g7 : ¬ n = 0 := by omega
  have g8 : IntKind.i64.wrap b = b := by rw [IntKind.wrap_i64]; omega
  have g9 : IntKind.i64.wrap (-b) = -b := by rw [IntKind.wrap_i64]; omega
  have g10 : IntKind.i64.wrap (n * 128 + b) = n * 128 + b := by rw [IntKind.wrap_i64]; omega
  have hr : rightG n A X = true := rightG_iff.2 ⟨A0, A1, X0, X1⟩
  have j1 : judgeG n (-b) now A X d = if d ≤ now then 3 else 0 := by
    unfold judgeG edgeG
    rw [if_neg (by rw [hr]; simp), sat_is _ (by omega) (by omega)]
    split
    · rfl
    · rw [if_neg (by omega)]
  have j2 : judgeG n (n * 128 + b) now A X d = if d ≤ now then 3 else 4 := by
    unfold judgeG edgeG
    rw [if_neg (by rw [hr]; simp), sat_is _ (by omega) (by omega)]
    split
    · rfl
    · rw [if_pos (by omega)]
  have k1 := fun wq => judge_few n 1000 (-b) now A X d (by omega) (by omega) (by omega) wq
  have k2 := fun wq => judge_few n 1000 (n * 128 + b) now A X d (by omega) (by omega) (by omega) wq
  have k3 := fun wq => most_few n 1000 (by omega) (by omega) wq
  rw [j1] at k1
  rw [j2] at k2
  have K1 := Lib.hid k1
  have K2 := Lib.hid k2
  have K3 := Lib.hid k3
  clear hA hX hr j1 j2 k1 k2 k3
  go_enter Tryd.func5, Tryd.ntmps5
  go_wp2_with fail
  refine (awake14 _ HN.out).mono ?_
  rintro e x1 ⟨rfl, hb⟩
  have bx : Bxs w x1 [] := (Bxs.nil_ w).below hb
  clear hb
  have BX := Lib.hid bx
  clear bx
  go_wp2_with fail
  refine (HFW.out _).mono ?_
  rintro e x2 ⟨rfl, hb⟩
  have bx : Bxs w x2 [] := (BX.out).below hb
  clear hb BX
  have BX := Lib.hid bx
  clear bx
  go_upto_region 4 with fail
  refine wp_worldx (fun wx => Bxs w wx [(x2.heap.size, 25, [.int .i64 n, .int .i64 64, .int .i64 5, .int .i64 100, .int .i64 50, .int .i64 10, .int .i64 20, .int .i64 1000, .int .i64 2147483648, .int .i64 4294967296, .int .i64 1073741824, .int .i64 0, .int .i64 1099511627776, .int .i64 64, .int .i64 4, .int .i64 4])]) ((BX.out).alloc_ _ _ (by simp)) ?_
  clear BX
  rintro x3 bx
  have BX := Lib.hid bx
  clear bx
  have p0_0 : x3.cell? ⟨x2.heap.size, 0, none⟩ = some (.int .i64 n) := (BX.out.bl 0 _ _ _ rfl).val rfl
  have p0_1 : x3.cell? ⟨x2.heap.size, 1, none⟩ = some (.int .i64 64) := (BX.out.bl 0 _ _ _ rfl).val rfl
  have p0_2 : x3.cell? ⟨x2.heap.size, 2, none⟩ = some (.int .i64 5) := (BX.out.bl 0 _ _ _ rfl).val rfl
  have p0_3 : x3.cell? ⟨x2.heap.size, 3, none⟩ = some (.int .i64 100) := (BX.out.bl 0 _ _ _ rfl).val rfl
  have p0_4 : x3.cell? ⟨x2.heap.size, 4, none⟩ = some (.int .i64 50) := (BX.out.bl 0 _ _ _ rfl).val rfl
  have p0_5 : x3.cell? ⟨x2.heap.size, 5, none⟩ = some (.int .i64 10) := (BX.out.bl 0 _ _ _ rfl).val rfl
  have p0_6 : x3.cell? ⟨x2.heap.size, 6, none⟩ = some (.int .i64 20) := (BX.out.bl 0 _ _ _ rfl).val rfl
  have p0_7 : x3.cell? ⟨x2.heap.size, 7, none⟩ = some (.int .i64 1000) := (BX.out.bl 0 _ _ _ rfl).val rfl
  have p0_8 : x3.cell? ⟨x2.heap.size, 8, none⟩ = some (.int .i64 2147483648) := (BX.out.bl 0 _ _ _ rfl).val rfl
  have p0_9 : x3.cell? ⟨x2.heap.size, 9, none⟩ = some (.int .i64 4294967296) := (BX.out.bl 0 _ _ _ rfl).val rfl
  have p0_10 : x3.cell? ⟨x2.heap.size, 10, none⟩ = some (.int .i64 1073741824) := (BX.out.bl 0 _ _ _ rfl).val rfl
  have p0_11 : x3.cell? ⟨x2.heap.size, 11, none⟩ = some (.int .i64 0) := (BX.out.bl 0 _ _ _ rfl).val rfl
  have p0_12 : x3.cell? ⟨x2.heap.size, 12, none⟩ = some (.int .i64 1099511627776) := (BX.out.bl 0 _ _ _ rfl).val rfl
  have p0_13 : x3.cell? ⟨x2.heap.size, 13, none⟩ = some (.int .i64 64) := (BX.out.bl 0 _ _ _ rfl).val rfl
  have p0_14 : x3.cell? ⟨x2.heap.size, 14, none⟩ = some (.int .i64 4) := (BX.out.bl 0 _ _ _ rfl).val rfl
  have p0_15 : x3.cell? ⟨x2.heap.size, 15, none⟩ = some (.int .i64 4) := (BX.out.bl 0 _ _ _ rfl).val rfl
  have z0 : ∀ k, x3.frozen? ⟨x2.heap.size, k, none⟩ = false := (BX.out.bl 0 _ _ _ rfl).free
  have y0 : x2.heap.size < x3.heap.size := (BX.out.bl 0 _ _ _ rfl).size
  by_cases hd : d ≤ now
  ·
    have L1 := K1.out
    have L2 := K2.out
    simp only [if_pos hd] at L1 L2
    replace K1 := Lib.hid L1
    replace K2 := Lib.hid L2
    clear L1 L2
    go_upto_region 5 with fail
    go_region_held3 (fun w' => w'.cell? ⟨x2.heap.size, 0, none⟩ = some (.int .i64 n) ∧ w'.cell? ⟨x2.heap.size, 1, none⟩ = some (.int .i64 64) ∧ w'.cell? ⟨x2.heap.size, 2, none⟩ = some (.int .i64 5) ∧ w'.cell? ⟨x2.heap.size, 3, none⟩ = some (.int .i64 100) ∧ w'.cell? ⟨x2.heap.size, 4, none⟩ = some (.int .i64 50) ∧ w'.cell? ⟨x2.heap.size, 5, none⟩ = some (.int .i64 10) ∧ w'.cell? ⟨x2.heap.size, 6, none⟩ = some (.int .i64 20) ∧ w'.cell? ⟨x2.heap.size, 7, none⟩ = some (.int .i64 1000) ∧ w'.cell? ⟨x2.heap.size, 8, none⟩ = some (.int .i64 2147483648) ∧ w'.cell? ⟨x2.heap.size, 9, none⟩ = some (.int .i64 4294967296) ∧ w'.cell? ⟨x2.heap.size, 10, none⟩ = some (.int .i64 1073741824) ∧ w'.cell? ⟨x2.heap.size, 11, none⟩ = some (.int .i64 0) ∧ w'.cell? ⟨x2.heap.size, 12, none⟩ = some (.int .i64 1099511627776) ∧ w'.cell? ⟨x2.heap.size, 13, none⟩ = some (.int .i64 64) ∧ w'.cell? ⟨x2.heap.size, 14, none⟩ = some (.int .i64 4) ∧ w'.cell? ⟨x2.heap.size, 15, none⟩ = some (.int .i64 4)) ((repeat (first | with_reducible assumption | refine ⟨?_, ?_⟩ | with_reducible refine kdrew ?_ | with_reducible refine cell_later ha ?_ | with_reducible refine cell_later hb ?_ | with_reducible refine cell_later hc ?_))) (first | (go_at_call 16; first | ((with_reducible refine (K1.out _).mono ?_); rintro e wa ⟨rfl, ha⟩; replace BX := Lib.hid (show Bxs w wa [(x2.heap.size, 25, [.int .i64 n, .int .i64 64, .int .i64 5, .int .i64 100, .int .i64 50, .int .i64 10, .int .i64 20, .int .i64 1000, .int .i64 2147483648, .int .i64 4294967296, .int .i64 1073741824, .int .i64 0, .int .i64 1099511627776, .int .i64 64, .int .i64 4, .int .i64 4])] from by first | with_reducible exact BX.out.below ha | with_reducible exact BX.out.drew_.below ha | with_reducible exact (BX.out.drewN_ _).below ha | with_reducible exact BX.out.drew_.drew_.below ha | with_reducible exact BX.out.drew_.drew_.drew_.below ha)) | ((with_reducible refine (K2.out _).mono ?_); rintro e wb ⟨rfl, hb⟩; replace BX := Lib.hid (show Bxs w wb [(x2.heap.size, 25, [.int .i64 n, .int .i64 64, .int .i64 5, .int .i64 100, .int .i64 50, .int .i64 10, .int .i64 20, .int .i64 1000, .int .i64 2147483648, .int .i64 4294967296, .int .i64 1073741824, .int .i64 0, .int .i64 1099511627776, .int .i64 64, .int .i64 4, .int .i64 4])] from by first | with_reducible exact BX.out.below hb | with_reducible exact BX.out.drew_.below hb | with_reducible exact (BX.out.drewN_ _).below hb | with_reducible exact BX.out.drew_.drew_.below hb | with_reducible exact BX.out.drew_.drew_.drew_.below hb))) | (go_at_call 20; refine (K3.out _).mono ?_; rintro e wc ⟨rfl, hc⟩; replace BX := Lib.hid (show Bxs w wc [(x2.heap.size, 25, [.int .i64 n, .int .i64 64, .int .i64 5, .int .i64 100, .int .i64 50, .int .i64 10, .int .i64 20, .int .i64 1000, .int .i64 2147483648, .int .i64 4294967296, .int .i64 1073741824, .int .i64 0, .int .i64 1099511627776, .int .i64 64, .int .i64 4, .int .i64 4])] from by first | with_reducible exact BX.out.below hc | with_reducible exact BX.out.drew_.below hc | with_reducible exact (BX.out.drewN_ _).below hc | with_reducible exact BX.out.drew_.drew_.below hc | with_reducible exact BX.out.drew_.drew_.drew_.below hc)))
    all_goals (go_wp2_with fail; go_ret; exact ⟨rfl, (by first | with_reducible exact BX.out.be | with_reducible exact BX.out.drew_.be | with_reducible exact (BX.out.drewN_ _).be | with_reducible exact BX.out.drew_.drew_.be | with_reducible exact BX.out.drew_.drew_.drew_.be)⟩)
  ·
    have L1 := K1.out
    have L2 := K2.out
    simp only [if_neg hd] at L1 L2
    replace K1 := Lib.hid L1
    replace K2 := Lib.hid L2
    clear L1 L2
    go_upto_region 5 with fail
    go_region_held3 (fun w' => w'.cell? ⟨x2.heap.size, 0, none⟩ = some (.int .i64 n) ∧ w'.cell? ⟨x2.heap.size, 1, none⟩ = some (.int .i64 64) ∧ w'.cell? ⟨x2.heap.size, 2, none⟩ = some (.int .i64 5) ∧ w'.cell? ⟨x2.heap.size, 3, none⟩ = some (.int .i64 100) ∧ w'.cell? ⟨x2.heap.size, 4, none⟩ = some (.int .i64 50) ∧ w'.cell? ⟨x2.heap.size, 5, none⟩ = some (.int .i64 10) ∧ w'.cell? ⟨x2.heap.size, 6, none⟩ = some (.int .i64 20) ∧ w'.cell? ⟨x2.heap.size, 7, none⟩ = some (.int .i64 1000) ∧ w'.cell? ⟨x2.heap.size, 8, none⟩ = some (.int .i64 2147483648) ∧ w'.cell? ⟨x2.heap.size, 9, none⟩ = some (.int .i64 4294967296) ∧ w'.cell? ⟨x2.heap.size, 10, none⟩ = some (.int .i64 1073741824) ∧ w'.cell? ⟨x2.heap.size, 11, none⟩ = some (.int .i64 0) ∧ w'.cell? ⟨x2.heap.size, 12, none⟩ = some (.int .i64 1099511627776) ∧ w'.cell? ⟨x2.heap.size, 13, none⟩ = some (.int .i64 64) ∧ w'.cell? ⟨x2.heap.size, 14, none⟩ = some (.int .i64 4) ∧ w'.cell? ⟨x2.heap.size, 15, none⟩ = some (.int .i64 4)) ((repeat (first | with_reducible assumption | refine ⟨?_, ?_⟩ | with_reducible refine kdrew ?_ | with_reducible refine cell_later ha ?_ | with_reducible refine cell_later hb ?_ | with_reducible refine cell_later hc ?_))) (first | (go_at_call 16; first | ((with_reducible refine (K1.out _).mono ?_); rintro e wa ⟨rfl, ha⟩; replace BX := Lib.hid (show Bxs w wa [(x2.heap.size, 25, [.int .i64 n, .int .i64 64, .int .i64 5, .int .i64 100, .int .i64 50, .int .i64 10, .int .i64 20, .int .i64 1000, .int .i64 2147483648, .int .i64 4294967296, .int .i64 1073741824, .int .i64 0, .int .i64 1099511627776, .int .i64 64, .int .i64 4, .int .i64 4])] from by first | with_reducible exact BX.out.below ha | with_reducible exact BX.out.drew_.below ha | with_reducible exact (BX.out.drewN_ _).below ha | with_reducible exact BX.out.drew_.drew_.below ha | with_reducible exact BX.out.drew_.drew_.drew_.below ha)) | ((with_reducible refine (K2.out _).mono ?_); rintro e wb ⟨rfl, hb⟩; replace BX := Lib.hid (show Bxs w wb [(x2.heap.size, 25, [.int .i64 n, .int .i64 64, .int .i64 5, .int .i64 100, .int .i64 50, .int .i64 10, .int .i64 20, .int .i64 1000, .int .i64 2147483648, .int .i64 4294967296, .int .i64 1073741824, .int .i64 0, .int .i64 1099511627776, .int .i64 64, .int .i64 4, .int .i64 4])] from by first | with_reducible exact BX.out.below hb | with_reducible exact BX.out.drew_.below hb | with_reducible exact (BX.out.drewN_ _).below hb | with_reducible exact BX.out.drew_.drew_.below hb | with_reducible exact BX.out.drew_.drew_.drew_.below hb))) | (go_at_call 20; refine (K3.out _).mono ?_; rintro e wc ⟨rfl, hc⟩; replace BX := Lib.hid (show Bxs w wc [(x2.heap.size, 25, [.int .i64 n, .int .i64 64, .int .i64 5, .int .i64 100, .int .i64 50, .int .i64 10, .int .i64 20, .int .i64 1000, .int .i64 2147483648, .int .i64 4294967296, .int .i64 1073741824, .int .i64 0, .int .i64 1099511627776, .int .i64 64, .int .i64 4, .int .i64 4])] from by first | with_reducible exact BX.out.below hc | with_reducible exact BX.out.drew_.below hc | with_reducible exact (BX.out.drewN_ _).below hc | with_reducible exact BX.out.drew_.drew_.below hc | with_reducible exact BX.out.drew_.drew_.drew_.below hc)))
    all_goals (go_wp2_with fail; go_ret; exact ⟨rfl, (by first | with_reducible exact BX.out.be | with_reducible exact BX.out.drew_.be | with_reducible exact (BX.out.drewN_ _).be | with_reducible exact BX.out.drew_.drew_.be | with_reducible exact BX.out.drew_.drew_.drew_.be)⟩)
set_option maxRecDepth 100000 in
theorem lifted (os : Os) (started : os.Started) (H : Type) (enc : TypeId × Value → H) :
    ReturnsInHanded {} Tryd.checked os 5 .any (fun w args => (Rows.gateEndsSpec.pre enc Tryd.prog Tryd.f5 Rows.gateEndsRow.domain false w args ∧ laidMetH Tryd.prog [("overfall/gate.names", Rows.laid_overfall_gate_names)] w) ∧ sizedMet enc Tryd.prog Tryd.f5 (OpenSpec.ofChange Rows.gateEndsSpec) false w args)
      (Rows.gateEndsSpec.post enc Tryd.prog Tryd.f5 false true false false) := by
  refine returnsInHanded_of_change_and (C := Tryd.checked) (X := fun w _ => laidMetH Tryd.prog [("overfall/gate.names", Rows.laid_overfall_gate_names)] w) (fun _ _ _ hh h => h.of_heap hh) own started (by kernel_rfl) Tryd.func5
    (ChangeSpec.witness_shaped (enc := enc) (C := Tryd.checked) (os := os) (X := fun w _ => laidMetH Tryd.prog [("overfall/gate.names", Rows.laid_overfall_gate_names)] w) false (World.laidAll Tryd.prog os [("overfall/gate.names", Rows.laid_overfall_gate_names)]) #[.int .u8 0, .int .u8 0, .int .u8 0, .int .i64 0, .int .i64 0, .int .u32 0] 8 (World.laidAll_os _ _ _)
      (World.shaped_of_ZipB (by kernel_rfl) (by kernel_rfl)) (by kernel_rfl) (by kernel_rfl) (by kernel_rfl)
      (by rw [MakeChecks.laidMetH_plain _ _ _ (by kernel_rfl)]; exact laidMet_laidAll _ (by kernel_rfl) (by kernel_rfl))) ?_
  intro W base args ds gs before hval0 hW hcnd _ hL _
  have hLO := names_of_laid hL
  have hval : ∀ (j : Nat) t v, Tryd.f5.params[j]? = some t → args[j]? = some v → Value.okWide Tryd.prog W .any base t v := hval0
  have hW' := hW
  obtain ⟨p, q, hA0, hV, rfl, hfz, hnd⟩ := hW
  have hA : DataW.TrodAll enc Tryd.prog W 0 (fun _ => true) true Tryd.f5.params.toList args.toList ds p := hA0
  rw [Tryd.params5] at hA hval
  obtain ⟨v0, vs0, d0, ds0, p0, q0, hargs, rfl, rfl, h0, r0⟩ := trodAll_cons hA
  obtain ⟨v1, vs1, d1, ds1, p1, q1, rfl, rfl, rfl, h1, r1⟩ := trodAll_cons r0
  obtain ⟨v2, vs2, d2, ds2, p2, q2, rfl, rfl, rfl, h2, r2⟩ := trodAll_cons r1
  obtain ⟨v3, vs3, d3, ds3, p3, q3, rfl, rfl, rfl, h3, r3⟩ := trodAll_cons r2
  obtain ⟨v4, vs4, d4, ds4, p4, q4, rfl, rfl, rfl, h4, r4⟩ := trodAll_cons r3
  obtain ⟨v5, vs5, d5, ds5, p5, q5, rfl, rfl, rfl, h5, r5⟩ := trodAll_cons r4
  obtain ⟨rfl, rfl, rfl⟩ := trodAll_nil r5
  obtain rfl : args = #[v0, v1, v2, v3, v4, v5] := by cases args; simp_all
  obtain ⟨rfl, rfl⟩ := trodVars_none hV
  obtain ⟨a0, rfl, rfl, rfl, w0⟩ := open_int Tryd.underlying5 (hval 0 _ v0 rfl rfl) h0
  obtain ⟨a1, rfl, rfl, rfl, w1⟩ := open_int Tryd.underlying5 (hval 1 _ v1 rfl rfl) h1
  obtain ⟨a2, rfl, rfl, rfl, w2⟩ := open_int Tryd.underlying5 (hval 2 _ v2 rfl rfl) h2
  obtain ⟨a3, rfl, rfl, rfl, w3⟩ := open_int Tryd.underlying2 (hval 3 _ v3 rfl rfl) h3
  obtain ⟨a4, rfl, rfl, rfl, w4⟩ := open_int Tryd.underlying2 (hval 4 _ v4 rfl rfl) h4
  obtain ⟨a5, rfl, rfl, rfl, w5⟩ := open_int Tryd.underlying38 (hval 5 _ v5 rfl rfl) h5
  clear hA0 hval0
  obtain ⟨l0, m0⟩ := wf_u8 w0
  obtain ⟨l1, m1⟩ := wf_u8 w1
  obtain ⟨l2, m2⟩ := wf_u8 w2
  obtain ⟨l3, m3⟩ := wf_i64 w3
  obtain ⟨l4, m4⟩ := wf_i64 w4
  obtain ⟨l5, m5⟩ := wf_u32 w5
  refine (walk a0 a1 a2 a3 a4 a5 W hLO l0 m0 l1 m1 l2 m2 l3 m3 l4 m4 l5 m5).mono fun e W' ⟨he, hg⟩ => ?_
  subst he
  exact ⟨_, rfl, post_of_law hW' rfl laidOut reads rfl Tryd.underlying4 rfl rfl rfl hg⟩
theorem over : Rows.gateEndsRow.holds Tryd.pinned (OpenSpec.ofChange Rows.gateEndsSpec) :=
  OpenClaim.holds_of_wide 5 Tryd.f5 rfl rfl rfl rfl rfl rfl rfl ⟨rfl, rfl, rfl, rfl, rfl⟩ rfl rfl rfl rfl rfl (by kernel_rfl) Tryd.func5 (by kernel_rfl)
    (of_decide_eq_true (by kernel_rfl)) (by unfold Func.isWrapper; first | (rw [if_pos (by decide +kernel)]; kernel_rfl) | (rw [if_neg (by decide +kernel)]; exact ⟨rfl, rfl⟩))
    (fun os started H enc _ => lifted os started H enc)
theorem proved : Rows.GateEndsCardSaid :=
  Claim7.holds_tied_plain_at .later [] [.data] true Rows.gateEndsCard.stood.harness false over (fun _ h => by cases h) (by kernel_rfl) (fun _ h => by cases h) gateEnds_row_tie rfl ⟨rfl, rfl⟩ (by kernel_rfl) rfl
    (fun f fn hf hfn => by
      obtain rfl : f = 5 := Option.some.inj ((show Tryd.prog.funcNamed "overfall/overfalllaw14.GateEnds" = some 5 by kernel_rfl).symm.trans hf) |>.symm
      obtain rfl : fn = Tryd.f5 := (Option.some.inj (Tryd.func5.symm.trans hfn)).symm
      exact ⟨by kernel_rfl, fun j t ht => by
        have hm : t ∈ Tryd.f5.params.toList := by simpa using Array.mem_of_getElem? ht
        have hall : (Tryd.f5.params.toList.all fun u => !Tryd.prog.wantsStandIn u) = true := by kernel_rfl
        exact (show Tryd.prog.wantsStandIn t = false by simpa using List.all_eq_true.1 hall t hm)⟩)
    (by kernel_rfl)
end Go.Proofs.YtgocnliapkokbaaDoor.gateEnds
