/- GateJudges is true of every input, and changes nothing that it was given. -/
import Derived.Test.YtgocnliapkokbaaDoorGlaid
import Derived.Test.YtgocnliapkokbaaDoorRowb
import Derived.Test.YtgocnliapkokbaaDoorRows
import Derived.WalkKit
import Derived.ProofKit
import Derived.OpenShut
import Derived.Deep.DeepCutAuto
import Derived.Deep.RegionHeld3
import Derived.Test.YtgocnliapkokbaaDoorTie
import Derived.Test.YtgocnliapkokbaaDoorCards
import Derived.LaidMore
import Derived.Lay
import Derived.SevenTiedAt
import Derived.Stop.Joined
namespace Go.Proofs.YtgocnliapkokbaaDoor.gateJudges
open Go.ChangeShapes Go.WideShapes Go.ChangeAt Go.RowKit
set_option linter.unusedVariables false
theorem own : ownKnob Tryd.prog.godebug = none := by kernel_rfl
theorem laidOut : laidOutB Tryd.prog = true := by kernel_rfl
theorem reads : (Tryd.f3.params.toList.all fun t => Tryd.prog.readableRec t && decide (t < Tryd.prog.types.size)) = true := by kernel_rfl
open Kn
set_option linter.unusedSimpArgs false
set_option maxRecDepth 100000 in
set_option maxHeartbeats 4000000 in
theorem walk (t l now a k d h : Int) (w : World) (hN : NamesAt w) (t0 : 0 ≤ t) (t1 : t ≤ 255) (l0 : -9223372036854775808 ≤ l) (l1 : l ≤ 9223372036854775807) (now0 : -9223372036854775808 ≤ now) (now1 : now ≤ 9223372036854775807) (a0 : -9223372036854775808 ≤ a) (a1 : a ≤ 9223372036854775807) (k0 : -9223372036854775808 ≤ k) (k1 : k ≤ 9223372036854775807) (d0 : -9223372036854775808 ≤ d) (d1 : d ≤ 9223372036854775807) (h0 : -9223372036854775808 ≤ h) (h1 : h ≤ 9223372036854775807) :
    Calls Tryd.prog 3 #[.int .u8 t, .int .i64 l, .int .i64 now, .int .i64 a, .int .i64 k, .int .i64 d, .int .i64 h] w fun e w' => e = .returned (.bool true) ∧ Below w.heap.size w w' := by
  have HN := Lib.hid hN
  clear hN
  obtain ⟨n, hn⟩ : ∃ n : Int, 1 + t % 8 = n := ⟨_, rfl⟩
  have n0 : 1 ≤ n := by omega
  have n1 : n ≤ 8 := by omega
  have hfw := fun wq => few_n t n h (by omega) hn wq
  have HFW := Lib.hid hfw
  clear hfw hn
  obtain ⟨R, hR⟩ : ∃ R, rightG n a k = R := ⟨_, rfl⟩
  obtain ⟨E, hE⟩ : ∃ E, edgeG n l = E := ⟨_, rfl⟩
  obtain ⟨DD, hD⟩ : ∃ DD, deadG h now d = DD := ⟨_, rfl⟩
  obtain ⟨J, hJ⟩ : ∃ J, judgeG n l now a k d = J := ⟨_, rfl⟩
  have hjb : 0 ≤ J ∧ J ≤ 4 := by rw [← hJ]; unfold judgeG; split <;> (try split) <;> (try split) <;> omega
  have hkey : R = true → 0 ≤ a ∧ a ≤ 1000 ∧ 0 ≤ k ∧ k ≤ 1000 := fun e => by have := rightG_iff.1 (hR.trans e); omega
  have k1 := fun wq => right_few n h a k wq
  have k2 := fun wq => rright_any n a k wq
  have k3 := fun wq => edge_few n h l (by omega) (by omega) l0 l1 wq
  have k4 := fun wq => redge_any n l (by omega) (by omega) l0 l1 wq
  have k5 := fun wq => dead_few n h now d now0 now1 h0 h1 wq
  have k6 := fun wq => rdead_any h now d now0 now1 h0 h1 wq
  have k7 := fun wq => judge_few n h l now a k d (by omega) l0 l1 wq
  have k8 := fun wq => rjudge_any n l now a k d (by omega) l0 l1 wq
  rw [hR] at k1 k2
  rw [hE] at k3 k4
  rw [hD] at k5 k6
  rw [hJ] at k7 k8
  have K1 := Lib.hid k1
  have K2 := Lib.hid k2
  have K3 := Lib.hid k3
  have K4 := Lib.hid k4
  have K5 := Lib.hid k5
  have K6 := Lib.hid k6
  have K7 := Lib.hid k7
  have K8 := Lib.hid k8
  have HKEY := Lib.hid hkey
  have y1 : IntKind.i64.wrap J = J := by rw [IntKind.wrap_i64]; omega
  clear hR hE hD hJ k1 k2 k3 k4 k5 k6 k7 k8 hkey
  go_enter Tryd.func3, Tryd.ntmps3
  go_wp2_with fail
  refine (awake14 _ HN.out).mono ?_
  rintro e x1 ⟨rfl, hb⟩
  have bx : Bxs w x1 [] := (Bxs.nil_ w).below hb
  clear hb
  have BX := Lib.hid bx
  clear bx
  go_wp2_with fail
  refine (HFW.out _).mono ?_
  rintro e x2 ⟨rfl, hb⟩
  have bx : Bxs w x2 [] := (BX.out).below hb
  clear hb BX
  have BX := Lib.hid bx
  clear bx
  go_upto_region 4 with fail
  refine wp_worldx (fun wx => Bxs w wx [(x2.heap.size, 25, [.int .i64 n, .int .i64 64, .int .i64 5, .int .i64 100, .int .i64 50, .int .i64 10, .int .i64 20, .int .i64 h, .int .i64 2147483648, .int .i64 4294967296, .int .i64 1073741824, .int .i64 0, .int .i64 1099511627776, .int .i64 64, .int .i64 4, .int .i64 4])]) ((BX.out).alloc_ _ _ (by simp)) ?_
  clear BX
  rintro x3 bx
  have BX := Lib.hid bx
  clear bx
  have p0_0 : x3.cell? ⟨x2.heap.size, 0, none⟩ = some (.int .i64 n) := (BX.out.bl 0 _ _ _ rfl).val rfl
  have p0_1 : x3.cell? ⟨x2.heap.size, 1, none⟩ = some (.int .i64 64) := (BX.out.bl 0 _ _ _ rfl).val rfl
  have p0_2 : x3.cell? ⟨x2.heap.size, 2, none⟩ = some (.int .i64 5) := (BX.out.bl 0 _ _ _ rfl).val rfl
  have p0_3 : x3.cell? ⟨x2.heap.size, 3, none⟩ = some (.int .i64 100) := (BX.out.bl 0 _ _ _ rfl).val rfl
  have p0_4 : x3.cell? ⟨x2.heap.size, 4, none⟩ = some (.int .i64 50) := (BX.out.bl 0 _ _ _ rfl).val rfl
  have p0_5 : x3.cell? ⟨x2.heap.size, 5, none⟩ = some (.int .i64 10) := (BX.out.bl 0 _ _ _ rfl).val rfl
  have p0_6 : x3.cell? ⟨x2.heap.size, 6, none⟩ = some (.int .i64 20) := (BX.out.bl 0 _ _ _ rfl).val rfl
  have p0_7 : x3.cell? ⟨x2.heap.size, 7, none⟩ = some (.int .i64 h) := (BX.out.bl 0 _ _ _ rfl).val rfl
  have p0_8 : x3.cell? ⟨x2.heap.size, 8, none⟩ = some (.int .i64 2147483648) := (BX.out.bl 0 _ _ _ rfl).val rfl
  have p0_9 : x3.cell? ⟨x2.heap.size, 9, none⟩ = some (.int .i64 4294967296) := (BX.out.bl 0 _ _ _ rfl).val rfl
  have p0_10 : x3.cell? ⟨x2.heap.size, 10, none⟩ = some (.int .i64 1073741824) := (BX.out.bl 0 _ _ _ rfl).val rfl
  have p0_11 : x3.cell? ⟨x2.heap.size, 11, none⟩ = some (.int .i64 0) := (BX.out.bl 0 _ _ _ rfl).val rfl
  have p0_12 : x3.cell? ⟨x2.heap.size, 12, none⟩ = some (.int .i64 1099511627776) := (BX.out.bl 0 _ _ _ rfl).val rfl
  have p0_13 : x3.cell? ⟨x2.heap.size, 13, none⟩ = some (.int .i64 64) := (BX.out.bl 0 _ _ _ rfl).val rfl
  have p0_14 : x3.cell? ⟨x2.heap.size, 14, none⟩ = some (.int .i64 4) := (BX.out.bl 0 _ _ _ rfl).val rfl
  have p0_15 : x3.cell? ⟨x2.heap.size, 15, none⟩ = some (.int .i64 4) := (BX.out.bl 0 _ _ _ rfl).val rfl
  have z0 : ∀ k, x3.frozen? ⟨x2.heap.size, k, none⟩ = false := (BX.out.bl 0 _ _ _ rfl).free
  have y0 : x2.heap.size < x3.heap.size := (BX.out.bl 0 _ _ _ rfl).size
  go_wp2_with fail
  refine (K1.out _).mono ?_
  rintro e x4 ⟨rfl, hb⟩
  have bx : Bxs w x4 [(x2.heap.size, 25, [.int .i64 n, .int .i64 64, .int .i64 5, .int .i64 100, .int .i64 50, .int .i64 10, .int .i64 20, .int .i64 h, .int .i64 2147483648, .int .i64 4294967296, .int .i64 1073741824, .int .i64 0, .int .i64 1099511627776, .int .i64 64, .int .i64 4, .int .i64 4])] := (BX.out).below hb
  clear p0_0 p0_1 p0_2 p0_3 p0_4 p0_5 p0_6 p0_7 p0_8 p0_9 p0_10 p0_11 p0_12 p0_13 p0_14 p0_15 z0 y0
  clear hb BX
  have BX := Lib.hid bx
  clear bx
  have p0_0 : x4.cell? ⟨x2.heap.size, 0, none⟩ = some (.int .i64 n) := (BX.out.bl 0 _ _ _ rfl).val rfl
  have p0_1 : x4.cell? ⟨x2.heap.size, 1, none⟩ = some (.int .i64 64) := (BX.out.bl 0 _ _ _ rfl).val rfl
  have p0_2 : x4.cell? ⟨x2.heap.size, 2, none⟩ = some (.int .i64 5) := (BX.out.bl 0 _ _ _ rfl).val rfl
  have p0_3 : x4.cell? ⟨x2.heap.size, 3, none⟩ = some (.int .i64 100) := (BX.out.bl 0 _ _ _ rfl).val rfl
  have p0_4 : x4.cell? ⟨x2.heap.size, 4, none⟩ = some (.int .i64 50) := (BX.out.bl 0 _ _ _ rfl).val rfl
  have p0_5 : x4.cell? ⟨x2.heap.size, 5, none⟩ = some (.int .i64 10) := (BX.out.bl 0 _ _ _ rfl).val rfl
  have p0_6 : x4.cell? ⟨x2.heap.size, 6, none⟩ = some (.int .i64 20) := (BX.out.bl 0 _ _ _ rfl).val rfl
  have p0_7 : x4.cell? ⟨x2.heap.size, 7, none⟩ = some (.int .i64 h) := (BX.out.bl 0 _ _ _ rfl).val rfl
  have p0_8 : x4.cell? ⟨x2.heap.size, 8, none⟩ = some (.int .i64 2147483648) := (BX.out.bl 0 _ _ _ rfl).val rfl
  have p0_9 : x4.cell? ⟨x2.heap.size, 9, none⟩ = some (.int .i64 4294967296) := (BX.out.bl 0 _ _ _ rfl).val rfl
  have p0_10 : x4.cell? ⟨x2.heap.size, 10, none⟩ = some (.int .i64 1073741824) := (BX.out.bl 0 _ _ _ rfl).val rfl
  have p0_11 : x4.cell? ⟨x2.heap.size, 11, none⟩ = some (.int .i64 0) := (BX.out.bl 0 _ _ _ rfl).val rfl
  have p0_12 : x4.cell? ⟨x2.heap.size, 12, none⟩ = some (.int .i64 1099511627776) := (BX.out.bl 0 _ _ _ rfl).val rfl
  have p0_13 : x4.cell? ⟨x2.heap.size, 13, none⟩ = some (.int .i64 64) := (BX.out.bl 0 _ _ _ rfl).val rfl
  have p0_14 : x4.cell? ⟨x2.heap.size, 14, none⟩ = some (.int .i64 4) := (BX.out.bl 0 _ _ _ rfl).val rfl
  have p0_15 : x4.cell? ⟨x2.heap.size, 15, none⟩ = some (.int .i64 4) := (BX.out.bl 0 _ _ _ rfl).val rfl
  have z0 : ∀ k, x4.frozen? ⟨x2.heap.size, k, none⟩ = false := (BX.out.bl 0 _ _ _ rfl).free
  have y0 : x2.heap.size < x4.heap.size := (BX.out.bl 0 _ _ _ rfl).size
  go_upto_region 5 with fail
  go_cut [53] from 26 to 83 (fun s53 wx => s53 = .bool false ∧ Bxs w wx [(x2.heap.size, 25, [.int .i64 n, .int .i64 64, .int .i64 5, .int .i64 100, .int .i64 50, .int .i64 10, .int .i64 20, .int .i64 h, .int .i64 2147483648, .int .i64 4294967296, .int .i64 1073741824, .int .i64 0, .int .i64 1099511627776, .int .i64 64, .int .i64 4, .int .i64 4])])
  case first =>
    as_aux_lemma =>
      go_region_held3 (fun w' => w'.cell? ⟨x2.heap.size, 0, none⟩ = some (.int .i64 n) ∧ w'.cell? ⟨x2.heap.size, 1, none⟩ = some (.int .i64 64) ∧ w'.cell? ⟨x2.heap.size, 2, none⟩ = some (.int .i64 5) ∧ w'.cell? ⟨x2.heap.size, 3, none⟩ = some (.int .i64 100) ∧ w'.cell? ⟨x2.heap.size, 4, none⟩ = some (.int .i64 50) ∧ w'.cell? ⟨x2.heap.size, 5, none⟩ = some (.int .i64 10) ∧ w'.cell? ⟨x2.heap.size, 6, none⟩ = some (.int .i64 20) ∧ w'.cell? ⟨x2.heap.size, 7, none⟩ = some (.int .i64 h) ∧ w'.cell? ⟨x2.heap.size, 8, none⟩ = some (.int .i64 2147483648) ∧ w'.cell? ⟨x2.heap.size, 9, none⟩ = some (.int .i64 4294967296) ∧ w'.cell? ⟨x2.heap.size, 10, none⟩ = some (.int .i64 1073741824) ∧ w'.cell? ⟨x2.heap.size, 11, none⟩ = some (.int .i64 0) ∧ w'.cell? ⟨x2.heap.size, 12, none⟩ = some (.int .i64 1099511627776) ∧ w'.cell? ⟨x2.heap.size, 13, none⟩ = some (.int .i64 64) ∧ w'.cell? ⟨x2.heap.size, 14, none⟩ = some (.int .i64 4) ∧ w'.cell? ⟨x2.heap.size, 15, none⟩ = some (.int .i64 4)) ((repeat (first | with_reducible assumption | refine ⟨?_, ?_⟩ | with_reducible refine kdrew ?_ | with_reducible refine cell_later ha ?_ | with_reducible refine cell_later hb ?_ | with_reducible refine cell_later hc ?_ | with_reducible refine cell_later hd ?_ | with_reducible refine cell_later he ?_))) (first | (go_at_call 11; refine (K2.out _).mono ?_; rintro e wa ⟨rfl, ha⟩; replace BX := Lib.hid (show Bxs w wa [(x2.heap.size, 25, [.int .i64 n, .int .i64 64, .int .i64 5, .int .i64 100, .int .i64 50, .int .i64 10, .int .i64 20, .int .i64 h, .int .i64 2147483648, .int .i64 4294967296, .int .i64 1073741824, .int .i64 0, .int .i64 1099511627776, .int .i64 64, .int .i64 4, .int .i64 4])] from by first | with_reducible exact BX.out.below ha | with_reducible exact BX.out.drew_.below ha | with_reducible exact (BX.out.drewN_ _).below ha | with_reducible exact BX.out.drew_.drew_.below ha | with_reducible exact BX.out.drew_.drew_.drew_.below ha)) | (go_at_call 12; refine (K3.out _).mono ?_; rintro e wb ⟨rfl, hb⟩; replace BX := Lib.hid (show Bxs w wb [(x2.heap.size, 25, [.int .i64 n, .int .i64 64, .int .i64 5, .int .i64 100, .int .i64 50, .int .i64 10, .int .i64 20, .int .i64 h, .int .i64 2147483648, .int .i64 4294967296, .int .i64 1073741824, .int .i64 0, .int .i64 1099511627776, .int .i64 64, .int .i64 4, .int .i64 4])] from by first | with_reducible exact BX.out.below hb | with_reducible exact BX.out.drew_.below hb | with_reducible exact (BX.out.drewN_ _).below hb | with_reducible exact BX.out.drew_.drew_.below hb | with_reducible exact BX.out.drew_.drew_.drew_.below hb)) | (go_at_call 13; refine (K4.out _).mono ?_; rintro e wc ⟨rfl, hc⟩; replace BX := Lib.hid (show Bxs w wc [(x2.heap.size, 25, [.int .i64 n, .int .i64 64, .int .i64 5, .int .i64 100, .int .i64 50, .int .i64 10, .int .i64 20, .int .i64 h, .int .i64 2147483648, .int .i64 4294967296, .int .i64 1073741824, .int .i64 0, .int .i64 1099511627776, .int .i64 64, .int .i64 4, .int .i64 4])] from by first | with_reducible exact BX.out.below hc | with_reducible exact BX.out.drew_.below hc | with_reducible exact (BX.out.drewN_ _).below hc | with_reducible exact BX.out.drew_.drew_.below hc | with_reducible exact BX.out.drew_.drew_.drew_.below hc)) | (go_at_call 14; refine (K5.out _).mono ?_; rintro e wd ⟨rfl, hd⟩; replace BX := Lib.hid (show Bxs w wd [(x2.heap.size, 25, [.int .i64 n, .int .i64 64, .int .i64 5, .int .i64 100, .int .i64 50, .int .i64 10, .int .i64 20, .int .i64 h, .int .i64 2147483648, .int .i64 4294967296, .int .i64 1073741824, .int .i64 0, .int .i64 1099511627776, .int .i64 64, .int .i64 4, .int .i64 4])] from by first | with_reducible exact BX.out.below hd | with_reducible exact BX.out.drew_.below hd | with_reducible exact (BX.out.drewN_ _).below hd | with_reducible exact BX.out.drew_.drew_.below hd | with_reducible exact BX.out.drew_.drew_.drew_.below hd)) | (go_at_call 15; refine (K6.out _).mono ?_; rintro e we ⟨rfl, he⟩; replace BX := Lib.hid (show Bxs w we [(x2.heap.size, 25, [.int .i64 n, .int .i64 64, .int .i64 5, .int .i64 100, .int .i64 50, .int .i64 10, .int .i64 20, .int .i64 h, .int .i64 2147483648, .int .i64 4294967296, .int .i64 1073741824, .int .i64 0, .int .i64 1099511627776, .int .i64 64, .int .i64 4, .int .i64 4])] from by first | with_reducible exact BX.out.below he | with_reducible exact BX.out.drew_.below he | with_reducible exact (BX.out.drewN_ _).below he | with_reducible exact BX.out.drew_.drew_.below he | with_reducible exact BX.out.drew_.drew_.drew_.below he)))
      all_goals (go_wp2_with fail; go_meet; exact ⟨rfl, by first | with_reducible exact BX.out | with_reducible exact BX.out.drew_ | with_reducible exact BX.out.drewN_ _⟩)
  case rest =>
    clear p0_0 p0_1 p0_2 p0_3 p0_4 p0_5 p0_6 p0_7 p0_8 p0_9 p0_10 p0_11 p0_12 p0_13 p0_14 p0_15 z0 y0
    clear BX K1 K2 K3 K4 K5 K6
    obtain ⟨rfl, bx⟩ := hcut
    have BX := Lib.hid bx
    clear bx
    have p0_0 : wc.cell? ⟨x2.heap.size, 0, none⟩ = some (.int .i64 n) := (BX.out.bl 0 _ _ _ rfl).val rfl
    have p0_1 : wc.cell? ⟨x2.heap.size, 1, none⟩ = some (.int .i64 64) := (BX.out.bl 0 _ _ _ rfl).val rfl
    have p0_2 : wc.cell? ⟨x2.heap.size, 2, none⟩ = some (.int .i64 5) := (BX.out.bl 0 _ _ _ rfl).val rfl
    have p0_3 : wc.cell? ⟨x2.heap.size, 3, none⟩ = some (.int .i64 100) := (BX.out.bl 0 _ _ _ rfl).val rfl
    have p0_4 : wc.cell? ⟨x2.heap.size, 4, none⟩ = some (.int .i64 50) := (BX.out.bl 0 _ _ _ rfl).val rfl
    have p0_5 : wc.cell? ⟨x2.heap.size, 5, none⟩ = some (.int .i64 10) := (BX.out.bl 0 _ _ _ rfl).val rfl
    have p0_6 : wc.cell? ⟨x2.heap.size, 6, none⟩ = some (.int .i64 20) := (BX.out.bl 0 _ _ _ rfl).val rfl
    have p0_7 : wc.cell? ⟨x2.heap.size, 7, none⟩ = some (.int .i64 h) := (BX.out.bl 0 _ _ _ rfl).val rfl
    have p0_8 : wc.cell? ⟨x2.heap.size, 8, none⟩ = some (.int .i64 2147483648) := (BX.out.bl 0 _ _ _ rfl).val rfl
    have p0_9 : wc.cell? ⟨x2.heap.size, 9, none⟩ = some (.int .i64 4294967296) := (BX.out.bl 0 _ _ _ rfl).val rfl
    have p0_10 : wc.cell? ⟨x2.heap.size, 10, none⟩ = some (.int .i64 1073741824) := (BX.out.bl 0 _ _ _ rfl).val rfl
    have p0_11 : wc.cell? ⟨x2.heap.size, 11, none⟩ = some (.int .i64 0) := (BX.out.bl 0 _ _ _ rfl).val rfl
    have p0_12 : wc.cell? ⟨x2.heap.size, 12, none⟩ = some (.int .i64 1099511627776) := (BX.out.bl 0 _ _ _ rfl).val rfl
    have p0_13 : wc.cell? ⟨x2.heap.size, 13, none⟩ = some (.int .i64 64) := (BX.out.bl 0 _ _ _ rfl).val rfl
    have p0_14 : wc.cell? ⟨x2.heap.size, 14, none⟩ = some (.int .i64 4) := (BX.out.bl 0 _ _ _ rfl).val rfl
    have p0_15 : wc.cell? ⟨x2.heap.size, 15, none⟩ = some (.int .i64 4) := (BX.out.bl 0 _ _ _ rfl).val rfl
    have z0 : ∀ k, wc.frozen? ⟨x2.heap.size, k, none⟩ = false := (BX.out.bl 0 _ _ _ rfl).free
    have y0 : x2.heap.size < wc.heap.size := (BX.out.bl 0 _ _ _ rfl).size
    cases R with
    | true =>
      as_aux_lemma =>
        go_upto_region 7 with fail
        obtain ⟨A0, A1, X0, X1⟩ := HKEY.out rfl
        first | (go_region_held3 (fun w' => w'.cell? ⟨x2.heap.size, 0, none⟩ = some (.int .i64 n) ∧ w'.cell? ⟨x2.heap.size, 1, none⟩ = some (.int .i64 64) ∧ w'.cell? ⟨x2.heap.size, 2, none⟩ = some (.int .i64 5) ∧ w'.cell? ⟨x2.heap.size, 3, none⟩ = some (.int .i64 100) ∧ w'.cell? ⟨x2.heap.size, 4, none⟩ = some (.int .i64 50) ∧ w'.cell? ⟨x2.heap.size, 5, none⟩ = some (.int .i64 10) ∧ w'.cell? ⟨x2.heap.size, 6, none⟩ = some (.int .i64 20) ∧ w'.cell? ⟨x2.heap.size, 7, none⟩ = some (.int .i64 h) ∧ w'.cell? ⟨x2.heap.size, 8, none⟩ = some (.int .i64 2147483648) ∧ w'.cell? ⟨x2.heap.size, 9, none⟩ = some (.int .i64 4294967296) ∧ w'.cell? ⟨x2.heap.size, 10, none⟩ = some (.int .i64 1073741824) ∧ w'.cell? ⟨x2.heap.size, 11, none⟩ = some (.int .i64 0) ∧ w'.cell? ⟨x2.heap.size, 12, none⟩ = some (.int .i64 1099511627776) ∧ w'.cell? ⟨x2.heap.size, 13, none⟩ = some (.int .i64 64) ∧ w'.cell? ⟨x2.heap.size, 14, none⟩ = some (.int .i64 4) ∧ w'.cell? ⟨x2.heap.size, 15, none⟩ = some (.int .i64 4)) ((repeat (first | with_reducible assumption | refine ⟨?_, ?_⟩ | with_reducible refine kdrew ?_ | with_reducible refine cell_later ha ?_ | with_reducible refine cell_later hb ?_ | with_reducible refine cell_later hc ?_ | with_reducible refine cell_later hd ?_ | with_reducible refine cell_later he ?_))) (first | (go_at_call 16; refine (K7.out _).mono ?_; rintro e wa ⟨rfl, ha⟩; replace BX := Lib.hid (show Bxs w wa [(x2.heap.size, 25, [.int .i64 n, .int .i64 64, .int .i64 5, .int .i64 100, .int .i64 50, .int .i64 10, .int .i64 20, .int .i64 h, .int .i64 2147483648, .int .i64 4294967296, .int .i64 1073741824, .int .i64 0, .int .i64 1099511627776, .int .i64 64, .int .i64 4, .int .i64 4])] from by first | with_reducible exact BX.out.below ha | with_reducible exact BX.out.drew_.below ha | with_reducible exact (BX.out.drewN_ _).below ha | with_reducible exact BX.out.drew_.drew_.below ha | with_reducible exact BX.out.drew_.drew_.drew_.below ha)) | (go_at_call 17; refine (K8.out _).mono ?_; rintro e wb ⟨rfl, hb⟩; replace BX := Lib.hid (show Bxs w wb [(x2.heap.size, 25, [.int .i64 n, .int .i64 64, .int .i64 5, .int .i64 100, .int .i64 50, .int .i64 10, .int .i64 20, .int .i64 h, .int .i64 2147483648, .int .i64 4294967296, .int .i64 1073741824, .int .i64 0, .int .i64 1099511627776, .int .i64 64, .int .i64 4, .int .i64 4])] from by first | with_reducible exact BX.out.below hb | with_reducible exact BX.out.drew_.below hb | with_reducible exact (BX.out.drewN_ _).below hb | with_reducible exact BX.out.drew_.drew_.below hb | with_reducible exact BX.out.drew_.drew_.drew_.below hb)) | (go_at_call 18; refine (gkey_any a k A0 A1 X0 X1 _).mono ?_; rintro e wd ⟨rfl, rfl⟩) | (go_at_call 19; refine (rkey_any a k A0 A1 X0 X1 _).mono ?_; rintro e we ⟨rfl, rfl⟩))) | fail
        all_goals (go_wp2_with fail; go_ret; exact ⟨ret_bool (by first | rfl | (simp; done)), (by first | with_reducible exact BX.out.be | with_reducible exact BX.out.drew_.be | with_reducible exact (BX.out.drewN_ _).be | with_reducible exact BX.out.drew_.drew_.be | with_reducible exact BX.out.drew_.drew_.drew_.be)⟩)
    | false =>
      as_aux_lemma =>
        go_upto_region 7 with fail
        refine wp_region_noPanic ?_
        refine wp_region_held_drew (S := (fun w' => w'.cell? ⟨x2.heap.size, 0, none⟩ = some (.int .i64 n) ∧ w'.cell? ⟨x2.heap.size, 1, none⟩ = some (.int .i64 64) ∧ w'.cell? ⟨x2.heap.size, 2, none⟩ = some (.int .i64 5) ∧ w'.cell? ⟨x2.heap.size, 3, none⟩ = some (.int .i64 100) ∧ w'.cell? ⟨x2.heap.size, 4, none⟩ = some (.int .i64 50) ∧ w'.cell? ⟨x2.heap.size, 5, none⟩ = some (.int .i64 10) ∧ w'.cell? ⟨x2.heap.size, 6, none⟩ = some (.int .i64 20) ∧ w'.cell? ⟨x2.heap.size, 7, none⟩ = some (.int .i64 h) ∧ w'.cell? ⟨x2.heap.size, 8, none⟩ = some (.int .i64 2147483648) ∧ w'.cell? ⟨x2.heap.size, 9, none⟩ = some (.int .i64 4294967296) ∧ w'.cell? ⟨x2.heap.size, 10, none⟩ = some (.int .i64 1073741824) ∧ w'.cell? ⟨x2.heap.size, 11, none⟩ = some (.int .i64 0) ∧ w'.cell? ⟨x2.heap.size, 12, none⟩ = some (.int .i64 1099511627776) ∧ w'.cell? ⟨x2.heap.size, 13, none⟩ = some (.int .i64 64) ∧ w'.cell? ⟨x2.heap.size, 14, none⟩ = some (.int .i64 4) ∧ w'.cell? ⟨x2.heap.size, 15, none⟩ = some (.int .i64 4))) (by kernel_rfl) (by (repeat (first | with_reducible assumption | refine ⟨?_, ?_⟩ | with_reducible refine kdrew ?_ | exact (BX.out.bl 0 _ _ _ rfl).val rfl))) (fun hHeld => ?_)
        refine wpAnyH_take (i := 0) (v := ?_) rfl (by kernel_rfl) (by kernel_rfl) (by kernel_rfl) (fun _ _ _ h => h) (Or.inl ⟨by rfl, ?_⟩) (by assumption) ?_
        rotate_left
        · (intro wS hSw; (try dsimp only at hSw); (first | (go_simp; done) | (go_simp; with_reducible rfl)))
        try simp only [Act.put, List.getElem_toArray, List.getElem_cons_zero, List.getElem_cons_succ, List.setIfInBounds_toArray, List.set_cons_zero, List.set_cons_succ]
        refine wpAnyH_take (i := 1) (v := ?_) rfl (by kernel_rfl) (by kernel_rfl) (by kernel_rfl) (fun _ _ _ h => h) (Or.inl ⟨by rfl, ?_⟩) (by assumption) ?_
        rotate_left
        · (intro wS hSw; (try dsimp only at hSw); (first | (go_simp; done) | (go_simp; with_reducible rfl)))
        try simp only [Act.put, List.getElem_toArray, List.getElem_cons_zero, List.getElem_cons_succ, List.setIfInBounds_toArray, List.set_cons_zero, List.set_cons_succ]
        refine wpAnyH_take (i := 2) (v := ?_) rfl (by kernel_rfl) (by kernel_rfl) (by kernel_rfl) (fun _ _ _ h => h) (Or.inl ⟨by rfl, ?_⟩) (by assumption) ?_
        rotate_left
        · (intro wS hSw; (try dsimp only at hSw); (first | (go_simp; done) | (go_simp; with_reducible rfl)))
        try simp only [Act.put, List.getElem_toArray, List.getElem_cons_zero, List.getElem_cons_succ, List.setIfInBounds_toArray, List.set_cons_zero, List.set_cons_succ]
        refine wpAnyH_take (i := 3) (v := ?_) rfl (by kernel_rfl) (by kernel_rfl) (by kernel_rfl) (fun _ _ _ h => h) (Or.inl ⟨by rfl, ?_⟩) (by assumption) ?_
        rotate_left
        · (intro wS hSw; (try dsimp only at hSw); (first | (go_simp; done) | (go_simp; with_reducible rfl)))
        try simp only [Act.put, List.getElem_toArray, List.getElem_cons_zero, List.getElem_cons_succ, List.setIfInBounds_toArray, List.set_cons_zero, List.set_cons_succ]
        refine wpAnyH_take (i := 4) (v := ?_) rfl (by kernel_rfl) (by kernel_rfl) (by kernel_rfl) (fun _ _ _ h => h) (Or.inl ⟨by rfl, ?_⟩) (by assumption) ?_
        rotate_left
        · (intro wS hSw; (try dsimp only at hSw); (first | (go_simp; done) | (go_simp; with_reducible rfl)))
        try simp only [Act.put, List.getElem_toArray, List.getElem_cons_zero, List.getElem_cons_succ, List.setIfInBounds_toArray, List.set_cons_zero, List.set_cons_succ]
        refine wpAnyH_take (i := 5) (v := ?_) rfl (by kernel_rfl) (by kernel_rfl) (by kernel_rfl) (fun _ _ _ h => h) (Or.inl ⟨by rfl, ?_⟩) (by assumption) ?_
        rotate_left
        · (intro wS hSw; (try dsimp only at hSw); (first | (go_simp; done) | (go_simp; with_reducible rfl)))
        try simp only [Act.put, List.getElem_toArray, List.getElem_cons_zero, List.getElem_cons_succ, List.setIfInBounds_toArray, List.set_cons_zero, List.set_cons_succ]
        refine wpAnyH_take (i := 8) (v := ?_) rfl (by kernel_rfl) (by kernel_rfl) (by kernel_rfl) (fun _ _ _ h => h) (Or.inl ⟨by rfl, ?_⟩) (by assumption) ?_
        rotate_left
        · (intro wS hSw; (try dsimp only at hSw); (first | (go_simp; done) | (go_simp; with_reducible rfl)))
        try simp only [Act.put, List.getElem_toArray, List.getElem_cons_zero, List.getElem_cons_succ, List.setIfInBounds_toArray, List.set_cons_zero, List.set_cons_succ]
        refine wpAnyH_take (i := 9) (v := ?_) rfl (by kernel_rfl) (by kernel_rfl) (by kernel_rfl) (fun _ _ _ h => h) (Or.inl ⟨by rfl, ?_⟩) (by assumption) ?_
        rotate_left
        · (intro wS hSw; (try dsimp only at hSw); (first | (go_simp; done) | (go_simp; with_reducible rfl)))
        try simp only [Act.put, List.getElem_toArray, List.getElem_cons_zero, List.getElem_cons_succ, List.setIfInBounds_toArray, List.set_cons_zero, List.set_cons_succ]
        refine wpAnyH_take (i := 10) (v := ?_) rfl (by kernel_rfl) (by kernel_rfl) (by kernel_rfl) (fun _ _ _ h => h) (Or.inl ⟨by rfl, ?_⟩) (by assumption) ?_
        rotate_left
        · (intro wS hSw; (try dsimp only at hSw); (first | (go_simp; done) | (go_simp; with_reducible rfl)))
        try simp only [Act.put, List.getElem_toArray, List.getElem_cons_zero, List.getElem_cons_succ, List.setIfInBounds_toArray, List.set_cons_zero, List.set_cons_succ]
        refine wpAnyH_take (i := 11) (v := ?_) rfl (by kernel_rfl) (by kernel_rfl) (by kernel_rfl) (fun _ _ _ h => h) (Or.inl ⟨by rfl, ?_⟩) (by assumption) ?_
        rotate_left
        · (intro wS hSw; (try dsimp only at hSw); (first | (go_simp; done) | (go_simp; with_reducible rfl)))
        try simp only [Act.put, List.getElem_toArray, List.getElem_cons_zero, List.getElem_cons_succ, List.setIfInBounds_toArray, List.set_cons_zero, List.set_cons_succ]
        refine wpAnyH_take (i := 12) (v := ?_) rfl (by kernel_rfl) (by kernel_rfl) (by kernel_rfl) (fun _ _ _ h => h) (Or.inl ⟨by rfl, ?_⟩) (by assumption) ?_
        rotate_left
        · (intro wS hSw; (try dsimp only at hSw); (first | (go_simp; done) | (go_simp; with_reducible rfl)))
        try simp only [Act.put, List.getElem_toArray, List.getElem_cons_zero, List.getElem_cons_succ, List.setIfInBounds_toArray, List.set_cons_zero, List.set_cons_succ]
        refine wpAnyH_take (i := 13) (v := ?_) rfl (by kernel_rfl) (by kernel_rfl) (by kernel_rfl) (fun _ _ _ h => h) (Or.inl ⟨by rfl, ?_⟩) (by assumption) ?_
        rotate_left
        · (intro wS hSw; (try dsimp only at hSw); (first | (go_simp; done) | (go_simp; with_reducible rfl)))
        try simp only [Act.put, List.getElem_toArray, List.getElem_cons_zero, List.getElem_cons_succ, List.setIfInBounds_toArray, List.set_cons_zero, List.set_cons_succ]
        refine wpAnyH_take (i := 14) (v := ?_) rfl (by kernel_rfl) (by kernel_rfl) (by kernel_rfl) (fun _ _ _ h => h) (Or.inl ⟨by rfl, ?_⟩) (by assumption) ?_
        rotate_left
        · (intro wS hSw; (try dsimp only at hSw); (first | (go_simp; done) | (go_simp; with_reducible rfl)))
        try simp only [Act.put, List.getElem_toArray, List.getElem_cons_zero, List.getElem_cons_succ, List.setIfInBounds_toArray, List.set_cons_zero, List.set_cons_succ]
        refine wpAnyH_ready (rs := [6]) (by kernel_rfl) (by simp) ?_
        refine AllReadyH.cons rfl (fun K hK => ?_) AllReadyH.nil
        rw [if_pos (by rfl)]
        refine wp_enter (by go_simp; exact ⟨rfl, rfl⟩) ?_
        refine (K7.out _).mono ?_
        rintro e wa ⟨rfl, ha⟩
        replace BX := Lib.hid (show Bxs w wa [(x2.heap.size, 25, [.int .i64 n, .int .i64 64, .int .i64 5, .int .i64 100, .int .i64 50, .int .i64 10, .int .i64 20, .int .i64 h, .int .i64 2147483648, .int .i64 4294967296, .int .i64 1073741824, .int .i64 0, .int .i64 1099511627776, .int .i64 64, .int .i64 4, .int .i64 4])] from by first | with_reducible exact BX.out.below ha | with_reducible exact BX.out.drew_.below ha | with_reducible exact (BX.out.drewN_ _).below ha | with_reducible exact BX.out.drew_.drew_.below ha | with_reducible exact BX.out.drew_.drew_.drew_.below ha)
        clear ha
        refine ⟨_, rfl, ?_⟩
        refine hK.out _ _ (by (repeat (first | with_reducible assumption | refine ⟨?_, ?_⟩ | with_reducible refine kdrew ?_ | exact (BX.out.bl 0 _ _ _ rfl).val rfl))) (fun hHeld => ?_)
        clear hK K
        try simp only [Act.put, List.getElem_toArray, List.getElem_cons_zero, List.getElem_cons_succ, List.setIfInBounds_toArray, List.set_cons_zero, List.set_cons_succ]
        refine wpAnyH_take (i := 7) (v := ?_) rfl (by kernel_rfl) (by kernel_rfl) (by kernel_rfl) (fun _ _ _ h => h) (Or.inl ⟨by rfl, ?_⟩) (by assumption) ?_
        rotate_left
        · (intro wS hSw; (try dsimp only at hSw); (first | (go_simp; done) | (go_simp; with_reducible rfl)))
        try simp only [Act.put, List.getElem_toArray, List.getElem_cons_zero, List.getElem_cons_succ, List.setIfInBounds_toArray, List.set_cons_zero, List.set_cons_succ]
        refine wpAnyH_ready (rs := [15]) (by kernel_rfl) (by simp) ?_
        refine AllReadyH.cons rfl (fun K hK => ?_) AllReadyH.nil
        rw [if_pos (by rfl)]
        refine wp_enter (by go_simp; exact ⟨rfl, rfl⟩) ?_
        refine (K8.out _).mono ?_
        rintro e wb ⟨rfl, hb⟩
        replace BX := Lib.hid (show Bxs w wb [(x2.heap.size, 25, [.int .i64 n, .int .i64 64, .int .i64 5, .int .i64 100, .int .i64 50, .int .i64 10, .int .i64 20, .int .i64 h, .int .i64 2147483648, .int .i64 4294967296, .int .i64 1073741824, .int .i64 0, .int .i64 1099511627776, .int .i64 64, .int .i64 4, .int .i64 4])] from by first | with_reducible exact BX.out.below hb | with_reducible exact BX.out.drew_.below hb | with_reducible exact (BX.out.drewN_ _).below hb | with_reducible exact BX.out.drew_.drew_.below hb | with_reducible exact BX.out.drew_.drew_.drew_.below hb)
        clear hb
        refine ⟨_, rfl, ?_⟩
        refine hK.out _ _ (by (repeat (first | with_reducible assumption | refine ⟨?_, ?_⟩ | with_reducible refine kdrew ?_ | exact (BX.out.bl 0 _ _ _ rfl).val rfl))) (fun hHeld => ?_)
        clear hK K
        try simp only [Act.put, List.getElem_toArray, List.getElem_cons_zero, List.getElem_cons_succ, List.setIfInBounds_toArray, List.set_cons_zero, List.set_cons_succ]
        refine wpAnyH_take (i := 16) (v := ?_) rfl (by kernel_rfl) (by kernel_rfl) (by kernel_rfl) (fun _ _ _ h => h) (Or.inl ⟨by rfl, ?_⟩) (by assumption) ?_
        rotate_left
        · (intro wS hSw; (try dsimp only at hSw); (first | (go_simp; done) | (go_simp; with_reducible rfl)))
        try simp only [Act.put, List.getElem_toArray, List.getElem_cons_zero, List.getElem_cons_succ, List.setIfInBounds_toArray, List.set_cons_zero, List.set_cons_succ]
        refine wpAnyH_take (i := 17) (v := ?_) rfl (by kernel_rfl) (by kernel_rfl) (by kernel_rfl) (fun _ _ _ h => h) (Or.inl ⟨by rfl, ?_⟩) (by assumption) ?_
        rotate_left
        · (intro wS hSw; (try dsimp only at hSw); (first | (go_simp; done) | (go_simp; with_reducible rfl)))
        try simp only [Act.put, List.getElem_toArray, List.getElem_cons_zero, List.getElem_cons_succ, List.setIfInBounds_toArray, List.set_cons_zero, List.set_cons_succ]
        refine wpAnyH_take (i := 18) (v := ?_) rfl (by kernel_rfl) (by kernel_rfl) (by kernel_rfl) (fun _ _ _ h => h) (Or.inl ⟨by rfl, ?_⟩) (by assumption) ?_
        rotate_left
        · (intro wS hSw; (try dsimp only at hSw); (first | (go_simp; done) | (go_simp; with_reducible rfl)))
        try simp only [Act.put, List.getElem_toArray, List.getElem_cons_zero, List.getElem_cons_succ, List.setIfInBounds_toArray, List.set_cons_zero, List.set_cons_succ]
        refine wpAnyH_take (i := 19) (v := ?_) rfl (by kernel_rfl) (by kernel_rfl) (by kernel_rfl) (fun _ _ _ h => h) (Or.inl ⟨by rfl, ?_⟩) (by assumption) ?_
        rotate_left
        · (intro wS hSw; (try dsimp only at hSw); (first | (go_simp; done) | (go_simp; with_reducible rfl)))
        try simp only [Act.put, List.getElem_toArray, List.getElem_cons_zero, List.getElem_cons_succ, List.setIfInBounds_toArray, List.set_cons_zero, List.set_cons_succ]
        refine wpAnyH_take (i := 20) (v := ?_) rfl (by kernel_rfl) (by kernel_rfl) (by kernel_rfl) (fun _ _ _ h => h) (Or.inl ⟨by rfl, ?_⟩) (by assumption) ?_
        rotate_left
        · (intro wS hSw; (try dsimp only at hSw); (first | (go_simp; done) | (go_simp; with_reducible rfl)))
        try simp only [Act.put, List.getElem_toArray, List.getElem_cons_zero, List.getElem_cons_succ, List.setIfInBounds_toArray, List.set_cons_zero, List.set_cons_succ]
        refine wpAnyH_take (i := 21) (v := undef) rfl (by kernel_rfl) (by kernel_rfl) (by kernel_rfl) (fun _ _ _ h => h) (Or.inr ⟨by rfl, rfl⟩) (by assumption) ?_
        try simp only [Act.put, List.getElem_toArray, List.getElem_cons_zero, List.getElem_cons_succ, List.setIfInBounds_toArray, List.set_cons_zero, List.set_cons_succ]
        refine wpAnyH_take (i := 22) (v := undef) rfl (by kernel_rfl) (by kernel_rfl) (by kernel_rfl) (fun _ _ _ h => h) (Or.inr ⟨by rfl, rfl⟩) (by assumption) ?_
        try simp only [Act.put, List.getElem_toArray, List.getElem_cons_zero, List.getElem_cons_succ, List.setIfInBounds_toArray, List.set_cons_zero, List.set_cons_succ]
        refine wpAnyH_take (i := 23) (v := undef) rfl (by kernel_rfl) (by kernel_rfl) (by kernel_rfl) (fun _ _ _ h => h) (Or.inr ⟨by rfl, rfl⟩) (by assumption) ?_
        try simp only [Act.put, List.getElem_toArray, List.getElem_cons_zero, List.getElem_cons_succ, List.setIfInBounds_toArray, List.set_cons_zero, List.set_cons_succ]
        refine wpAnyH_take (i := 24) (v := undef) rfl (by kernel_rfl) (by kernel_rfl) (by kernel_rfl) (fun _ _ _ h => h) (Or.inr ⟨by rfl, rfl⟩) (by assumption) ?_
        try simp only [Act.put, List.getElem_toArray, List.getElem_cons_zero, List.getElem_cons_succ, List.setIfInBounds_toArray, List.set_cons_zero, List.set_cons_succ]
        refine wpAnyH_take (i := 25) (v := undef) rfl (by kernel_rfl) (by kernel_rfl) (by kernel_rfl) (fun _ _ _ h => h) (Or.inr ⟨by rfl, rfl⟩) (by assumption) ?_
        try simp only [Act.put, List.getElem_toArray, List.getElem_cons_zero, List.getElem_cons_succ, List.setIfInBounds_toArray, List.set_cons_zero, List.set_cons_succ]
        refine wpAnyH_take (i := 26) (v := undef) rfl (by kernel_rfl) (by kernel_rfl) (by kernel_rfl) (fun _ _ _ h => h) (Or.inr ⟨by rfl, rfl⟩) (by assumption) ?_
        try simp only [Act.put, List.getElem_toArray, List.getElem_cons_zero, List.getElem_cons_succ, List.setIfInBounds_toArray, List.set_cons_zero, List.set_cons_succ]
        refine wpAnyH_take (i := 27) (v := undef) rfl (by kernel_rfl) (by kernel_rfl) (by kernel_rfl) (fun _ _ _ h => h) (Or.inr ⟨by rfl, rfl⟩) (by assumption) ?_
        try simp only [Act.put, List.getElem_toArray, List.getElem_cons_zero, List.getElem_cons_succ, List.setIfInBounds_toArray, List.set_cons_zero, List.set_cons_succ]
        refine wpAnyH_take (i := 28) (v := ?_) rfl (by kernel_rfl) (by kernel_rfl) (by kernel_rfl) (fun _ _ _ h => h) (Or.inl ⟨by rfl, ?_⟩) (by assumption) ?_
        rotate_left
        · (intro wS hSw; (try dsimp only at hSw); (first | (go_simp; done) | (go_simp; with_reducible rfl)))
        try simp only [Act.put, List.getElem_toArray, List.getElem_cons_zero, List.getElem_cons_succ, List.setIfInBounds_toArray, List.set_cons_zero, List.set_cons_succ]
        refine wpAnyH_take (i := 29) (v := ?_) rfl (by kernel_rfl) (by kernel_rfl) (by kernel_rfl) (fun _ _ _ h => h) (Or.inl ⟨by rfl, ?_⟩) (by assumption) ?_
        rotate_left
        · (intro wS hSw; (try dsimp only at hSw); (first | (go_simp; done) | (go_simp; with_reducible rfl)))
        try simp only [Act.put, List.getElem_toArray, List.getElem_cons_zero, List.getElem_cons_succ, List.setIfInBounds_toArray, List.set_cons_zero, List.set_cons_succ]
        refine wpAnyH_take (i := 30) (v := ?_) rfl (by kernel_rfl) (by kernel_rfl) (by kernel_rfl) (fun _ _ _ h => h) (Or.inl ⟨by rfl, ?_⟩) (by assumption) ?_
        rotate_left
        · (intro wS hSw; (try dsimp only at hSw); (first | (go_simp; done) | (go_simp; with_reducible rfl)))
        try simp only [Act.put, List.getElem_toArray, List.getElem_cons_zero, List.getElem_cons_succ, List.setIfInBounds_toArray, List.set_cons_zero, List.set_cons_succ]
        refine wpAnyH_done (by kernel_rfl) ?_ _
        refine NoPanic.normal ?_
        go_wp2_with fail
        go_ret
        exact ⟨ret_bool (by first | rfl | (simp; done)), (by first | with_reducible exact BX.out.be | with_reducible exact BX.out.drew_.be | with_reducible exact (BX.out.drewN_ _).be | with_reducible exact BX.out.drew_.drew_.be | with_reducible exact BX.out.drew_.drew_.drew_.be)⟩
set_option maxRecDepth 100000 in
theorem lifted (os : Os) (started : os.Started) (H : Type) (enc : TypeId × Value → H) :
    ReturnsInHanded {} Tryd.checked os 3 .any (fun w args => (Rows.gateJudgesSpec.pre enc Tryd.prog Tryd.f3 Rows.gateJudgesRow.domain false w args ∧ laidMetH Tryd.prog [("overfall/gate.names", Rows.laid_overfall_gate_names)] w) ∧ sizedMet enc Tryd.prog Tryd.f3 (OpenSpec.ofChange Rows.gateJudgesSpec) false w args)
      (Rows.gateJudgesSpec.post enc Tryd.prog Tryd.f3 false true false false) := by
  refine returnsInHanded_of_change_and (C := Tryd.checked) (X := fun w _ => laidMetH Tryd.prog [("overfall/gate.names", Rows.laid_overfall_gate_names)] w) (fun _ _ _ hh h => h.of_heap hh) own started (by kernel_rfl) Tryd.func3
    (ChangeSpec.witness_shaped (enc := enc) (C := Tryd.checked) (os := os) (X := fun w _ => laidMetH Tryd.prog [("overfall/gate.names", Rows.laid_overfall_gate_names)] w) false (World.laidAll Tryd.prog os [("overfall/gate.names", Rows.laid_overfall_gate_names)]) #[.int .u8 0, .int .i64 0, .int .i64 0, .int .i64 0, .int .i64 0, .int .i64 0, .int .i64 0] 8 (World.laidAll_os _ _ _)
      (World.shaped_of_ZipB (by kernel_rfl) (by kernel_rfl)) (by kernel_rfl) (by kernel_rfl) (by kernel_rfl)
      (by rw [MakeChecks.laidMetH_plain _ _ _ (by kernel_rfl)]; exact laidMet_laidAll _ (by kernel_rfl) (by kernel_rfl))) ?_
  intro W base args ds gs before hval0 hW hcnd _ hL _
  have hLO := names_of_laid hL
  have hval : ∀ (j : Nat) t v, Tryd.f3.params[j]? = some t → args[j]? = some v → Value.okWide Tryd.prog W .any base t v := hval0
  have hW' := hW
  obtain ⟨p, q, hA0, hV, rfl, hfz, hnd⟩ := hW
  have hA : DataW.TrodAll enc Tryd.prog W 0 (fun _ => true) true Tryd.f3.params.toList args.toList ds p := hA0
  rw [Tryd.params3] at hA hval
  obtain ⟨v0, vs0, d0, ds0, p0, q0, hargs, rfl, rfl, h0, r0⟩ := trodAll_cons hA
  obtain ⟨v1, vs1, d1, ds1, p1, q1, rfl, rfl, rfl, h1, r1⟩ := trodAll_cons r0
  obtain ⟨v2, vs2, d2, ds2, p2, q2, rfl, rfl, rfl, h2, r2⟩ := trodAll_cons r1
  obtain ⟨v3, vs3, d3, ds3, p3, q3, rfl, rfl, rfl, h3, r3⟩ := trodAll_cons r2
  obtain ⟨v4, vs4, d4, ds4, p4, q4, rfl, rfl, rfl, h4, r4⟩ := trodAll_cons r3
  obtain ⟨v5, vs5, d5, ds5, p5, q5, rfl, rfl, rfl, h5, r5⟩ := trodAll_cons r4
  obtain ⟨v6, vs6, d6, ds6, p6, q6, rfl, rfl, rfl, h6, r6⟩ := trodAll_cons r5
  obtain ⟨rfl, rfl, rfl⟩ := trodAll_nil r6
  obtain rfl : args = #[v0, v1, v2, v3, v4, v5, v6] := by cases args; simp_all
  obtain ⟨rfl, rfl⟩ := trodVars_none hV
  obtain ⟨a0, rfl, rfl, rfl, w0⟩ := open_int Tryd.underlying5 (hval 0 _ v0 rfl rfl) h0
  obtain ⟨a1, rfl, rfl, rfl, w1⟩ := open_int Tryd.underlying2 (hval 1 _ v1 rfl rfl) h1
  obtain ⟨a2, rfl, rfl, rfl, w2⟩ := open_int Tryd.underlying2 (hval 2 _ v2 rfl rfl) h2
  obtain ⟨a3, rfl, rfl, rfl, w3⟩ := open_int Tryd.underlying3 (hval 3 _ v3 rfl rfl) h3
  obtain ⟨a4, rfl, rfl, rfl, w4⟩ := open_int Tryd.underlying3 (hval 4 _ v4 rfl rfl) h4
  obtain ⟨a5, rfl, rfl, rfl, w5⟩ := open_int Tryd.underlying2 (hval 5 _ v5 rfl rfl) h5
  obtain ⟨a6, rfl, rfl, rfl, w6⟩ := open_int Tryd.underlying2 (hval 6 _ v6 rfl rfl) h6
  clear hA0 hval0
  obtain ⟨l0, m0⟩ := wf_u8 w0
  obtain ⟨l1, m1⟩ := wf_i64 w1
  obtain ⟨l2, m2⟩ := wf_i64 w2
  obtain ⟨l3, m3⟩ := wf_i64 w3
  obtain ⟨l4, m4⟩ := wf_i64 w4
  obtain ⟨l5, m5⟩ := wf_i64 w5
  obtain ⟨l6, m6⟩ := wf_i64 w6
  refine (walk a0 a1 a2 a3 a4 a5 a6 W hLO l0 m0 l1 m1 l2 m2 l3 m3 l4 m4 l5 m5 l6 m6).mono fun e W' ⟨he, hg⟩ => ?_
  subst he
  exact ⟨_, rfl, post_of_law hW' rfl laidOut reads rfl Tryd.underlying4 rfl rfl rfl hg⟩
theorem over : Rows.gateJudgesRow.holds Tryd.pinned (OpenSpec.ofChange Rows.gateJudgesSpec) :=
  OpenClaim.holds_of_wide 3 Tryd.f3 rfl rfl rfl rfl rfl rfl rfl ⟨rfl, rfl, rfl, rfl, rfl⟩ rfl rfl rfl rfl rfl (by kernel_rfl) Tryd.func3 (by kernel_rfl)
    (of_decide_eq_true (by kernel_rfl)) (by unfold Func.isWrapper; first | (rw [if_pos (by decide +kernel)]; kernel_rfl) | (rw [if_neg (by decide +kernel)]; exact ⟨rfl, rfl⟩))
    (fun os started H enc _ => lifted os started H enc)
theorem proved : Rows.GateJudgesCardSaid :=
  Claim7.holds_tied_plain_at .later [] [.data] true Rows.gateJudgesCard.stood.harness false over (fun _ h => by cases h) (by kernel_rfl) (fun _ h => by cases h) gateJudges_row_tie rfl ⟨rfl, rfl⟩ (by kernel_rfl) rfl
    (fun f fn hf hfn => by
      obtain rfl : f = 3 := Option.some.inj ((show Tryd.prog.funcNamed "overfall/overfalllaw14.GateJudges" = some 3 by kernel_rfl).symm.trans hf) |>.symm
      obtain rfl : fn = Tryd.f3 := (Option.some.inj (Tryd.func3.symm.trans hfn)).symm
      exact ⟨by kernel_rfl, fun j t ht => by
        have hm : t ∈ Tryd.f3.params.toList := by simpa using Array.mem_of_getElem? ht
        have hall : (Tryd.f3.params.toList.all fun u => !Tryd.prog.wantsStandIn u) = true := by kernel_rfl
        exact (show Tryd.prog.wantsStandIn t = false by simpa using List.all_eq_true.1 hall t hm)⟩)
    (by kernel_rfl)
end Go.Proofs.YtgocnliapkokbaaDoor.gateJudges
