/- The document's area and turns of a way. -/
import Derived.Test.YtcbpocannmconaaSwe
import Derived.Test.YtcbpocannmconaaBxs
import Derived.Deep.RegionHeld3
import Derived.Deep.CutBlock
namespace Go.Proofs.Ytcbpocannmconaa
open Go.RowKit
set_option linter.unusedVariables false
set_option linter.unusedSimpArgs false
def f3 (x y z : Int) : Nat → Int
  | 0 => x
  | 1 => y
  | _ => z
theorem three_pts (w : World) (x0 y0 x1 y1 x2 y2 : Int) (h0 : x0.natAbs ≤ 1048576) (g0 : y0.natAbs ≤ 1048576) (h1 : x1.natAbs ≤ 1048576) (g1 : y1.natAbs ≤ 1048576) (h2 : x2.natAbs ≤ 1048576) (g2 : y2.natAbs ≤ 1048576) :
    RPts (w.alloc (.cells #[.int .i64 x0, .int .i64 y0, .int .i64 x1, .int .i64 y1, .int .i64 x2, .int .i64 y2] 31)) (w.heap.size + 1) (some ⟨w.heap.size, 0, none⟩) 3 (f3 x0 x1 x2) (f3 y0 y1 y2) := by
  intro _
  have hb := Blk.made w 31 #[.int .i64 x0, .int .i64 y0, .int .i64 x1, .int .i64 y1, .int .i64 x2, .int .i64 y2]
  refine ⟨w.heap.size, 0, rfl, by omega, fun i hi => ?_⟩
  match i, hi with
  | 0, _ => exact ⟨hb.val rfl, hb.val rfl, h0, g0⟩
  | 1, _ => exact ⟨hb.val rfl, hb.val rfl, h1, g1⟩
  | 2, _ => exact ⟨hb.val rfl, hb.val rfl, h2, g2⟩
theorem side_eq (x0 y0 x1 y1 x2 y2 : Int) : areaS (f3 x0 x1 x2) (f3 y0 y1 y2) 3 3 = (x1 - x0) * (y2 - y0) - (y1 - y0) * (x2 - x0) := by
  show 0 + (x0 * y1 - y0 * x1) + (x1 * y2 - y1 * x2) + (x2 * y0 - y2 * x0) = _
  rw [Int.sub_mul, Int.mul_sub, Int.mul_sub, Int.sub_mul, Int.mul_sub, Int.mul_sub, Int.mul_comm y0 x1, Int.mul_comm x2 y0, Int.mul_comm y2 x0, Int.mul_comm x0 y1, Int.mul_comm y0 x0]
  omega
theorem turnO_int (x y q sd : Int) : turnO (compare x q) (compare y q) sd = if x ≤ q ∧ q < y ∧ 0 < sd then 1 else if q < x ∧ y ≤ q ∧ sd < 0 then -1 else 0 := by
  rcases cmp_cases x q with ⟨h, c⟩ | ⟨h, c⟩ | ⟨h, c⟩ <;> rcases cmp_cases y q with ⟨h', c'⟩ | ⟨h', c'⟩ | ⟨h', c'⟩ <;> rw [c, c'] <;> unfold turnO <;> simp <;> (repeat' split) <;> omega
section
variable {A : Option Addr} {len cap B : Nat} {a b : Nat → Int} {w : World}
set_option maxRecDepth 100000 in
set_option maxHeartbeats 4000000 in
theorem rarea_any (hp : RPts w B A len a b) (hB : B ≤ w.heap.size) (hl : len ≤ 1000) :
    Calls Try.prog 12 #[.slice A len cap] w fun e w' => e = .returned (.int .i64 (areaS a b len len)) ∧ Below w.heap.size w w' := by
  have HP := Lib.hid hp
  clear hp
  go_enter Try.func12, Try.ntmps12
  go_wp2_with fail
  go_loopw [3, 4] (fun s3 s4 wr => ∃ k : Nat, k ≤ len ∧ s4 = .int .i64 k ∧ s3 = .int .i64 (areaS a b len k) ∧ Bxs w wr []) (fun _ i _ => len - (intOf i).toNat)
  case atStart => exact ⟨0, Nat.zero_le _, rfl, rfl, Bxs.nil_ w⟩
  case round =>
    obtain ⟨k, hk, rfl, rfl, bx⟩ := hrel
    have BX := Lib.hid bx
    clear bx
    by_cases hlt : k < len
    · obtain ⟨kb, ko, rfl, hkb, hc⟩ := HP.out (by omega)
      obtain ⟨j, hj⟩ : ∃ j, (k + 1) % len = j := ⟨_, rfl⟩
      have hjl : j < len := by rw [← hj]; exact Nat.mod_lt _ (by omega)
      have hl0 : ¬ len = 0 := by omega
      have hl1 : ¬ (len : Int) = 0 := by omega
      obtain ⟨q0, q1, g0, g1⟩ := hc k hlt
      obtain ⟨q2, q3, g2, g3⟩ := hc j hjl
      have hkw : kb < w.heap.size := by omega
      have kc := fun i => BX.out.be.cell (p := ⟨kb, i, none⟩) hkw
      rw [← kc] at q0 q1 q2 q3
      clear kc
      have hr : kb < wr.heap.size := by have := BX.out.be.size; omega
      have ht : ((k : Int) + 1).tmod (len : Int) = (j : Int) := by rw [tmod_nat, hj]
      have ht2 : ((k : Int) + 1) % (len : Int) = (j : Int) := by rw [← hj]; rfl
      have hw1 : IntKind.i64.wrap ((k : Int) + 1) = (k : Int) + 1 := IntWalk.i64_in _ (by omega)
      have cd := crossZ_in (a := a) (b := b) (i := k) (j := j) g0 g1 g2 g3
      have bd := areaS_in (a := a) (b := b) (n := len) (fun i hi => (hc i hi).2.2) k hk
      have n1 := abs_mul g0 g3
      have n2 := abs_mul g1 g2
      have w1 : IntKind.i64.wrap (a k * b j) = a k * b j := IntWalk.i64_in _ (by omega)
      have w2 : IntKind.i64.wrap (b k * a j) = b k * a j := IntWalk.i64_in _ (by omega)
      have w3 : IntKind.i64.wrap (a k * b j - b k * a j) = a k * b j - b k * a j := IntWalk.i64_in _ (by omega)
      have w4 : IntKind.i64.wrap (areaS a b len k + (a k * b j - b k * a j)) = areaS a b len k + (a k * b j - b k * a j) := IntWalk.i64_in _ (by unfold crossZ at cd; omega)
      have HJ := Lib.hid hj
      clear hc g0 g1 g2 g3 cd bd n1 n2 hj
      go_upto_region 5 with fail
      go_cut [5, 6] from 7 to 37 (fun s5 s6 wx => ∃ g h : Nat, s5 = .pointer (some ⟨g, 0, none⟩) ∧ s6 = .pointer (some ⟨h, 0, none⟩) ∧ Bxs w wx [(g, 31, [.int .i64 ((a k)), .int .i64 ((b k))]), (h, 31, [.int .i64 ((a j)), .int .i64 ((b j))])])
      case first =>
        go_region_held3 (fun w' => w'.cell? ⟨kb, ko + k * 2, none⟩ = some (.int .i64 (a k)) ∧ w'.cell? ⟨kb, ko + k * 2 + 1, none⟩ = some (.int .i64 (b k)) ∧ w'.cell? ⟨kb, ko + j * 2, none⟩ = some (.int .i64 (a j)) ∧ w'.cell? ⟨kb, ko + j * 2 + 1, none⟩ = some (.int .i64 (b j))) (repeat (first | with_reducible assumption | refine ⟨?_, ?_⟩ | with_reducible refine kdrew ?_ | with_reducible refine kalloc ?_ _ | with_reducible refine kother ?_ (by simp; try omega))) (fail)
        all_goals (go_wp2_with fail; go_meet; first | exact ⟨_, _, rfl, rfl, ((BX.out.alloc_ (g := wr.heap.size) [.int .i64 (a k), .int .i64 (b k)] 31 rfl).alloc_ (g := wr.heap.size + 1) [.int .i64 (a j), .int .i64 (b j)] 31 (by simp)).drew_⟩ | exact ⟨_, _, rfl, rfl, (((BX.out.alloc_ (g := wr.heap.size) [.int .i64 (a j), .int .i64 (b j)] 31 rfl).alloc_ (g := wr.heap.size + 1) [.int .i64 (a k), .int .i64 (b k)] 31 (by simp)).drew_).some_ _ (fun i => if i = 0 then 1 else if i = 1 then 0 else i) (by intro i e hi; match i, hi with | 0, hi => exact hi | 1, hi => exact hi | i + 2, hi => simp at hi) (by intro i j hi hj e; (try dsimp only at e); (try split at e) <;> (try split at e) <;> (try split at e) <;> (try split at e) <;> omega)⟩)
      case rest =>
        clear BX q0 q1 q2 q3 ht ht2
        obtain ⟨g, h, rfl, rfl, bx⟩ := hcut
        have BX := Lib.hid bx
        clear bx
        have p0_0 : wc.cell? ⟨g, 0, none⟩ = some (.int .i64 ((a k))) := (BX.out.bl 0 _ _ _ rfl).val rfl
        have p0_1 : wc.cell? ⟨g, 1, none⟩ = some (.int .i64 ((b k))) := (BX.out.bl 0 _ _ _ rfl).val rfl
        have z0 : ∀ k, wc.frozen? ⟨g, k, none⟩ = false := (BX.out.bl 0 _ _ _ rfl).free
        have y0 : g < wc.heap.size := (BX.out.bl 0 _ _ _ rfl).size
        have p1_0 : wc.cell? ⟨h, 0, none⟩ = some (.int .i64 ((a j))) := (BX.out.bl 1 _ _ _ rfl).val rfl
        have p1_1 : wc.cell? ⟨h, 1, none⟩ = some (.int .i64 ((b j))) := (BX.out.bl 1 _ _ _ rfl).val rfl
        have z1 : ∀ k, wc.frozen? ⟨h, k, none⟩ = false := (BX.out.bl 1 _ _ _ rfl).free
        have y1 : h < wc.heap.size := (BX.out.bl 1 _ _ _ rfl).size
        go_wp2_with fail
        go_roundw
        case rel => exact ⟨k + 1, by omega, by go_num, by show _ = Value.int .i64 (areaS a b len k + crossZ a b k ((k + 1) % len)); rw [HJ.out]; rfl, BX.out.first_ 0⟩
        case measure => simp [intOf]; omega
    · obtain rfl : k = len := by omega
      go_wp2_with fail
      go_ret
      exact ⟨rfl, BX.out.be⟩
set_option maxRecDepth 100000 in
set_option maxHeartbeats 4000000 in
theorem rturns_any {p q : Int} (hp : RPts w B A len a b) (hB : B ≤ w.heap.size) (g5 : p.natAbs ≤ 1048576) (g6 : q.natAbs ≤ 1048576) (hl : len ≤ 1000) :
    Calls Try.prog 16 #[.slice A len cap, .agg #[.int .i64 p, .int .i64 q]] w fun e w' => e = .returned (.int .i64 (turnS a b p q len len)) ∧ Below w.heap.size w w' := by
  have HP := Lib.hid hp
  clear hp
  go_enter Try.func16, Try.ntmps16
  go_upto_region 1 with fail
  refine wp_worldx (fun wx => Bxs w wx [(w.heap.size, 31, [.int .i64 p, .int .i64 q])]) ((Bxs.nil_ w).alloc_ _ _ (by simp)) ?_
  rintro x1 bx
  have BX := Lib.hid bx
  clear bx
  have p0_0 : x1.cell? ⟨w.heap.size, 0, none⟩ = some (.int .i64 p) := (BX.out.bl 0 _ _ _ rfl).val rfl
  have p0_1 : x1.cell? ⟨w.heap.size, 1, none⟩ = some (.int .i64 q) := (BX.out.bl 0 _ _ _ rfl).val rfl
  have z0 : ∀ k, x1.frozen? ⟨w.heap.size, k, none⟩ = false := (BX.out.bl 0 _ _ _ rfl).free
  have y0 : w.heap.size < x1.heap.size := (BX.out.bl 0 _ _ _ rfl).size
  go_wp2_with fail
  go_loopw [5, 6] (fun s5 s6 wr => ∃ k : Nat, k ≤ len ∧ s6 = .int .i64 k ∧ s5 = .int .i64 (turnS a b p q len k) ∧ Bxs w wr [(w.heap.size, 31, [.int .i64 p, .int .i64 q])]) (fun _ i _ => len - (intOf i).toNat)
  case atStart => exact ⟨0, Nat.zero_le _, rfl, rfl, BX.out⟩
  case round =>
    clear p0_0 p0_1 z0 y0
    clear BX
    obtain ⟨k, hk, rfl, rfl, bx⟩ := hrel
    have BX := Lib.hid bx
    clear bx
    have p0_0 : wr.cell? ⟨w.heap.size, 0, none⟩ = some (.int .i64 p) := (BX.out.bl 0 _ _ _ rfl).val rfl
    have p0_1 : wr.cell? ⟨w.heap.size, 1, none⟩ = some (.int .i64 q) := (BX.out.bl 0 _ _ _ rfl).val rfl
    have z0 : ∀ k, wr.frozen? ⟨w.heap.size, k, none⟩ = false := (BX.out.bl 0 _ _ _ rfl).free
    have y0 : w.heap.size < wr.heap.size := (BX.out.bl 0 _ _ _ rfl).size
    by_cases hlt : k < len
    · obtain ⟨kb, ko, rfl, hkb, hc⟩ := HP.out (by omega)
      obtain ⟨j, hj⟩ : ∃ j, (k + 1) % len = j := ⟨_, rfl⟩
      have hjl : j < len := by rw [← hj]; exact Nat.mod_lt _ (by omega)
      have hl0 : ¬ len = 0 := by omega
      have hl1 : ¬ (len : Int) = 0 := by omega
      obtain ⟨q0, q1, g0, g1⟩ := hc k hlt
      obtain ⟨q2, q3, g2, g3⟩ := hc j hjl
      have hkw : kb < w.heap.size := by omega
      have kc := fun i => BX.out.be.cell (p := ⟨kb, i, none⟩) hkw
      rw [← kc] at q0 q1 q2 q3
      clear kc
      have hr : kb < wr.heap.size := by have := BX.out.be.size; omega
      have ht : ((k : Int) + 1).tmod (len : Int) = (j : Int) := by rw [tmod_nat, hj]
      have ht2 : ((k : Int) + 1) % (len : Int) = (j : Int) := by rw [← hj]; rfl
      have hw1 : IntKind.i64.wrap ((k : Int) + 1) = (k : Int) + 1 := IntWalk.i64_in _ (by omega)
      have bd := turnS_in a b p q len k
      obtain ⟨sd, hsd⟩ : ∃ sd, areaS (f3 (a k) (a j) p) (f3 (b k) (b j) q) 3 3 = sd := ⟨_, rfl⟩
      have hsz : sideZ a b p q k j = sd := by rw [← hsd, side_eq]; rfl
      have HSD := Lib.hid hsd
      have HSZ := Lib.hid hsz
      have HJ := Lib.hid hj
      have HR3 := Lib.hid (fun W => three_pts W (a k) (b k) (a j) (b j) p q g0 g1 g2 g3 g5 g6)
      clear hc g0 g1 g2 g3 hj hsd hsz
      go_upto_region 5 with fail
      go_cut [7, 8] from 10 to 68 (fun s7 s8 wx => ∃ g h : Nat, s7 = .pointer (some ⟨g, 0, none⟩) ∧ s8 = .pointer (some ⟨h, 0, none⟩) ∧ Bxs w wx [(w.heap.size, 31, [.int .i64 p, .int .i64 q]), (g, 31, [.int .i64 ((a k)), .int .i64 ((b k))]), (h, 31, [.int .i64 ((a j)), .int .i64 ((b j))])])
      case first =>
        go_region_held3 (fun w' => w'.cell? ⟨kb, ko + k * 2, none⟩ = some (.int .i64 (a k)) ∧ w'.cell? ⟨kb, ko + k * 2 + 1, none⟩ = some (.int .i64 (b k)) ∧ w'.cell? ⟨kb, ko + j * 2, none⟩ = some (.int .i64 (a j)) ∧ w'.cell? ⟨kb, ko + j * 2 + 1, none⟩ = some (.int .i64 (b j))) (repeat (first | with_reducible assumption | refine ⟨?_, ?_⟩ | with_reducible refine kdrew ?_ | with_reducible refine kalloc ?_ _ | with_reducible refine kother ?_ (by simp; try omega))) (fail)
        all_goals (go_wp2_with fail; go_meet; first | exact ⟨_, _, rfl, rfl, ((BX.out.alloc_ (g := wr.heap.size) [.int .i64 (a k), .int .i64 (b k)] 31 rfl).alloc_ (g := wr.heap.size + 1) [.int .i64 (a j), .int .i64 (b j)] 31 (by simp)).drew_⟩ | exact ⟨_, _, rfl, rfl, (((BX.out.alloc_ (g := wr.heap.size) [.int .i64 (a j), .int .i64 (b j)] 31 rfl).alloc_ (g := wr.heap.size + 1) [.int .i64 (a k), .int .i64 (b k)] 31 (by simp)).drew_).some_ _ (fun i => if i = 1 then 2 else if i = 2 then 1 else i) (by intro i e hi; match i, hi with | 0, hi => exact hi | 1, hi => exact hi | 2, hi => exact hi | i + 3, hi => simp at hi) (by intro i j hi hj e; (try dsimp only at e); (try split at e) <;> (try split at e) <;> (try split at e) <;> (try split at e) <;> omega)⟩)
      case rest =>
        clear p0_0 p0_1 z0 y0
        clear BX q0 q1 q2 q3 ht ht2
        obtain ⟨g, h, rfl, rfl, bx⟩ := hcut
        have BX := Lib.hid bx
        clear bx
        have p0_0 : wc.cell? ⟨w.heap.size, 0, none⟩ = some (.int .i64 p) := (BX.out.bl 0 _ _ _ rfl).val rfl
        have p0_1 : wc.cell? ⟨w.heap.size, 1, none⟩ = some (.int .i64 q) := (BX.out.bl 0 _ _ _ rfl).val rfl
        have z0 : ∀ k, wc.frozen? ⟨w.heap.size, k, none⟩ = false := (BX.out.bl 0 _ _ _ rfl).free
        have y0 : w.heap.size < wc.heap.size := (BX.out.bl 0 _ _ _ rfl).size
        have p1_0 : wc.cell? ⟨g, 0, none⟩ = some (.int .i64 ((a k))) := (BX.out.bl 1 _ _ _ rfl).val rfl
        have p1_1 : wc.cell? ⟨g, 1, none⟩ = some (.int .i64 ((b k))) := (BX.out.bl 1 _ _ _ rfl).val rfl
        have z1 : ∀ k, wc.frozen? ⟨g, k, none⟩ = false := (BX.out.bl 1 _ _ _ rfl).free
        have y1 : g < wc.heap.size := (BX.out.bl 1 _ _ _ rfl).size
        have p2_0 : wc.cell? ⟨h, 0, none⟩ = some (.int .i64 ((a j))) := (BX.out.bl 2 _ _ _ rfl).val rfl
        have p2_1 : wc.cell? ⟨h, 1, none⟩ = some (.int .i64 ((b j))) := (BX.out.bl 2 _ _ _ rfl).val rfl
        have z2 : ∀ k, wc.frozen? ⟨h, k, none⟩ = false := (BX.out.bl 2 _ _ _ rfl).free
        have y2 : h < wc.heap.size := (BX.out.bl 2 _ _ _ rfl).size
        go_wp2_with fail
        refine (rarea_any (len := 3) (HR3.out wc) (by simp) (by omega)).mono ?_
        rw [HSD.out]
        rintro e wq ⟨rfl, hb⟩
        have bx : Bxs w wq [(w.heap.size, 31, [.int .i64 p, .int .i64 q]), (g, 31, [.int .i64 ((a k)), .int .i64 ((b k))]), (h, 31, [.int .i64 ((a j)), .int .i64 ((b j))])] := ((BX.out.alloc_ (g := wc.heap.size) [.int .i64 ((a k)), .int .i64 ((b k)), .int .i64 ((a j)), .int .i64 ((b j)), .int .i64 p, .int .i64 q] 31 rfl).first_ 3).below hb
        clear p0_0 p0_1 z0 y0 p1_0 p1_1 z1 y1 p2_0 p2_1 z2 y2
        clear hb BX
        have BX := Lib.hid bx
        clear bx
        have p0_0 : wq.cell? ⟨w.heap.size, 0, none⟩ = some (.int .i64 p) := (BX.out.bl 0 _ _ _ rfl).val rfl
        have p0_1 : wq.cell? ⟨w.heap.size, 1, none⟩ = some (.int .i64 q) := (BX.out.bl 0 _ _ _ rfl).val rfl
        have z0 : ∀ k, wq.frozen? ⟨w.heap.size, k, none⟩ = false := (BX.out.bl 0 _ _ _ rfl).free
        have y0 : w.heap.size < wq.heap.size := (BX.out.bl 0 _ _ _ rfl).size
        have p1_0 : wq.cell? ⟨g, 0, none⟩ = some (.int .i64 ((a k))) := (BX.out.bl 1 _ _ _ rfl).val rfl
        have p1_1 : wq.cell? ⟨g, 1, none⟩ = some (.int .i64 ((b k))) := (BX.out.bl 1 _ _ _ rfl).val rfl
        have z1 : ∀ k, wq.frozen? ⟨g, k, none⟩ = false := (BX.out.bl 1 _ _ _ rfl).free
        have y1 : g < wq.heap.size := (BX.out.bl 1 _ _ _ rfl).size
        have p2_0 : wq.cell? ⟨h, 0, none⟩ = some (.int .i64 ((a j))) := (BX.out.bl 2 _ _ _ rfl).val rfl
        have p2_1 : wq.cell? ⟨h, 1, none⟩ = some (.int .i64 ((b j))) := (BX.out.bl 2 _ _ _ rfl).val rfl
        have z2 : ∀ k, wq.frozen? ⟨h, k, none⟩ = false := (BX.out.bl 2 _ _ _ rfl).free
        have y2 : h < wq.heap.size := (BX.out.bl 2 _ _ _ rfl).size
        go_upto_region 7 with fail
        by_cases h1 : b k ≤ q
        · have d5 : decide (q < b k) = false := by simp; omega
          by_cases h2 : q < b j
          · by_cases h3 : 0 < sd
            · have d1 : decide (b k ≤ q) = true := by simp; omega
              have d2 : decide (q < b j) = true := by simp; omega
              have d3 : decide (0 < sd) = true := by simp; omega
              have hz : turnZ a b p q k j = 1 := by unfold turnZ; rw [HSZ.out, turnO_int]; rw [if_pos ⟨h1, h2, h3⟩]
              have wz : IntKind.i64.wrap (turnS a b p q len k + 1) = turnS a b p q len k + 1 := IntWalk.i64_in _ (by omega)
              have HZ := Lib.hid hz
              clear hz
              go_wp2_with fail
              go_roundw
              case rel => exact ⟨k + 1, by omega, by go_num, congrArg (Value.int IntKind.i64) (by show _ = turnS a b p q len k + turnZ a b p q k ((k + 1) % len); rw [HJ.out, HZ.out]; (try omega)), BX.out.first_ 1⟩
              case measure => simp [intOf]; omega
            · have d1 : decide (b k ≤ q) = true := by simp; omega
              have d2 : decide (q < b j) = true := by simp; omega
              have d3 : decide (0 < sd) = false := by simp; omega
              have hz : turnZ a b p q k j = 0 := by unfold turnZ; rw [HSZ.out, turnO_int]; rw [if_neg (by omega), if_neg (by omega)]
              have HZ := Lib.hid hz
              clear hz
              go_wp2_with fail
              go_roundw
              case rel => exact ⟨k + 1, by omega, by go_num, congrArg (Value.int IntKind.i64) (by show _ = turnS a b p q len k + turnZ a b p q k ((k + 1) % len); rw [HJ.out, HZ.out]; (try omega)), BX.out.first_ 1⟩
              case measure => simp [intOf]; omega
          · have d1 : decide (b k ≤ q) = true := by simp; omega
            have d2 : decide (q < b j) = false := by simp; omega
            have hz : turnZ a b p q k j = 0 := by unfold turnZ; rw [HSZ.out, turnO_int]; rw [if_neg (by omega), if_neg (by omega)]
            have HZ := Lib.hid hz
            clear hz
            go_wp2_with fail
            go_roundw
            case rel => exact ⟨k + 1, by omega, by go_num, congrArg (Value.int IntKind.i64) (by show _ = turnS a b p q len k + turnZ a b p q k ((k + 1) % len); rw [HJ.out, HZ.out]; (try omega)), BX.out.first_ 1⟩
            case measure => simp [intOf]; omega
        · have d5 : decide (q < b k) = true := by simp; omega
          have d1 : decide (b k ≤ q) = false := by simp; omega
          by_cases h2 : b j ≤ q
          · by_cases h3 : sd < 0
            · have d2 : decide (b j ≤ q) = true := by simp; omega
              have d3 : decide (sd < 0) = true := by simp; omega
              have hz : turnZ a b p q k j = -1 := by unfold turnZ; rw [HSZ.out, turnO_int]; rw [if_neg (by omega), if_pos ⟨by omega, h2, h3⟩]
              have wz : IntKind.i64.wrap (turnS a b p q len k - 1) = turnS a b p q len k - 1 := IntWalk.i64_in _ (by omega)
              have HZ := Lib.hid hz
              clear hz
              go_wp2_with fail
              go_roundw
              case rel => exact ⟨k + 1, by omega, by go_num, congrArg (Value.int IntKind.i64) (by show _ = turnS a b p q len k + turnZ a b p q k ((k + 1) % len); rw [HJ.out, HZ.out]; (try omega)), BX.out.first_ 1⟩
              case measure => simp [intOf]; omega
            · have d2 : decide (b j ≤ q) = true := by simp; omega
              have d3 : decide (sd < 0) = false := by simp; omega
              have hz : turnZ a b p q k j = 0 := by unfold turnZ; rw [HSZ.out, turnO_int]; rw [if_neg (by omega), if_neg (by omega)]
              have HZ := Lib.hid hz
              clear hz
              go_wp2_with fail
              go_roundw
              case rel => exact ⟨k + 1, by omega, by go_num, congrArg (Value.int IntKind.i64) (by show _ = turnS a b p q len k + turnZ a b p q k ((k + 1) % len); rw [HJ.out, HZ.out]; (try omega)), BX.out.first_ 1⟩
              case measure => simp [intOf]; omega
          · have d2 : decide (b j ≤ q) = false := by simp; omega
            have hz : turnZ a b p q k j = 0 := by unfold turnZ; rw [HSZ.out, turnO_int]; rw [if_neg (by omega), if_neg (by omega)]
            have HZ := Lib.hid hz
            clear hz
            go_wp2_with fail
            go_roundw
            case rel => exact ⟨k + 1, by omega, by go_num, congrArg (Value.int IntKind.i64) (by show _ = turnS a b p q len k + turnZ a b p q k ((k + 1) % len); rw [HJ.out, HZ.out]; (try omega)), BX.out.first_ 1⟩
            case measure => simp [intOf]; omega
    · obtain rfl : k = len := by omega
      go_wp2_with fail
      go_ret
      exact ⟨rfl, BX.out.be⟩
end
end Go.Proofs.Ytcbpocannmconaa
