/- ModeDwells is true of all params, every time and every list of times later, stays and backlogs, and changes nothing that it was given. -/
import Derived.Test.YtmkdmjcmgbpomaaModb
import Derived.Test.YtmkdmjcmgbpomaaMst
import Derived.Test.YtmkdmjcmgbpomaaHelpb
import Derived.Test.YtmkdmjcmgbpomaaHelpc
import Derived.Test.YtmkdmjcmgbpomaaRowb
import Derived.Test.YtmkdmjcmgbpomaaRows
import Derived.WalkKit
import Derived.ProofKit
import Derived.OpenShut
import Derived.Deep.DeepCutAuto
import Derived.Deep.CutBlock
import Derived.BigQuiet
import Derived.Deep.QuietTactic
import Derived.Deep.RegionHeld3
namespace Go.Proofs.Ytmkdmjcmgbpomaa.modeDwells
open Go.ChangeShapes Go.WideShapes Go.ChangeAt Go.RowKit Kn
set_option linter.unusedVariables false
theorem own : ownKnob Try.prog.godebug = none := by kernel_rfl
theorem laidOut : laidOutB Try.prog = true := by kernel_rfl
theorem reads : (Try.f4.params.toList.all fun t => Try.prog.readableRec t && decide (t < Try.prog.types.size)) = true := by kernel_rfl
set_option linter.unusedSimpArgs false
theorem turn_cases (s : Mst) (hi lo dw now old bk : Int) : turnM s hi lo dw now old bk = s ∨ wantM s.li hi lo old bk = !s.li ∧ turnM s hi lo dw now old bk = ⟨!s.li, now, (s.tu + 1) % 18446744073709551616⟩ := by
  unfold turnM
  split
  · exact .inl rfl
  · rename_i h
    refine .inr ⟨?_, rfl⟩
    cases hw : wantM s.li hi lo old bk <;> cases hl : s.li <;> simp_all
set_option maxRecDepth 100000 in
set_option maxHeartbeats 4000000 in
theorem walk (hi lo dw now : Int) (A : Option Addr) (len cap : Nat) (Q : Nat → Sn) (w : World) (hl : len ≤ cap) (hc : cap ≤ maxLen) (hQ : SeqAt w w.heap.size A len 3 (fun i => snRow (Q i))) (hok : ∀ i, i < len → (Q i).ok) (hi0 : -9223372036854775808 ≤ hi) (hi1 : hi ≤ 9223372036854775807) (lo0 : -9223372036854775808 ≤ lo) (lo1 : lo ≤ 9223372036854775807) (dw0 : -9223372036854775808 ≤ dw) (dw1 : dw ≤ 9223372036854775807) (now0 : -9223372036854775808 ≤ now) (now1 : now ≤ 9223372036854775807) :
    Calls Try.prog 4 #[.agg #[.int .i64 hi, .int .i64 lo, .int .i64 dw], .int .i64 now, .slice A len cap] w fun e w' => e = .returned (.bool true) ∧ Below w.heap.size w w' := by
  unfold maxLen at hc
  have HQ := Lib.hid hQ
  have HOK := Lib.hid hok
  clear hQ hok
  go_enter Try.func4, Try.ntmps4
  go_upto_region 1 with fail
  refine wp_worldx (fun wx => Bxs w wx [(w.heap.size, 26, [.int .i64 hi, .int .i64 lo, .int .i64 dw])]) ((Bxs.nil_ w).alloc_ _ _ (by simp)) ?_
  rintro x1 bx
  have BX := Lib.hid bx
  clear bx
  have p0_0 : x1.cell? ⟨w.heap.size, 0, none⟩ = some (.int .i64 hi) := (BX.out.bl 0 _ _ _ rfl).val rfl
  have p0_1 : x1.cell? ⟨w.heap.size, 1, none⟩ = some (.int .i64 lo) := (BX.out.bl 0 _ _ _ rfl).val rfl
  have p0_2 : x1.cell? ⟨w.heap.size, 2, none⟩ = some (.int .i64 dw) := (BX.out.bl 0 _ _ _ rfl).val rfl
  have z0 : ∀ k, x1.frozen? ⟨w.heap.size, k, none⟩ = false := (BX.out.bl 0 _ _ _ rfl).free
  have y0 : w.heap.size < x1.heap.size := (BX.out.bl 0 _ _ _ rfl).size
  go_wp2_with fail
  refine (awake10 _).mono ?_
  rintro e x2 ⟨rfl, hb⟩
  have bx : Bxs w x2 [(w.heap.size, 26, [.int .i64 hi, .int .i64 lo, .int .i64 dw])] := (BX.out).below hb
  clear p0_0 p0_1 p0_2 z0 y0
  clear hb BX
  have BX := Lib.hid bx
  clear bx
  have p0_0 : x2.cell? ⟨w.heap.size, 0, none⟩ = some (.int .i64 hi) := (BX.out.bl 0 _ _ _ rfl).val rfl
  have p0_1 : x2.cell? ⟨w.heap.size, 1, none⟩ = some (.int .i64 lo) := (BX.out.bl 0 _ _ _ rfl).val rfl
  have p0_2 : x2.cell? ⟨w.heap.size, 2, none⟩ = some (.int .i64 dw) := (BX.out.bl 0 _ _ _ rfl).val rfl
  have z0 : ∀ k, x2.frozen? ⟨w.heap.size, k, none⟩ = false := (BX.out.bl 0 _ _ _ rfl).free
  have y0 : w.heap.size < x2.heap.size := (BX.out.bl 0 _ _ _ rfl).size
  go_upto_region 4 with fail
  clear p0_0 p0_1 p0_2 z0 y0
  refine wp_worldx (fun wx => Bxs w wx [(w.heap.size, 26, [.int .i64 hi, .int .i64 lo, .int .i64 dw]), (x2.heap.size, 24, [.bool false, .int .i64 0, .int .u64 0])]) ((BX.out).alloc_ _ _ (by simp)) ?_
  clear BX
  rintro x3 bx
  have BX := Lib.hid bx
  clear bx
  have p0_0 : x3.cell? ⟨w.heap.size, 0, none⟩ = some (.int .i64 hi) := (BX.out.bl 0 _ _ _ rfl).val rfl
  have p0_1 : x3.cell? ⟨w.heap.size, 1, none⟩ = some (.int .i64 lo) := (BX.out.bl 0 _ _ _ rfl).val rfl
  have p0_2 : x3.cell? ⟨w.heap.size, 2, none⟩ = some (.int .i64 dw) := (BX.out.bl 0 _ _ _ rfl).val rfl
  have z0 : ∀ k, x3.frozen? ⟨w.heap.size, k, none⟩ = false := (BX.out.bl 0 _ _ _ rfl).free
  have y0 : w.heap.size < x3.heap.size := (BX.out.bl 0 _ _ _ rfl).size
  have p1_0 : x3.cell? ⟨x2.heap.size, 0, none⟩ = some (.bool false) := (BX.out.bl 1 _ _ _ rfl).val rfl
  have p1_1 : x3.cell? ⟨x2.heap.size, 1, none⟩ = some (.int .i64 0) := (BX.out.bl 1 _ _ _ rfl).val rfl
  have p1_2 : x3.cell? ⟨x2.heap.size, 2, none⟩ = some (.int .u64 0) := (BX.out.bl 1 _ _ _ rfl).val rfl
  have z1 : ∀ k, x3.frozen? ⟨x2.heap.size, k, none⟩ = false := (BX.out.bl 1 _ _ _ rfl).free
  have y1 : x2.heap.size < x3.heap.size := (BX.out.bl 1 _ _ _ rfl).size
  go_wp2_with fail
  go_loopw [1, 8, 9, 18] (fun s1 s8 s9 s18 wr => ∃ (k : Nat) (now si tu : Int) (li : Bool), k ≤ len ∧ s18 = .int .i64 k ∧ s1 = .int .i64 now ∧ s8 = .int .i64 si ∧ s9 = .int .u64 tu ∧ (-9223372036854775808 ≤ now ∧ now ≤ 9223372036854775807) ∧ (⟨li, si, tu⟩ : Mst).ok ∧ tu ≤ k ∧ Bxs w wr [(w.heap.size, 26, [.int .i64 hi, .int .i64 lo, .int .i64 dw]), (x2.heap.size, 24, [.bool li, .int .i64 si, .int .u64 tu])]) (fun _ _ _ i _ => len - (intOf i).toNat)
  case atStart => exact ⟨0, now, 0, 0, false, Nat.zero_le _, rfl, rfl, rfl, rfl, ⟨now0, now1⟩, ⟨by decide, by decide, by decide, by decide⟩, by decide, BX.out⟩
  case round =>
    clear p0_0 p0_1 p0_2 z0 y0 p1_0 p1_1 p1_2 z1 y1
    clear BX now0 now1
    obtain ⟨k, now, si, tu, li, hk, rfl, rfl, rfl, rfl, ⟨now0, now1⟩, so, htk, bx⟩ := hrel
    have SO := Lib.hid so
    clear so
    have BX := Lib.hid bx
    clear bx
    have p0_0 : wr.cell? ⟨w.heap.size, 0, none⟩ = some (.int .i64 hi) := (BX.out.bl 0 _ _ _ rfl).val rfl
    have p0_1 : wr.cell? ⟨w.heap.size, 1, none⟩ = some (.int .i64 lo) := (BX.out.bl 0 _ _ _ rfl).val rfl
    have p0_2 : wr.cell? ⟨w.heap.size, 2, none⟩ = some (.int .i64 dw) := (BX.out.bl 0 _ _ _ rfl).val rfl
    have z0 : ∀ k, wr.frozen? ⟨w.heap.size, k, none⟩ = false := (BX.out.bl 0 _ _ _ rfl).free
    have y0 : w.heap.size < wr.heap.size := (BX.out.bl 0 _ _ _ rfl).size
    have p1_0 : wr.cell? ⟨x2.heap.size, 0, none⟩ = some (.bool li) := (BX.out.bl 1 _ _ _ rfl).val rfl
    have p1_1 : wr.cell? ⟨x2.heap.size, 1, none⟩ = some (.int .i64 si) := (BX.out.bl 1 _ _ _ rfl).val rfl
    have p1_2 : wr.cell? ⟨x2.heap.size, 2, none⟩ = some (.int .u64 tu) := (BX.out.bl 1 _ _ _ rfl).val rfl
    have z1 : ∀ k, wr.frozen? ⟨x2.heap.size, k, none⟩ = false := (BX.out.bl 1 _ _ _ rfl).free
    have y1 : x2.heap.size < wr.heap.size := (BX.out.bl 1 _ _ _ rfl).size
    by_cases hlt : k < len
    · obtain ⟨kb, ko, rfl, hkb, hkc⟩ := HQ.out (by omega)
      have hq : ∀ j, j < 3 → wr.cell? ⟨kb, ko + k * 3 + j, none⟩ = (snRow (Q k))[j]? := fun j hj => (BX.out.be.cell hkb).trans (hkc k hlt j hj)
      have hqk := HOK.out k hlt
      obtain ⟨⟨l, o, b⟩, hqe⟩ : ∃ q, Q k = q := ⟨_, rfl⟩
      rw [hqe] at hq hqk
      obtain ⟨⟨l0, l1⟩, ⟨o0, o1⟩, ⟨b0, b1⟩⟩ : (-9223372036854775808 ≤ l ∧ l ≤ 9223372036854775807) ∧ (-9223372036854775808 ≤ o ∧ o ≤ 9223372036854775807) ∧ (-9223372036854775808 ≤ b ∧ b ≤ 9223372036854775807) := hqk
      have q0 : wr.cell? ⟨kb, ko + k * 3, none⟩ = some (.int .i64 l) := hq 0 (by omega)
      have q1 : wr.cell? ⟨kb, ko + k * 3 + 1, none⟩ = some (.int .i64 o) := hq 1 (by omega)
      have q2 : wr.cell? ⟨kb, ko + k * 3 + 2, none⟩ = some (.int .i64 b) := hq 2 (by omega)
      have hkr : kb < wr.heap.size := by have := BX.out.be.size; omega
      clear hq hkc hqe
      by_cases h50 : k < 50
      · go_upto_region 8 with fail
        clear p0_0 p0_1 p0_2 z0 y0 p1_0 p1_1 p1_2 z1 y1
        refine wp_worldx (fun wx => Bxs w wx [(w.heap.size, 26, [.int .i64 hi, .int .i64 lo, .int .i64 dw]), (x2.heap.size, 24, [.bool li, .int .i64 si, .int .u64 tu]), (wr.heap.size, 34, [.int .i64 l, .int .i64 o, .int .i64 b])]) ((BX.out).alloc_ _ _ (by simp)) ?_
        clear BX
        rintro x14 bx
        have BX := Lib.hid bx
        clear bx
        have p0_0 : x14.cell? ⟨w.heap.size, 0, none⟩ = some (.int .i64 hi) := (BX.out.bl 0 _ _ _ rfl).val rfl
        have p0_1 : x14.cell? ⟨w.heap.size, 1, none⟩ = some (.int .i64 lo) := (BX.out.bl 0 _ _ _ rfl).val rfl
        have p0_2 : x14.cell? ⟨w.heap.size, 2, none⟩ = some (.int .i64 dw) := (BX.out.bl 0 _ _ _ rfl).val rfl
        have z0 : ∀ k, x14.frozen? ⟨w.heap.size, k, none⟩ = false := (BX.out.bl 0 _ _ _ rfl).free
        have y0 : w.heap.size < x14.heap.size := (BX.out.bl 0 _ _ _ rfl).size
        have p1_0 : x14.cell? ⟨x2.heap.size, 0, none⟩ = some (.bool li) := (BX.out.bl 1 _ _ _ rfl).val rfl
        have p1_1 : x14.cell? ⟨x2.heap.size, 1, none⟩ = some (.int .i64 si) := (BX.out.bl 1 _ _ _ rfl).val rfl
        have p1_2 : x14.cell? ⟨x2.heap.size, 2, none⟩ = some (.int .u64 tu) := (BX.out.bl 1 _ _ _ rfl).val rfl
        have z1 : ∀ k, x14.frozen? ⟨x2.heap.size, k, none⟩ = false := (BX.out.bl 1 _ _ _ rfl).free
        have y1 : x2.heap.size < x14.heap.size := (BX.out.bl 1 _ _ _ rfl).size
        have p2_0 : x14.cell? ⟨wr.heap.size, 0, none⟩ = some (.int .i64 l) := (BX.out.bl 2 _ _ _ rfl).val rfl
        have p2_1 : x14.cell? ⟨wr.heap.size, 1, none⟩ = some (.int .i64 o) := (BX.out.bl 2 _ _ _ rfl).val rfl
        have p2_2 : x14.cell? ⟨wr.heap.size, 2, none⟩ = some (.int .i64 b) := (BX.out.bl 2 _ _ _ rfl).val rfl
        have z2 : ∀ k, x14.frozen? ⟨wr.heap.size, k, none⟩ = false := (BX.out.bl 2 _ _ _ rfl).free
        have y2 : wr.heap.size < x14.heap.size := (BX.out.bl 2 _ _ _ rfl).size
        clear q0 q1 q2 hkr
        obtain ⟨N, hN⟩ : ∃ N, sat (now + max l 0) = N := ⟨_, rfl⟩
        have s0 := sat_lo (now + max l 0)
        have s1 := sat_up (now + max l 0)
        rw [hN] at s0 s1
        have HN := Lib.hid hN
        clear hN
        go_upto_region 9 with fail
        go_cut [1] from 25 to 70 (fun s1 wx => s1 = .int .i64 N ∧ Bxs w wx [(w.heap.size, 26, [.int .i64 hi, .int .i64 lo, .int .i64 dw]), (x2.heap.size, 24, [.bool li, .int .i64 si, .int .u64 tu]), (wr.heap.size, 34, [.int .i64 l, .int .i64 o, .int .i64 b])])
        case first =>
          go_wp2_with fail
          all_goals (refine (radd02_any _ _ _ now0 now1 (by omega) (by omega)).mono ?_; rintro e x15 ⟨rfl, hb⟩; go_wp2_with fail; go_meet; exact ⟨by rw [← HN.out]; first | rw [Int.max_eq_left (by omega)] | rw [Int.max_eq_right (by omega), Int.add_zero], BX.out.below hb⟩)
        case rest =>
          clear p0_0 p0_1 p0_2 z0 y0 p1_0 p1_1 p1_2 z1 y1 p2_0 p2_1 p2_2 z2 y2
          clear BX HN
          obtain ⟨rfl, bx⟩ := hcut
          have BX := Lib.hid bx
          clear bx
          have p0_0 : wc.cell? ⟨w.heap.size, 0, none⟩ = some (.int .i64 hi) := (BX.out.bl 0 _ _ _ rfl).val rfl
          have p0_1 : wc.cell? ⟨w.heap.size, 1, none⟩ = some (.int .i64 lo) := (BX.out.bl 0 _ _ _ rfl).val rfl
          have p0_2 : wc.cell? ⟨w.heap.size, 2, none⟩ = some (.int .i64 dw) := (BX.out.bl 0 _ _ _ rfl).val rfl
          have z0 : ∀ k, wc.frozen? ⟨w.heap.size, k, none⟩ = false := (BX.out.bl 0 _ _ _ rfl).free
          have y0 : w.heap.size < wc.heap.size := (BX.out.bl 0 _ _ _ rfl).size
          have p1_0 : wc.cell? ⟨x2.heap.size, 0, none⟩ = some (.bool li) := (BX.out.bl 1 _ _ _ rfl).val rfl
          have p1_1 : wc.cell? ⟨x2.heap.size, 1, none⟩ = some (.int .i64 si) := (BX.out.bl 1 _ _ _ rfl).val rfl
          have p1_2 : wc.cell? ⟨x2.heap.size, 2, none⟩ = some (.int .u64 tu) := (BX.out.bl 1 _ _ _ rfl).val rfl
          have z1 : ∀ k, wc.frozen? ⟨x2.heap.size, k, none⟩ = false := (BX.out.bl 1 _ _ _ rfl).free
          have y1 : x2.heap.size < wc.heap.size := (BX.out.bl 1 _ _ _ rfl).size
          have p2_0 : wc.cell? ⟨wr.heap.size, 0, none⟩ = some (.int .i64 l) := (BX.out.bl 2 _ _ _ rfl).val rfl
          have p2_1 : wc.cell? ⟨wr.heap.size, 1, none⟩ = some (.int .i64 o) := (BX.out.bl 2 _ _ _ rfl).val rfl
          have p2_2 : wc.cell? ⟨wr.heap.size, 2, none⟩ = some (.int .i64 b) := (BX.out.bl 2 _ _ _ rfl).val rfl
          have z2 : ∀ k, wc.frozen? ⟨wr.heap.size, k, none⟩ = false := (BX.out.bl 2 _ _ _ rfl).free
          have y2 : wr.heap.size < wc.heap.size := (BX.out.bl 2 _ _ _ rfl).size
          obtain ⟨z, hz⟩ : ∃ z, turnM ⟨li, si, tu⟩ hi lo dw N o b = z := ⟨_, rfl⟩
          have hc := turn_cases ⟨li, si, tu⟩ hi lo dw N o b
          have hm : ¬ (turnM ⟨li, si, tu⟩ hi lo dw N o b = ⟨li, si, tu⟩) → mayM si tu dw N = true := by
            intro h
            cases hm : mayM si tu dw N
            · exact absurd (turnM_not _ _ _ _ _ _ _ hm) h
            · rfl
          rw [hz] at hc hm
          obtain ⟨zl, zs, zt⟩ := z
          have HZ := Lib.hid hz
          have HC := Lib.hid hc
          have HM := Lib.hid hm
          clear hz hc hm
          go_wp2_with fail
          refine (mturn_lit hi lo dw _ _ _ HZ.out _ SO.out s0 s1).mono ?_
          rintro e x15 ⟨rfl, hb⟩
          have bx : Bxs w x15 [(w.heap.size, 26, [.int .i64 hi, .int .i64 lo, .int .i64 dw]), (x2.heap.size, 24, [.bool li, .int .i64 si, .int .u64 tu]), (wr.heap.size, 34, [.int .i64 l, .int .i64 o, .int .i64 b])] := (BX.out).below hb
          clear p0_0 p0_1 p0_2 z0 y0 p1_0 p1_1 p1_2 z1 y1 p2_0 p2_1 p2_2 z2 y2
          clear hb BX
          have BX := Lib.hid bx
          clear bx
          have p0_0 : x15.cell? ⟨w.heap.size, 0, none⟩ = some (.int .i64 hi) := (BX.out.bl 0 _ _ _ rfl).val rfl
          have p0_1 : x15.cell? ⟨w.heap.size, 1, none⟩ = some (.int .i64 lo) := (BX.out.bl 0 _ _ _ rfl).val rfl
          have p0_2 : x15.cell? ⟨w.heap.size, 2, none⟩ = some (.int .i64 dw) := (BX.out.bl 0 _ _ _ rfl).val rfl
          have z0 : ∀ k, x15.frozen? ⟨w.heap.size, k, none⟩ = false := (BX.out.bl 0 _ _ _ rfl).free
          have y0 : w.heap.size < x15.heap.size := (BX.out.bl 0 _ _ _ rfl).size
          have p1_0 : x15.cell? ⟨x2.heap.size, 0, none⟩ = some (.bool li) := (BX.out.bl 1 _ _ _ rfl).val rfl
          have p1_1 : x15.cell? ⟨x2.heap.size, 1, none⟩ = some (.int .i64 si) := (BX.out.bl 1 _ _ _ rfl).val rfl
          have p1_2 : x15.cell? ⟨x2.heap.size, 2, none⟩ = some (.int .u64 tu) := (BX.out.bl 1 _ _ _ rfl).val rfl
          have z1 : ∀ k, x15.frozen? ⟨x2.heap.size, k, none⟩ = false := (BX.out.bl 1 _ _ _ rfl).free
          have y1 : x2.heap.size < x15.heap.size := (BX.out.bl 1 _ _ _ rfl).size
          have p2_0 : x15.cell? ⟨wr.heap.size, 0, none⟩ = some (.int .i64 l) := (BX.out.bl 2 _ _ _ rfl).val rfl
          have p2_1 : x15.cell? ⟨wr.heap.size, 1, none⟩ = some (.int .i64 o) := (BX.out.bl 2 _ _ _ rfl).val rfl
          have p2_2 : x15.cell? ⟨wr.heap.size, 2, none⟩ = some (.int .i64 b) := (BX.out.bl 2 _ _ _ rfl).val rfl
          have z2 : ∀ k, x15.frozen? ⟨wr.heap.size, k, none⟩ = false := (BX.out.bl 2 _ _ _ rfl).free
          have y2 : wr.heap.size < x15.heap.size := (BX.out.bl 2 _ _ _ rfl).size
          go_upto_region 11 with fail
          clear p0_0 p0_1 p0_2 z0 y0 p1_0 p1_1 p1_2 z1 y1 p2_0 p2_1 p2_2 z2 y2
          refine wp_worldx (fun wx => Bxs w wx [(w.heap.size, 26, [.int .i64 hi, .int .i64 lo, .int .i64 dw]), (x2.heap.size, 24, [.bool li, .int .i64 si, .int .u64 tu]), (wr.heap.size, 34, [.int .i64 l, .int .i64 o, .int .i64 b]), (x15.heap.size, 24, [.bool zl, .int .i64 zs, .int .u64 zt])]) ((BX.out).alloc_ _ _ (by simp)) ?_
          clear BX
          rintro x16 bx
          have BX := Lib.hid bx
          clear bx
          have p0_0 : x16.cell? ⟨w.heap.size, 0, none⟩ = some (.int .i64 hi) := (BX.out.bl 0 _ _ _ rfl).val rfl
          have p0_1 : x16.cell? ⟨w.heap.size, 1, none⟩ = some (.int .i64 lo) := (BX.out.bl 0 _ _ _ rfl).val rfl
          have p0_2 : x16.cell? ⟨w.heap.size, 2, none⟩ = some (.int .i64 dw) := (BX.out.bl 0 _ _ _ rfl).val rfl
          have z0 : ∀ k, x16.frozen? ⟨w.heap.size, k, none⟩ = false := (BX.out.bl 0 _ _ _ rfl).free
          have y0 : w.heap.size < x16.heap.size := (BX.out.bl 0 _ _ _ rfl).size
          have p1_0 : x16.cell? ⟨x2.heap.size, 0, none⟩ = some (.bool li) := (BX.out.bl 1 _ _ _ rfl).val rfl
          have p1_1 : x16.cell? ⟨x2.heap.size, 1, none⟩ = some (.int .i64 si) := (BX.out.bl 1 _ _ _ rfl).val rfl
          have p1_2 : x16.cell? ⟨x2.heap.size, 2, none⟩ = some (.int .u64 tu) := (BX.out.bl 1 _ _ _ rfl).val rfl
          have z1 : ∀ k, x16.frozen? ⟨x2.heap.size, k, none⟩ = false := (BX.out.bl 1 _ _ _ rfl).free
          have y1 : x2.heap.size < x16.heap.size := (BX.out.bl 1 _ _ _ rfl).size
          have p2_0 : x16.cell? ⟨wr.heap.size, 0, none⟩ = some (.int .i64 l) := (BX.out.bl 2 _ _ _ rfl).val rfl
          have p2_1 : x16.cell? ⟨wr.heap.size, 1, none⟩ = some (.int .i64 o) := (BX.out.bl 2 _ _ _ rfl).val rfl
          have p2_2 : x16.cell? ⟨wr.heap.size, 2, none⟩ = some (.int .i64 b) := (BX.out.bl 2 _ _ _ rfl).val rfl
          have z2 : ∀ k, x16.frozen? ⟨wr.heap.size, k, none⟩ = false := (BX.out.bl 2 _ _ _ rfl).free
          have y2 : wr.heap.size < x16.heap.size := (BX.out.bl 2 _ _ _ rfl).size
          have p3_0 : x16.cell? ⟨x15.heap.size, 0, none⟩ = some (.bool zl) := (BX.out.bl 3 _ _ _ rfl).val rfl
          have p3_1 : x16.cell? ⟨x15.heap.size, 1, none⟩ = some (.int .i64 zs) := (BX.out.bl 3 _ _ _ rfl).val rfl
          have p3_2 : x16.cell? ⟨x15.heap.size, 2, none⟩ = some (.int .u64 zt) := (BX.out.bl 3 _ _ _ rfl).val rfl
          have z3 : ∀ k, x16.frozen? ⟨x15.heap.size, k, none⟩ = false := (BX.out.bl 3 _ _ _ rfl).free
          have y3 : x15.heap.size < x16.heap.size := (BX.out.bl 3 _ _ _ rfl).size
          rcases HC.out with h | ⟨hw, h⟩
          · injection h with h1 h2 h3
            subst h1 h2 h3
            go_wp2_with fail
            go_roundw
            case rel => exact ⟨k + 1, N, zs, zt, zl, by omega, by go_num, rfl, rfl, rfl, ⟨s0, s1⟩, SO.out, by omega, BX.out.first_ 2⟩
            case measure => simp [intOf]; omega
          · have hmay : mayM si tu dw N = true := HM.out (by rw [h]; intro hh; injection hh with h1; revert h1; cases li <;> simp)
            clear HC HM
            injection h with h1 h2 h3
            (try simp only at h1 h2 h3 hw)
            have tu0 : 0 ≤ tu := SO.out.t0
            have hz3 : zt = tu + 1 := by rw [h3]; omega
            clear h3 hw
            obtain rfl : N = zs := h2.symm
            have hT : IntKind.u64.wrap (tu + 1) = zt := by rw [hz3, wrap_tu]; omega
            have so2 : (⟨zl, N, zt⟩ : Mst).ok := ⟨s0, s1, by have := SO.out.t0; simp only at this ⊢; omega, by simp only; omega⟩
            have SO2 := Lib.hid so2
            clear so2 h2 HZ
            have HT := Lib.hid hz3
            clear hz3
            have hl : decide (zl = li) = false := by rw [h1]; cases li <;> rfl
            have hl2 : ¬ zl = li := by simpa using hl
            have hl3 : (zl == li) = false := by rw [h1]; cases li <;> rfl
            have hl4 : (decide (zl = li)) = false := hl
            clear h1
            by_cases ht : 0 < tu
            · have hd : dw ≤ sat (N - si) := by unfold mayM at hmay; simp at hmay; omega
              have hd2 : ¬ sat (N - si) < dw := by omega
              clear hmay
              go_upto_region 14 with fail
              refine wp_region_noPanic ?_
              refine wp_region_held_drew (S := (fun w' => w'.cell? ⟨w.heap.size, 2, none⟩ = some (.int .i64 dw) ∧ w'.cell? ⟨x15.heap.size, 1, none⟩ = some (.int .i64 N))) (by kernel_rfl) (by (repeat (first | with_reducible assumption | refine ⟨?_, ?_⟩ | with_reducible refine kdrew ?_))) (fun hHeld => ?_)
              refine wpAnyH_take (i := 0) (v := ?_) rfl (by kernel_rfl) (by kernel_rfl) (by kernel_rfl) (fun _ _ _ h => h) (Or.inl ⟨by rfl, ?_⟩) (by assumption) ?_
              rotate_left
              · (intro wS hSw; (try dsimp only at hSw); (first | (go_simp; done) | (go_simp; with_reducible rfl)))
              try simp only [Act.put, List.getElem_toArray, List.getElem_cons_zero, List.getElem_cons_succ, List.setIfInBounds_toArray, List.set_cons_zero, List.set_cons_succ]
              refine wpAnyH_take (i := 1) (v := ?_) rfl (by kernel_rfl) (by kernel_rfl) (by kernel_rfl) (fun _ _ _ h => h) (Or.inl ⟨by rfl, ?_⟩) (by assumption) ?_
              rotate_left
              · (intro wS hSw; (try dsimp only at hSw); (first | (go_simp; done) | (go_simp; with_reducible rfl)))
              try simp only [Act.put, List.getElem_toArray, List.getElem_cons_zero, List.getElem_cons_succ, List.setIfInBounds_toArray, List.set_cons_zero, List.set_cons_succ]
              refine wpAnyH_take (i := 2) (v := ?_) rfl (by kernel_rfl) (by kernel_rfl) (by kernel_rfl) (fun _ _ _ h => h) (Or.inl ⟨by rfl, ?_⟩) (by assumption) ?_
              rotate_left
              · (intro wS hSw; (try dsimp only at hSw); (first | (go_simp; done) | (go_simp; with_reducible rfl)))
              try simp only [Act.put, List.getElem_toArray, List.getElem_cons_zero, List.getElem_cons_succ, List.setIfInBounds_toArray, List.set_cons_zero, List.set_cons_succ]
              refine wpAnyH_take (i := 3) (v := ?_) rfl (by kernel_rfl) (by kernel_rfl) (by kernel_rfl) (fun _ _ _ h => h) (Or.inl ⟨by rfl, ?_⟩) (by assumption) ?_
              rotate_left
              · (intro wS hSw; (try dsimp only at hSw); (first | (go_simp; done) | (go_simp; with_reducible rfl)))
              try simp only [Act.put, List.getElem_toArray, List.getElem_cons_zero, List.getElem_cons_succ, List.setIfInBounds_toArray, List.set_cons_zero, List.set_cons_succ]
              refine wpAnyH_take (i := 4) (v := ?_) rfl (by kernel_rfl) (by kernel_rfl) (by kernel_rfl) (fun _ _ _ h => h) (Or.inl ⟨by rfl, ?_⟩) (by assumption) ?_
              rotate_left
              · (intro wS hSw; (try dsimp only at hSw); (first | (go_simp; done) | (go_simp; with_reducible rfl)))
              try simp only [Act.put, List.getElem_toArray, List.getElem_cons_zero, List.getElem_cons_succ, List.setIfInBounds_toArray, List.set_cons_zero, List.set_cons_succ]
              refine wpAnyH_take (i := 6) (v := ?_) rfl (by kernel_rfl) (by kernel_rfl) (by kernel_rfl) (fun _ _ _ h => h) (Or.inl ⟨by rfl, ?_⟩) (by assumption) ?_
              rotate_left
              · (intro wS hSw; (try dsimp only at hSw); (first | (go_simp; done) | (go_simp; with_reducible rfl)))
              try simp only [Act.put, List.getElem_toArray, List.getElem_cons_zero, List.getElem_cons_succ, List.setIfInBounds_toArray, List.set_cons_zero, List.set_cons_succ]
              refine wpAnyH_take (i := 7) (v := ?_) rfl (by kernel_rfl) (by kernel_rfl) (by kernel_rfl) (fun _ _ _ h => h) (Or.inl ⟨by rfl, ?_⟩) (by assumption) ?_
              rotate_left
              · (intro wS hSw; (try dsimp only at hSw); (first | (go_simp; done) | (go_simp; with_reducible rfl)))
              try simp only [Act.put, List.getElem_toArray, List.getElem_cons_zero, List.getElem_cons_succ, List.setIfInBounds_toArray, List.set_cons_zero, List.set_cons_succ]
              refine wpAnyH_ready (rs := [5]) (by kernel_rfl) (by simp) ?_
              refine AllReadyH.cons rfl (fun K hK => ?_) AllReadyH.nil
              rw [if_pos (by rfl)]
              refine wp_enter (by go_simp; exact ⟨rfl, rfl⟩) ?_
              refine (rsub02_any _ _ _ s0 s1 SO.out.s0 SO.out.s1).mono ?_
              rintro e wn ⟨rfl, hbn⟩
              have bx : Bxs w wn [(w.heap.size, 26, [.int .i64 hi, .int .i64 lo, .int .i64 dw]), (x2.heap.size, 24, [.bool li, .int .i64 si, .int .u64 tu]), (wr.heap.size, 34, [.int .i64 l, .int .i64 o, .int .i64 b]), (x15.heap.size, 24, [.bool zl, .int .i64 N, .int .u64 zt])] := (by first | exact BX.out.below hbn | exact BX.out.drew_.below hbn | exact (BX.out.drewN_ _).below hbn)
              clear hbn BX p0_0 p0_1 p0_2 z0 y0 p1_0 p1_1 p1_2 z1 y1 p2_0 p2_1 p2_2 z2 y2 p3_0 p3_1 p3_2 z3 y3
              have BX := Lib.hid bx
              clear bx
              have p0_0 : wn.cell? ⟨w.heap.size, 0, none⟩ = some (.int .i64 hi) := (BX.out.bl 0 _ _ _ rfl).val rfl
              have p0_1 : wn.cell? ⟨w.heap.size, 1, none⟩ = some (.int .i64 lo) := (BX.out.bl 0 _ _ _ rfl).val rfl
              have p0_2 : wn.cell? ⟨w.heap.size, 2, none⟩ = some (.int .i64 dw) := (BX.out.bl 0 _ _ _ rfl).val rfl
              have z0 : ∀ k, wn.frozen? ⟨w.heap.size, k, none⟩ = false := (BX.out.bl 0 _ _ _ rfl).free
              have y0 : w.heap.size < wn.heap.size := (BX.out.bl 0 _ _ _ rfl).size
              have p1_0 : wn.cell? ⟨x2.heap.size, 0, none⟩ = some (.bool li) := (BX.out.bl 1 _ _ _ rfl).val rfl
              have p1_1 : wn.cell? ⟨x2.heap.size, 1, none⟩ = some (.int .i64 si) := (BX.out.bl 1 _ _ _ rfl).val rfl
              have p1_2 : wn.cell? ⟨x2.heap.size, 2, none⟩ = some (.int .u64 tu) := (BX.out.bl 1 _ _ _ rfl).val rfl
              have z1 : ∀ k, wn.frozen? ⟨x2.heap.size, k, none⟩ = false := (BX.out.bl 1 _ _ _ rfl).free
              have y1 : x2.heap.size < wn.heap.size := (BX.out.bl 1 _ _ _ rfl).size
              have p2_0 : wn.cell? ⟨wr.heap.size, 0, none⟩ = some (.int .i64 l) := (BX.out.bl 2 _ _ _ rfl).val rfl
              have p2_1 : wn.cell? ⟨wr.heap.size, 1, none⟩ = some (.int .i64 o) := (BX.out.bl 2 _ _ _ rfl).val rfl
              have p2_2 : wn.cell? ⟨wr.heap.size, 2, none⟩ = some (.int .i64 b) := (BX.out.bl 2 _ _ _ rfl).val rfl
              have z2 : ∀ k, wn.frozen? ⟨wr.heap.size, k, none⟩ = false := (BX.out.bl 2 _ _ _ rfl).free
              have y2 : wr.heap.size < wn.heap.size := (BX.out.bl 2 _ _ _ rfl).size
              have p3_0 : wn.cell? ⟨x15.heap.size, 0, none⟩ = some (.bool zl) := (BX.out.bl 3 _ _ _ rfl).val rfl
              have p3_1 : wn.cell? ⟨x15.heap.size, 1, none⟩ = some (.int .i64 N) := (BX.out.bl 3 _ _ _ rfl).val rfl
              have p3_2 : wn.cell? ⟨x15.heap.size, 2, none⟩ = some (.int .u64 zt) := (BX.out.bl 3 _ _ _ rfl).val rfl
              have z3 : ∀ k, wn.frozen? ⟨x15.heap.size, k, none⟩ = false := (BX.out.bl 3 _ _ _ rfl).free
              have y3 : x15.heap.size < wn.heap.size := (BX.out.bl 3 _ _ _ rfl).size
              refine ⟨_, rfl, ?_⟩
              refine hK.out _ _ (by (repeat (first | with_reducible assumption | refine ⟨?_, ?_⟩ | with_reducible refine kdrew ?_))) (fun hHeld => ?_)
              clear hK K
              try simp only [Act.put, List.getElem_toArray, List.getElem_cons_zero, List.getElem_cons_succ, List.setIfInBounds_toArray, List.set_cons_zero, List.set_cons_succ]
              refine wpAnyH_take (i := 8) (v := ?_) rfl (by kernel_rfl) (by kernel_rfl) (by kernel_rfl) (fun _ _ _ h => h) (Or.inl ⟨by rfl, ?_⟩) (by assumption) ?_
              rotate_left
              · (intro wS hSw; (try dsimp only at hSw); (first | (go_simp; done) | (go_simp; with_reducible rfl)))
              try simp only [Act.put, List.getElem_toArray, List.getElem_cons_zero, List.getElem_cons_succ, List.setIfInBounds_toArray, List.set_cons_zero, List.set_cons_succ]
              refine wpAnyH_take (i := 9) (v := ?_) rfl (by kernel_rfl) (by kernel_rfl) (by kernel_rfl) (fun _ _ _ h => h) (Or.inl ⟨by rfl, ?_⟩) (by assumption) ?_
              rotate_left
              · (intro wS hSw; (try dsimp only at hSw); (first | (go_simp; done) | (go_simp; with_reducible rfl)))
              try simp only [Act.put, List.getElem_toArray, List.getElem_cons_zero, List.getElem_cons_succ, List.setIfInBounds_toArray, List.set_cons_zero, List.set_cons_succ]
              refine wpAnyH_take (i := 10) (v := ?_) rfl (by kernel_rfl) (by kernel_rfl) (by kernel_rfl) (fun _ _ _ h => h) (Or.inl ⟨by rfl, ?_⟩) (by assumption) ?_
              rotate_left
              · (intro wS hSw; (try dsimp only at hSw); (first | (go_simp; done) | (go_simp; with_reducible rfl)))
              try simp only [Act.put, List.getElem_toArray, List.getElem_cons_zero, List.getElem_cons_succ, List.setIfInBounds_toArray, List.set_cons_zero, List.set_cons_succ]
              refine wpAnyH_take (i := 11) (v := ?_) rfl (by kernel_rfl) (by kernel_rfl) (by kernel_rfl) (fun _ _ _ h => h) (Or.inl ⟨by rfl, ?_⟩) (by assumption) ?_
              rotate_left
              · (intro wS hSw; (try dsimp only at hSw); (first | (go_simp; done) | (go_simp; with_reducible rfl)))
              try simp only [Act.put, List.getElem_toArray, List.getElem_cons_zero, List.getElem_cons_succ, List.setIfInBounds_toArray, List.set_cons_zero, List.set_cons_succ]
              refine wpAnyH_take (i := 12) (v := ?_) rfl (by kernel_rfl) (by kernel_rfl) (by kernel_rfl) (fun _ _ _ h => h) (Or.inl ⟨by rfl, ?_⟩) (by assumption) ?_
              rotate_left
              · (intro wS hSw; (try dsimp only at hSw); (first | (go_simp; done) | (go_simp; with_reducible rfl)))
              try simp only [Act.put, List.getElem_toArray, List.getElem_cons_zero, List.getElem_cons_succ, List.setIfInBounds_toArray, List.set_cons_zero, List.set_cons_succ]
              refine wpAnyH_take (i := 13) (v := ?_) rfl (by kernel_rfl) (by kernel_rfl) (by kernel_rfl) (fun _ _ _ h => h) (Or.inl ⟨by rfl, ?_⟩) (by assumption) ?_
              rotate_left
              · (intro wS hSw; (try dsimp only at hSw); (first | (go_simp; done) | (go_simp; with_reducible rfl)))
              try simp only [Act.put, List.getElem_toArray, List.getElem_cons_zero, List.getElem_cons_succ, List.setIfInBounds_toArray, List.set_cons_zero, List.set_cons_succ]
              refine wpAnyH_take (i := 14) (v := ?_) rfl (by kernel_rfl) (by kernel_rfl) (by kernel_rfl) (fun _ _ _ h => h) (Or.inl ⟨by rfl, ?_⟩) (by assumption) ?_
              rotate_left
              · (intro wS hSw; (try dsimp only at hSw); (first | (go_simp; done) | (go_simp; with_reducible rfl)))
              try simp only [Act.put, List.getElem_toArray, List.getElem_cons_zero, List.getElem_cons_succ, List.setIfInBounds_toArray, List.set_cons_zero, List.set_cons_succ]
              refine wpAnyH_take (i := 15) (v := ?_) rfl (by kernel_rfl) (by kernel_rfl) (by kernel_rfl) (fun _ _ _ h => h) (Or.inl ⟨by rfl, ?_⟩) (by assumption) ?_
              rotate_left
              · (intro wS hSw; (try dsimp only at hSw); (first | (go_simp; done) | (go_simp; with_reducible rfl)))
              try simp only [Act.put, List.getElem_toArray, List.getElem_cons_zero, List.getElem_cons_succ, List.setIfInBounds_toArray, List.set_cons_zero, List.set_cons_succ]
              refine wpAnyH_done (by kernel_rfl) ?_ _
              refine NoPanic.normal ?_
              go_upto_region 17 with fail
              refine wp_worldx (fun wx => Bxs w wx [(w.heap.size, 26, [.int .i64 hi, .int .i64 lo, .int .i64 dw]), (x2.heap.size, 24, [.bool li, .int .i64 si, .int .u64 tu]), (wr.heap.size, 34, [.int .i64 l, .int .i64 o, .int .i64 b]), (x15.heap.size, 24, [.bool zl, .int .i64 N, .int .u64 zt])]) (by first | exact BX.out | exact BX.out.drew_ | exact BX.out.drewN_ _) ?_
              clear p0_0 p0_1 p0_2 z0 y0 p1_0 p1_1 p1_2 z1 y1 p2_0 p2_1 p2_2 z2 y2 p3_0 p3_1 p3_2 z3 y3
              clear BX
              rintro wy bx
              have BX := Lib.hid bx
              clear bx
              have p0_0 : wy.cell? ⟨w.heap.size, 0, none⟩ = some (.int .i64 hi) := (BX.out.bl 0 _ _ _ rfl).val rfl
              have p0_1 : wy.cell? ⟨w.heap.size, 1, none⟩ = some (.int .i64 lo) := (BX.out.bl 0 _ _ _ rfl).val rfl
              have p0_2 : wy.cell? ⟨w.heap.size, 2, none⟩ = some (.int .i64 dw) := (BX.out.bl 0 _ _ _ rfl).val rfl
              have z0 : ∀ k, wy.frozen? ⟨w.heap.size, k, none⟩ = false := (BX.out.bl 0 _ _ _ rfl).free
              have y0 : w.heap.size < wy.heap.size := (BX.out.bl 0 _ _ _ rfl).size
              have p1_0 : wy.cell? ⟨x2.heap.size, 0, none⟩ = some (.bool li) := (BX.out.bl 1 _ _ _ rfl).val rfl
              have p1_1 : wy.cell? ⟨x2.heap.size, 1, none⟩ = some (.int .i64 si) := (BX.out.bl 1 _ _ _ rfl).val rfl
              have p1_2 : wy.cell? ⟨x2.heap.size, 2, none⟩ = some (.int .u64 tu) := (BX.out.bl 1 _ _ _ rfl).val rfl
              have z1 : ∀ k, wy.frozen? ⟨x2.heap.size, k, none⟩ = false := (BX.out.bl 1 _ _ _ rfl).free
              have y1 : x2.heap.size < wy.heap.size := (BX.out.bl 1 _ _ _ rfl).size
              have p2_0 : wy.cell? ⟨wr.heap.size, 0, none⟩ = some (.int .i64 l) := (BX.out.bl 2 _ _ _ rfl).val rfl
              have p2_1 : wy.cell? ⟨wr.heap.size, 1, none⟩ = some (.int .i64 o) := (BX.out.bl 2 _ _ _ rfl).val rfl
              have p2_2 : wy.cell? ⟨wr.heap.size, 2, none⟩ = some (.int .i64 b) := (BX.out.bl 2 _ _ _ rfl).val rfl
              have z2 : ∀ k, wy.frozen? ⟨wr.heap.size, k, none⟩ = false := (BX.out.bl 2 _ _ _ rfl).free
              have y2 : wr.heap.size < wy.heap.size := (BX.out.bl 2 _ _ _ rfl).size
              have p3_0 : wy.cell? ⟨x15.heap.size, 0, none⟩ = some (.bool zl) := (BX.out.bl 3 _ _ _ rfl).val rfl
              have p3_1 : wy.cell? ⟨x15.heap.size, 1, none⟩ = some (.int .i64 N) := (BX.out.bl 3 _ _ _ rfl).val rfl
              have p3_2 : wy.cell? ⟨x15.heap.size, 2, none⟩ = some (.int .u64 zt) := (BX.out.bl 3 _ _ _ rfl).val rfl
              have z3 : ∀ k, wy.frozen? ⟨x15.heap.size, k, none⟩ = false := (BX.out.bl 3 _ _ _ rfl).free
              have y3 : x15.heap.size < wy.heap.size := (BX.out.bl 3 _ _ _ rfl).size
              go_region
              all_goals (go_upto_region 18 with fail)
              all_goals (refine wp_worldx (fun wx => Bxs w wx [(w.heap.size, 26, [.int .i64 hi, .int .i64 lo, .int .i64 dw]), (x2.heap.size, 24, [.bool zl, .int .i64 N, .int .u64 zt]), (wr.heap.size, 34, [.int .i64 l, .int .i64 o, .int .i64 b]), (x15.heap.size, 24, [.bool zl, .int .i64 N, .int .u64 zt])]) (by first | exact (((BX.out.set_ 1 0 rfl _).set_ 1 1 rfl _).set_ 1 2 rfl _).drew_ | exact (((BX.out.drew_.set_ 1 0 rfl _).set_ 1 1 rfl _).set_ 1 2 rfl _)) ?_; clear p0_0 p0_1 p0_2 z0 y0 p1_0 p1_1 p1_2 z1 y1 p2_0 p2_1 p2_2 z2 y2 p3_0 p3_1 p3_2 z3 y3 BX; rintro wz bx; have BX := Lib.hid bx; clear bx)
              all_goals (have p0_0 : wz.cell? ⟨w.heap.size, 0, none⟩ = some (.int .i64 hi) := (BX.out.bl 0 _ _ _ rfl).val rfl; have p0_1 : wz.cell? ⟨w.heap.size, 1, none⟩ = some (.int .i64 lo) := (BX.out.bl 0 _ _ _ rfl).val rfl; have p0_2 : wz.cell? ⟨w.heap.size, 2, none⟩ = some (.int .i64 dw) := (BX.out.bl 0 _ _ _ rfl).val rfl; have z0 : ∀ k, wz.frozen? ⟨w.heap.size, k, none⟩ = false := (BX.out.bl 0 _ _ _ rfl).free; have y0 : w.heap.size < wz.heap.size := (BX.out.bl 0 _ _ _ rfl).size; have p1_0 : wz.cell? ⟨x2.heap.size, 0, none⟩ = some (.bool zl) := (BX.out.bl 1 _ _ _ rfl).val rfl; have p1_1 : wz.cell? ⟨x2.heap.size, 1, none⟩ = some (.int .i64 N) := (BX.out.bl 1 _ _ _ rfl).val rfl; have p1_2 : wz.cell? ⟨x2.heap.size, 2, none⟩ = some (.int .u64 zt) := (BX.out.bl 1 _ _ _ rfl).val rfl; have z1 : ∀ k, wz.frozen? ⟨x2.heap.size, k, none⟩ = false := (BX.out.bl 1 _ _ _ rfl).free; have y1 : x2.heap.size < wz.heap.size := (BX.out.bl 1 _ _ _ rfl).size; have p2_0 : wz.cell? ⟨wr.heap.size, 0, none⟩ = some (.int .i64 l) := (BX.out.bl 2 _ _ _ rfl).val rfl; have p2_1 : wz.cell? ⟨wr.heap.size, 1, none⟩ = some (.int .i64 o) := (BX.out.bl 2 _ _ _ rfl).val rfl; have p2_2 : wz.cell? ⟨wr.heap.size, 2, none⟩ = some (.int .i64 b) := (BX.out.bl 2 _ _ _ rfl).val rfl; have z2 : ∀ k, wz.frozen? ⟨wr.heap.size, k, none⟩ = false := (BX.out.bl 2 _ _ _ rfl).free; have y2 : wr.heap.size < wz.heap.size := (BX.out.bl 2 _ _ _ rfl).size; have p3_0 : wz.cell? ⟨x15.heap.size, 0, none⟩ = some (.bool zl) := (BX.out.bl 3 _ _ _ rfl).val rfl; have p3_1 : wz.cell? ⟨x15.heap.size, 1, none⟩ = some (.int .i64 N) := (BX.out.bl 3 _ _ _ rfl).val rfl; have p3_2 : wz.cell? ⟨x15.heap.size, 2, none⟩ = some (.int .u64 zt) := (BX.out.bl 3 _ _ _ rfl).val rfl; have z3 : ∀ k, wz.frozen? ⟨x15.heap.size, k, none⟩ = false := (BX.out.bl 3 _ _ _ rfl).free; have y3 : x15.heap.size < wz.heap.size := (BX.out.bl 3 _ _ _ rfl).size)
              all_goals (go_wp2_with fail)
              all_goals go_roundw
              all_goals (first | exact ⟨k + 1, N, N, zt, zl, by omega, by go_num, rfl, rfl, rfl, ⟨s0, s1⟩, SO2.out, by have := HT.out; omega, BX.out.first_ 2⟩ | (simp [intOf]; omega))
            · have ht2 : decide (0 < tu) = false := by simp; omega
              clear hmay
              go_upto_region 14 with fail
              go_quiet (fail)
              go_upto_region 17 with fail
              refine wp_worldx (fun wx => Bxs w wx [(w.heap.size, 26, [.int .i64 hi, .int .i64 lo, .int .i64 dw]), (x2.heap.size, 24, [.bool li, .int .i64 si, .int .u64 tu]), (wr.heap.size, 34, [.int .i64 l, .int .i64 o, .int .i64 b]), (x15.heap.size, 24, [.bool zl, .int .i64 N, .int .u64 zt])]) (by first | exact BX.out | exact BX.out.drew_ | exact BX.out.drewN_ _) ?_
              clear p0_0 p0_1 p0_2 z0 y0 p1_0 p1_1 p1_2 z1 y1 p2_0 p2_1 p2_2 z2 y2 p3_0 p3_1 p3_2 z3 y3
              clear BX
              rintro wy bx
              have BX := Lib.hid bx
              clear bx
              have p0_0 : wy.cell? ⟨w.heap.size, 0, none⟩ = some (.int .i64 hi) := (BX.out.bl 0 _ _ _ rfl).val rfl
              have p0_1 : wy.cell? ⟨w.heap.size, 1, none⟩ = some (.int .i64 lo) := (BX.out.bl 0 _ _ _ rfl).val rfl
              have p0_2 : wy.cell? ⟨w.heap.size, 2, none⟩ = some (.int .i64 dw) := (BX.out.bl 0 _ _ _ rfl).val rfl
              have z0 : ∀ k, wy.frozen? ⟨w.heap.size, k, none⟩ = false := (BX.out.bl 0 _ _ _ rfl).free
              have y0 : w.heap.size < wy.heap.size := (BX.out.bl 0 _ _ _ rfl).size
              have p1_0 : wy.cell? ⟨x2.heap.size, 0, none⟩ = some (.bool li) := (BX.out.bl 1 _ _ _ rfl).val rfl
              have p1_1 : wy.cell? ⟨x2.heap.size, 1, none⟩ = some (.int .i64 si) := (BX.out.bl 1 _ _ _ rfl).val rfl
              have p1_2 : wy.cell? ⟨x2.heap.size, 2, none⟩ = some (.int .u64 tu) := (BX.out.bl 1 _ _ _ rfl).val rfl
              have z1 : ∀ k, wy.frozen? ⟨x2.heap.size, k, none⟩ = false := (BX.out.bl 1 _ _ _ rfl).free
              have y1 : x2.heap.size < wy.heap.size := (BX.out.bl 1 _ _ _ rfl).size
              have p2_0 : wy.cell? ⟨wr.heap.size, 0, none⟩ = some (.int .i64 l) := (BX.out.bl 2 _ _ _ rfl).val rfl
              have p2_1 : wy.cell? ⟨wr.heap.size, 1, none⟩ = some (.int .i64 o) := (BX.out.bl 2 _ _ _ rfl).val rfl
              have p2_2 : wy.cell? ⟨wr.heap.size, 2, none⟩ = some (.int .i64 b) := (BX.out.bl 2 _ _ _ rfl).val rfl
              have z2 : ∀ k, wy.frozen? ⟨wr.heap.size, k, none⟩ = false := (BX.out.bl 2 _ _ _ rfl).free
              have y2 : wr.heap.size < wy.heap.size := (BX.out.bl 2 _ _ _ rfl).size
              have p3_0 : wy.cell? ⟨x15.heap.size, 0, none⟩ = some (.bool zl) := (BX.out.bl 3 _ _ _ rfl).val rfl
              have p3_1 : wy.cell? ⟨x15.heap.size, 1, none⟩ = some (.int .i64 N) := (BX.out.bl 3 _ _ _ rfl).val rfl
              have p3_2 : wy.cell? ⟨x15.heap.size, 2, none⟩ = some (.int .u64 zt) := (BX.out.bl 3 _ _ _ rfl).val rfl
              have z3 : ∀ k, wy.frozen? ⟨x15.heap.size, k, none⟩ = false := (BX.out.bl 3 _ _ _ rfl).free
              have y3 : x15.heap.size < wy.heap.size := (BX.out.bl 3 _ _ _ rfl).size
              go_region
              all_goals (go_upto_region 18 with fail)
              all_goals (refine wp_worldx (fun wx => Bxs w wx [(w.heap.size, 26, [.int .i64 hi, .int .i64 lo, .int .i64 dw]), (x2.heap.size, 24, [.bool zl, .int .i64 N, .int .u64 zt]), (wr.heap.size, 34, [.int .i64 l, .int .i64 o, .int .i64 b]), (x15.heap.size, 24, [.bool zl, .int .i64 N, .int .u64 zt])]) (by first | exact (((BX.out.set_ 1 0 rfl _).set_ 1 1 rfl _).set_ 1 2 rfl _).drew_ | exact (((BX.out.drew_.set_ 1 0 rfl _).set_ 1 1 rfl _).set_ 1 2 rfl _)) ?_; clear p0_0 p0_1 p0_2 z0 y0 p1_0 p1_1 p1_2 z1 y1 p2_0 p2_1 p2_2 z2 y2 p3_0 p3_1 p3_2 z3 y3 BX; rintro wz bx; have BX := Lib.hid bx; clear bx)
              all_goals (have p0_0 : wz.cell? ⟨w.heap.size, 0, none⟩ = some (.int .i64 hi) := (BX.out.bl 0 _ _ _ rfl).val rfl; have p0_1 : wz.cell? ⟨w.heap.size, 1, none⟩ = some (.int .i64 lo) := (BX.out.bl 0 _ _ _ rfl).val rfl; have p0_2 : wz.cell? ⟨w.heap.size, 2, none⟩ = some (.int .i64 dw) := (BX.out.bl 0 _ _ _ rfl).val rfl; have z0 : ∀ k, wz.frozen? ⟨w.heap.size, k, none⟩ = false := (BX.out.bl 0 _ _ _ rfl).free; have y0 : w.heap.size < wz.heap.size := (BX.out.bl 0 _ _ _ rfl).size; have p1_0 : wz.cell? ⟨x2.heap.size, 0, none⟩ = some (.bool zl) := (BX.out.bl 1 _ _ _ rfl).val rfl; have p1_1 : wz.cell? ⟨x2.heap.size, 1, none⟩ = some (.int .i64 N) := (BX.out.bl 1 _ _ _ rfl).val rfl; have p1_2 : wz.cell? ⟨x2.heap.size, 2, none⟩ = some (.int .u64 zt) := (BX.out.bl 1 _ _ _ rfl).val rfl; have z1 : ∀ k, wz.frozen? ⟨x2.heap.size, k, none⟩ = false := (BX.out.bl 1 _ _ _ rfl).free; have y1 : x2.heap.size < wz.heap.size := (BX.out.bl 1 _ _ _ rfl).size; have p2_0 : wz.cell? ⟨wr.heap.size, 0, none⟩ = some (.int .i64 l) := (BX.out.bl 2 _ _ _ rfl).val rfl; have p2_1 : wz.cell? ⟨wr.heap.size, 1, none⟩ = some (.int .i64 o) := (BX.out.bl 2 _ _ _ rfl).val rfl; have p2_2 : wz.cell? ⟨wr.heap.size, 2, none⟩ = some (.int .i64 b) := (BX.out.bl 2 _ _ _ rfl).val rfl; have z2 : ∀ k, wz.frozen? ⟨wr.heap.size, k, none⟩ = false := (BX.out.bl 2 _ _ _ rfl).free; have y2 : wr.heap.size < wz.heap.size := (BX.out.bl 2 _ _ _ rfl).size; have p3_0 : wz.cell? ⟨x15.heap.size, 0, none⟩ = some (.bool zl) := (BX.out.bl 3 _ _ _ rfl).val rfl; have p3_1 : wz.cell? ⟨x15.heap.size, 1, none⟩ = some (.int .i64 N) := (BX.out.bl 3 _ _ _ rfl).val rfl; have p3_2 : wz.cell? ⟨x15.heap.size, 2, none⟩ = some (.int .u64 zt) := (BX.out.bl 3 _ _ _ rfl).val rfl; have z3 : ∀ k, wz.frozen? ⟨x15.heap.size, k, none⟩ = false := (BX.out.bl 3 _ _ _ rfl).free; have y3 : x15.heap.size < wz.heap.size := (BX.out.bl 3 _ _ _ rfl).size)
              all_goals (go_wp2_with fail)
              all_goals go_roundw
              all_goals (first | exact ⟨k + 1, N, N, zt, zl, by omega, by go_num, rfl, rfl, rfl, ⟨s0, s1⟩, SO2.out, by have := HT.out; omega, BX.out.first_ 2⟩ | (simp [intOf]; omega))
      · go_wp2_with fail
        go_ret
        exact ⟨rfl, (BX.out.alloc_ _ _ rfl).be⟩
    · go_wp2_with fail
      go_ret
      exact ⟨rfl, BX.out.be⟩
set_option maxRecDepth 100000 in
theorem lifted (os : Os) (started : os.Started) (H : Type) (enc : TypeId × Value → H) :
    ReturnsInHanded {} Try.checked os 4 .any (Rows.modeDwellsSpec.pre6 enc Try.prog Try.f4 Rows.modeDwellsRow.domain false) (Rows.modeDwellsSpec.post enc Try.prog Try.f4 false true false false) := by
  refine returnsInHanded_of_change (C := Try.checked) own started (by kernel_rfl) Try.func4
    (ChangeSpec.witness6 (enc := enc) (C := Try.checked) false ⟨#[], #[.agg #[.int .i64 0, .int .i64 0, .int .i64 0], .int .i64 0, .slice none 0 0], []⟩ 8 (by kernel_rfl) (by kernel_rfl) (by kernel_rfl) (by kernel_rfl)) ?_
  intro W base args ds gs before hval0 hW hcnd _
  have hval : ∀ (j : Nat) t v, Try.f4.params[j]? = some t → args[j]? = some v → Value.okWide Try.prog W .any base t v := hval0
  have hW' := hW
  obtain ⟨p, q, hA0, hV, rfl, hfz, hnd⟩ := hW
  have hA : DataW.TrodAll enc Try.prog W 0 (fun _ => true) true Try.f4.params.toList args.toList ds p := hA0
  rw [Try.params4] at hA hval
  obtain ⟨v0, vs0, d0, ds0, p0, q0, hargs, rfl, rfl, h0, r0⟩ := trodAll_cons hA
  obtain ⟨v1, vs1, d1, ds1, p1, q1, rfl, rfl, rfl, h1, r1⟩ := trodAll_cons r0
  obtain ⟨v2, vs2, d2, ds2, p2, q2, rfl, rfl, rfl, h2, r2⟩ := trodAll_cons r1
  obtain ⟨rfl, rfl, rfl⟩ := trodAll_nil r2
  obtain rfl : args = #[v0, v1, v2] := by cases args; simp_all
  obtain ⟨rfl, rfl⟩ := trodVars_none hV
  obtain ⟨x00, x01, x02, y00, y01, y02, n0, rfl, g00, g01, g02⟩ := open_three Try.underlying26 (by kernel_rfl) (by kernel_rfl) (hval 0 _ v0 rfl rfl) h0
  obtain ⟨a00, e00, ez00, w00⟩ := DataW.trod_int Try.underlying2 g00
  simp at e00
  subst e00
  obtain ⟨a01, e01, ez01, w01⟩ := DataW.trod_int Try.underlying2 g01
  simp at e01
  subst e01
  obtain ⟨a02, e02, ez02, w02⟩ := DataW.trod_int Try.underlying2 g02
  simp at e02
  subst e02
  obtain ⟨a1, rfl, rfl, rfl, w1⟩ := open_int Try.underlying2 (hval 1 _ v1 rfl rfl) h1
  obtain ⟨A2, len2, cap2, rfl⟩ := okWide_slice Try.underlying32 (hval 2 _ v2 rfl rfl)
  obtain ⟨fu2, g2⟩ := h2
  obtain ⟨s2, t2, Q2, u2, o2⟩ := open_sns g2
  clear hA0 hval0
  obtain ⟨l00, m00⟩ := wf_i64 w00
  obtain ⟨l01, m01⟩ := wf_i64 w01
  obtain ⟨l02, m02⟩ := wf_i64 w02
  obtain ⟨l1, m1⟩ := wf_i64 w1
  refine (walk a00 a01 a02 a1 A2 len2 cap2 Q2 W s2 t2 u2 o2 l00 m00 l01 m01 l02 m02 l1 m1).mono fun e W' ⟨he, hg⟩ => ?_
  subst he
  exact ⟨_, rfl, post_of_law hW' rfl laidOut reads rfl Try.underlying4 rfl rfl rfl hg⟩
theorem over : Rows.modeDwellsRow.holds Try.pinned (OpenSpec.ofChange Rows.modeDwellsSpec) :=
  OpenClaim.holds_of_wide 4 Try.f4 rfl rfl rfl rfl rfl rfl rfl ⟨rfl, rfl, rfl, rfl, rfl⟩ rfl rfl rfl rfl rfl (by kernel_rfl) Try.func4 (by kernel_rfl)
    (of_decide_eq_true (by kernel_rfl)) (by unfold Func.isWrapper; first | (rw [if_pos (by decide +kernel)]; kernel_rfl) | (rw [if_neg (by decide +kernel)]; exact ⟨rfl, rfl⟩))
    (fun os started H enc _ => lifted os started H enc)
theorem proved : Rows.ModeDwellsSaid := over
end Go.Proofs.Ytmkdmjcmgbpomaa.modeDwells
