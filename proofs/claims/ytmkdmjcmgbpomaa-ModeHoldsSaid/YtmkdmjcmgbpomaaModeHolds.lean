/- ModeHolds is true of every state, all params, every time, every stay and every backlog, and changes nothing that it was given. -/
import Derived.Test.YtmkdmjcmgbpomaaModb
import Derived.Test.YtmkdmjcmgbpomaaMst
import Derived.Test.YtmkdmjcmgbpomaaHelpb
import Derived.Test.YtmkdmjcmgbpomaaHelpc
import Derived.Test.YtmkdmjcmgbpomaaRowb
import Derived.Test.YtmkdmjcmgbpomaaRows
import Derived.WalkKit
import Derived.ProofKit
import Derived.OpenShut
import Derived.Deep.DeepCutAuto
import Derived.Deep.CutBlock
import Derived.BigQuiet
import Derived.Deep.QuietTactic
import Derived.Deep.RegionHeld3
namespace Go.Proofs.Ytmkdmjcmgbpomaa.modeHolds
open Go.ChangeShapes Go.WideShapes Go.ChangeAt Go.RowKit Kn
set_option linter.unusedVariables false
theorem own : ownKnob Try.prog.godebug = none := by kernel_rfl
theorem laidOut : laidOutB Try.prog = true := by kernel_rfl
theorem reads : (Try.f5.params.toList.all fun t => Try.prog.readableRec t && decide (t < Try.prog.types.size)) = true := by kernel_rfl
set_option linter.unusedSimpArgs false
theorem turn_cases (s : Mst) (hi lo dw now old bk : Int) : turnM s hi lo dw now old bk = s ∨ wantM s.li hi lo old bk = !s.li ∧ turnM s hi lo dw now old bk = ⟨!s.li, now, (s.tu + 1) % 18446744073709551616⟩ := by
  unfold turnM
  split
  · exact .inl rfl
  · rename_i h
    refine .inr ⟨?_, rfl⟩
    cases hw : wantM s.li hi lo old bk <;> cases hl : s.li <;> simp_all
set_option maxRecDepth 100000 in
set_option maxHeartbeats 4000000 in
theorem walk (li : Bool) (si tu hi lo dw now old bk : Int) (w : World) (si0 : -9223372036854775808 ≤ si) (si1 : si ≤ 9223372036854775807) (tu0 : 0 ≤ tu) (tu1 : tu ≤ 18446744073709551615) (hi0 : -9223372036854775808 ≤ hi) (hi1 : hi ≤ 9223372036854775807) (lo0 : -9223372036854775808 ≤ lo) (lo1 : lo ≤ 9223372036854775807) (dw0 : -9223372036854775808 ≤ dw) (dw1 : dw ≤ 9223372036854775807) (now0 : -9223372036854775808 ≤ now) (now1 : now ≤ 9223372036854775807) (old0 : -9223372036854775808 ≤ old) (old1 : old ≤ 9223372036854775807) (bk0 : -9223372036854775808 ≤ bk) (bk1 : bk ≤ 9223372036854775807) :
    Calls Try.prog 5 #[.agg #[.bool li, .int .i64 si, .int .u64 tu], .agg #[.int .i64 hi, .int .i64 lo, .int .i64 dw], .int .i64 now, .int .i64 old, .int .i64 bk] w fun e w' => e = .returned (.bool true) ∧ Below w.heap.size w w' := by
  have so : (⟨li, si, tu⟩ : Mst).ok := ⟨si0, si1, tu0, tu1⟩
  obtain ⟨z, hz⟩ : ∃ z, turnM ⟨li, si, tu⟩ hi lo dw now old bk = z := ⟨_, rfl⟩
  have hc := turn_cases ⟨li, si, tu⟩ hi lo dw now old bk
  rw [hz] at hc
  obtain ⟨zl, zs, zt⟩ := z
  have HZ := Lib.hid hz
  have HC := Lib.hid hc
  have SO := Lib.hid so
  clear hz hc so
  go_enter Try.func5, Try.ntmps5
  go_upto_region 1 with fail
  refine wp_worldx (fun wx => Bxs w wx [(w.heap.size, 24, [.bool li, .int .i64 si, .int .u64 tu]), (w.heap.size + 1, 26, [.int .i64 hi, .int .i64 lo, .int .i64 dw])]) (((Bxs.nil_ w).alloc_ _ _ (by simp)).alloc_ _ _ (by simp)) ?_
  rintro x1 bx
  have BX := Lib.hid bx
  clear bx
  have p0_0 : x1.cell? ⟨w.heap.size, 0, none⟩ = some (.bool li) := (BX.out.bl 0 _ _ _ rfl).val rfl
  have p0_1 : x1.cell? ⟨w.heap.size, 1, none⟩ = some (.int .i64 si) := (BX.out.bl 0 _ _ _ rfl).val rfl
  have p0_2 : x1.cell? ⟨w.heap.size, 2, none⟩ = some (.int .u64 tu) := (BX.out.bl 0 _ _ _ rfl).val rfl
  have z0 : ∀ k, x1.frozen? ⟨w.heap.size, k, none⟩ = false := (BX.out.bl 0 _ _ _ rfl).free
  have y0 : w.heap.size < x1.heap.size := (BX.out.bl 0 _ _ _ rfl).size
  have p1_0 : x1.cell? ⟨w.heap.size + 1, 0, none⟩ = some (.int .i64 hi) := (BX.out.bl 1 _ _ _ rfl).val rfl
  have p1_1 : x1.cell? ⟨w.heap.size + 1, 1, none⟩ = some (.int .i64 lo) := (BX.out.bl 1 _ _ _ rfl).val rfl
  have p1_2 : x1.cell? ⟨w.heap.size + 1, 2, none⟩ = some (.int .i64 dw) := (BX.out.bl 1 _ _ _ rfl).val rfl
  have z1 : ∀ k, x1.frozen? ⟨w.heap.size + 1, k, none⟩ = false := (BX.out.bl 1 _ _ _ rfl).free
  have y1 : w.heap.size + 1 < x1.heap.size := (BX.out.bl 1 _ _ _ rfl).size
  go_wp2_with fail
  refine (awake10 _).mono ?_
  rintro e x2 ⟨rfl, hb⟩
  have bx : Bxs w x2 [(w.heap.size, 24, [.bool li, .int .i64 si, .int .u64 tu]), (w.heap.size + 1, 26, [.int .i64 hi, .int .i64 lo, .int .i64 dw])] := (BX.out).below hb
  clear p0_0 p0_1 p0_2 z0 y0 p1_0 p1_1 p1_2 z1 y1
  clear hb BX
  have BX := Lib.hid bx
  clear bx
  have p0_0 : x2.cell? ⟨w.heap.size, 0, none⟩ = some (.bool li) := (BX.out.bl 0 _ _ _ rfl).val rfl
  have p0_1 : x2.cell? ⟨w.heap.size, 1, none⟩ = some (.int .i64 si) := (BX.out.bl 0 _ _ _ rfl).val rfl
  have p0_2 : x2.cell? ⟨w.heap.size, 2, none⟩ = some (.int .u64 tu) := (BX.out.bl 0 _ _ _ rfl).val rfl
  have z0 : ∀ k, x2.frozen? ⟨w.heap.size, k, none⟩ = false := (BX.out.bl 0 _ _ _ rfl).free
  have y0 : w.heap.size < x2.heap.size := (BX.out.bl 0 _ _ _ rfl).size
  have p1_0 : x2.cell? ⟨w.heap.size + 1, 0, none⟩ = some (.int .i64 hi) := (BX.out.bl 1 _ _ _ rfl).val rfl
  have p1_1 : x2.cell? ⟨w.heap.size + 1, 1, none⟩ = some (.int .i64 lo) := (BX.out.bl 1 _ _ _ rfl).val rfl
  have p1_2 : x2.cell? ⟨w.heap.size + 1, 2, none⟩ = some (.int .i64 dw) := (BX.out.bl 1 _ _ _ rfl).val rfl
  have z1 : ∀ k, x2.frozen? ⟨w.heap.size + 1, k, none⟩ = false := (BX.out.bl 1 _ _ _ rfl).free
  have y1 : w.heap.size + 1 < x2.heap.size := (BX.out.bl 1 _ _ _ rfl).size
  go_wp2_with fail
  refine (mturn_lit hi lo dw now old bk HZ.out _ SO.out now0 now1).mono ?_
  rintro e x3 ⟨rfl, hb⟩
  have bx : Bxs w x3 [(w.heap.size, 24, [.bool li, .int .i64 si, .int .u64 tu]), (w.heap.size + 1, 26, [.int .i64 hi, .int .i64 lo, .int .i64 dw])] := (BX.out).below hb
  clear p0_0 p0_1 p0_2 z0 y0 p1_0 p1_1 p1_2 z1 y1
  clear hb BX
  have BX := Lib.hid bx
  clear bx
  have p0_0 : x3.cell? ⟨w.heap.size, 0, none⟩ = some (.bool li) := (BX.out.bl 0 _ _ _ rfl).val rfl
  have p0_1 : x3.cell? ⟨w.heap.size, 1, none⟩ = some (.int .i64 si) := (BX.out.bl 0 _ _ _ rfl).val rfl
  have p0_2 : x3.cell? ⟨w.heap.size, 2, none⟩ = some (.int .u64 tu) := (BX.out.bl 0 _ _ _ rfl).val rfl
  have z0 : ∀ k, x3.frozen? ⟨w.heap.size, k, none⟩ = false := (BX.out.bl 0 _ _ _ rfl).free
  have y0 : w.heap.size < x3.heap.size := (BX.out.bl 0 _ _ _ rfl).size
  have p1_0 : x3.cell? ⟨w.heap.size + 1, 0, none⟩ = some (.int .i64 hi) := (BX.out.bl 1 _ _ _ rfl).val rfl
  have p1_1 : x3.cell? ⟨w.heap.size + 1, 1, none⟩ = some (.int .i64 lo) := (BX.out.bl 1 _ _ _ rfl).val rfl
  have p1_2 : x3.cell? ⟨w.heap.size + 1, 2, none⟩ = some (.int .i64 dw) := (BX.out.bl 1 _ _ _ rfl).val rfl
  have z1 : ∀ k, x3.frozen? ⟨w.heap.size + 1, k, none⟩ = false := (BX.out.bl 1 _ _ _ rfl).free
  have y1 : w.heap.size + 1 < x3.heap.size := (BX.out.bl 1 _ _ _ rfl).size
  go_upto_region 4 with fail
  clear p0_0 p0_1 p0_2 z0 y0 p1_0 p1_1 p1_2 z1 y1
  refine wp_worldx (fun wx => Bxs w wx [(w.heap.size, 24, [.bool li, .int .i64 si, .int .u64 tu]), (w.heap.size + 1, 26, [.int .i64 hi, .int .i64 lo, .int .i64 dw]), (x3.heap.size, 24, [.bool zl, .int .i64 zs, .int .u64 zt])]) ((BX.out).alloc_ _ _ (by simp)) ?_
  clear BX
  rintro x4 bx
  have BX := Lib.hid bx
  clear bx
  have p0_0 : x4.cell? ⟨w.heap.size, 0, none⟩ = some (.bool li) := (BX.out.bl 0 _ _ _ rfl).val rfl
  have p0_1 : x4.cell? ⟨w.heap.size, 1, none⟩ = some (.int .i64 si) := (BX.out.bl 0 _ _ _ rfl).val rfl
  have p0_2 : x4.cell? ⟨w.heap.size, 2, none⟩ = some (.int .u64 tu) := (BX.out.bl 0 _ _ _ rfl).val rfl
  have z0 : ∀ k, x4.frozen? ⟨w.heap.size, k, none⟩ = false := (BX.out.bl 0 _ _ _ rfl).free
  have y0 : w.heap.size < x4.heap.size := (BX.out.bl 0 _ _ _ rfl).size
  have p1_0 : x4.cell? ⟨w.heap.size + 1, 0, none⟩ = some (.int .i64 hi) := (BX.out.bl 1 _ _ _ rfl).val rfl
  have p1_1 : x4.cell? ⟨w.heap.size + 1, 1, none⟩ = some (.int .i64 lo) := (BX.out.bl 1 _ _ _ rfl).val rfl
  have p1_2 : x4.cell? ⟨w.heap.size + 1, 2, none⟩ = some (.int .i64 dw) := (BX.out.bl 1 _ _ _ rfl).val rfl
  have z1 : ∀ k, x4.frozen? ⟨w.heap.size + 1, k, none⟩ = false := (BX.out.bl 1 _ _ _ rfl).free
  have y1 : w.heap.size + 1 < x4.heap.size := (BX.out.bl 1 _ _ _ rfl).size
  have p2_0 : x4.cell? ⟨x3.heap.size, 0, none⟩ = some (.bool zl) := (BX.out.bl 2 _ _ _ rfl).val rfl
  have p2_1 : x4.cell? ⟨x3.heap.size, 1, none⟩ = some (.int .i64 zs) := (BX.out.bl 2 _ _ _ rfl).val rfl
  have p2_2 : x4.cell? ⟨x3.heap.size, 2, none⟩ = some (.int .u64 zt) := (BX.out.bl 2 _ _ _ rfl).val rfl
  have z2 : ∀ k, x4.frozen? ⟨x3.heap.size, k, none⟩ = false := (BX.out.bl 2 _ _ _ rfl).free
  have y2 : x3.heap.size < x4.heap.size := (BX.out.bl 2 _ _ _ rfl).size
  obtain ⟨r, hr⟩ : ∃ r, (decide (0 ≤ lo) && decide (lo ≤ hi) && decide (0 ≤ dw)) = r := ⟨_, rfl⟩
  have HR := Lib.hid hr
  clear hr
  rcases HC.out with h | ⟨hw, h⟩
  · injection h with h1 h2 h3
    subst h1 h2 h3
    cases zl
    · by_cases hb : 0 < bk
      · by_cases hl : lo ≤ old
        · by_cases hh : old < hi
          · skip
            go_wp2_with fail
            go_ret
            exact ⟨rfl, BX.out.be⟩
          · cases r
            · skip
              go_wp2_with fail
              refine (mright_r hi lo dw _ HR _).mono ?_
              rintro e x5 ⟨rfl, hb⟩
              have bx : Bxs w x5 [(w.heap.size, 24, [.bool false, .int .i64 zs, .int .u64 zt]), (w.heap.size + 1, 26, [.int .i64 hi, .int .i64 lo, .int .i64 dw]), (x3.heap.size, 24, [.bool false, .int .i64 zs, .int .u64 zt])] := (BX.out).below hb
              clear p0_0 p0_1 p0_2 z0 y0 p1_0 p1_1 p1_2 z1 y1 p2_0 p2_1 p2_2 z2 y2
              clear hb BX
              have BX := Lib.hid bx
              clear bx
              have p0_0 : x5.cell? ⟨w.heap.size, 0, none⟩ = some (.bool false) := (BX.out.bl 0 _ _ _ rfl).val rfl
              have p0_1 : x5.cell? ⟨w.heap.size, 1, none⟩ = some (.int .i64 zs) := (BX.out.bl 0 _ _ _ rfl).val rfl
              have p0_2 : x5.cell? ⟨w.heap.size, 2, none⟩ = some (.int .u64 zt) := (BX.out.bl 0 _ _ _ rfl).val rfl
              have z0 : ∀ k, x5.frozen? ⟨w.heap.size, k, none⟩ = false := (BX.out.bl 0 _ _ _ rfl).free
              have y0 : w.heap.size < x5.heap.size := (BX.out.bl 0 _ _ _ rfl).size
              have p1_0 : x5.cell? ⟨w.heap.size + 1, 0, none⟩ = some (.int .i64 hi) := (BX.out.bl 1 _ _ _ rfl).val rfl
              have p1_1 : x5.cell? ⟨w.heap.size + 1, 1, none⟩ = some (.int .i64 lo) := (BX.out.bl 1 _ _ _ rfl).val rfl
              have p1_2 : x5.cell? ⟨w.heap.size + 1, 2, none⟩ = some (.int .i64 dw) := (BX.out.bl 1 _ _ _ rfl).val rfl
              have z1 : ∀ k, x5.frozen? ⟨w.heap.size + 1, k, none⟩ = false := (BX.out.bl 1 _ _ _ rfl).free
              have y1 : w.heap.size + 1 < x5.heap.size := (BX.out.bl 1 _ _ _ rfl).size
              have p2_0 : x5.cell? ⟨x3.heap.size, 0, none⟩ = some (.bool false) := (BX.out.bl 2 _ _ _ rfl).val rfl
              have p2_1 : x5.cell? ⟨x3.heap.size, 1, none⟩ = some (.int .i64 zs) := (BX.out.bl 2 _ _ _ rfl).val rfl
              have p2_2 : x5.cell? ⟨x3.heap.size, 2, none⟩ = some (.int .u64 zt) := (BX.out.bl 2 _ _ _ rfl).val rfl
              have z2 : ∀ k, x5.frozen? ⟨x3.heap.size, k, none⟩ = false := (BX.out.bl 2 _ _ _ rfl).free
              have y2 : x3.heap.size < x5.heap.size := (BX.out.bl 2 _ _ _ rfl).size
              go_wp2_with fail
              go_ret
              exact ⟨rfl, BX.out.be⟩
            · skip
              go_wp2_with fail
              refine (mright_r hi lo dw _ HR _).mono ?_
              rintro e x5 ⟨rfl, hb⟩
              have bx : Bxs w x5 [(w.heap.size, 24, [.bool false, .int .i64 zs, .int .u64 zt]), (w.heap.size + 1, 26, [.int .i64 hi, .int .i64 lo, .int .i64 dw]), (x3.heap.size, 24, [.bool false, .int .i64 zs, .int .u64 zt])] := (BX.out).below hb
              clear p0_0 p0_1 p0_2 z0 y0 p1_0 p1_1 p1_2 z1 y1 p2_0 p2_1 p2_2 z2 y2
              clear hb BX
              have BX := Lib.hid bx
              clear bx
              have p0_0 : x5.cell? ⟨w.heap.size, 0, none⟩ = some (.bool false) := (BX.out.bl 0 _ _ _ rfl).val rfl
              have p0_1 : x5.cell? ⟨w.heap.size, 1, none⟩ = some (.int .i64 zs) := (BX.out.bl 0 _ _ _ rfl).val rfl
              have p0_2 : x5.cell? ⟨w.heap.size, 2, none⟩ = some (.int .u64 zt) := (BX.out.bl 0 _ _ _ rfl).val rfl
              have z0 : ∀ k, x5.frozen? ⟨w.heap.size, k, none⟩ = false := (BX.out.bl 0 _ _ _ rfl).free
              have y0 : w.heap.size < x5.heap.size := (BX.out.bl 0 _ _ _ rfl).size
              have p1_0 : x5.cell? ⟨w.heap.size + 1, 0, none⟩ = some (.int .i64 hi) := (BX.out.bl 1 _ _ _ rfl).val rfl
              have p1_1 : x5.cell? ⟨w.heap.size + 1, 1, none⟩ = some (.int .i64 lo) := (BX.out.bl 1 _ _ _ rfl).val rfl
              have p1_2 : x5.cell? ⟨w.heap.size + 1, 2, none⟩ = some (.int .i64 dw) := (BX.out.bl 1 _ _ _ rfl).val rfl
              have z1 : ∀ k, x5.frozen? ⟨w.heap.size + 1, k, none⟩ = false := (BX.out.bl 1 _ _ _ rfl).free
              have y1 : w.heap.size + 1 < x5.heap.size := (BX.out.bl 1 _ _ _ rfl).size
              have p2_0 : x5.cell? ⟨x3.heap.size, 0, none⟩ = some (.bool false) := (BX.out.bl 2 _ _ _ rfl).val rfl
              have p2_1 : x5.cell? ⟨x3.heap.size, 1, none⟩ = some (.int .i64 zs) := (BX.out.bl 2 _ _ _ rfl).val rfl
              have p2_2 : x5.cell? ⟨x3.heap.size, 2, none⟩ = some (.int .u64 zt) := (BX.out.bl 2 _ _ _ rfl).val rfl
              have z2 : ∀ k, x5.frozen? ⟨x3.heap.size, k, none⟩ = false := (BX.out.bl 2 _ _ _ rfl).free
              have y2 : x3.heap.size < x5.heap.size := (BX.out.bl 2 _ _ _ rfl).size
              go_wp2_with fail
              go_ret
              exact ⟨rfl, BX.out.be⟩
        · cases r
          · skip
            go_wp2_with fail
            refine (mright_r hi lo dw _ HR _).mono ?_
            rintro e x5 ⟨rfl, hb⟩
            have bx : Bxs w x5 [(w.heap.size, 24, [.bool false, .int .i64 zs, .int .u64 zt]), (w.heap.size + 1, 26, [.int .i64 hi, .int .i64 lo, .int .i64 dw]), (x3.heap.size, 24, [.bool false, .int .i64 zs, .int .u64 zt])] := (BX.out).below hb
            clear p0_0 p0_1 p0_2 z0 y0 p1_0 p1_1 p1_2 z1 y1 p2_0 p2_1 p2_2 z2 y2
            clear hb BX
            have BX := Lib.hid bx
            clear bx
            have p0_0 : x5.cell? ⟨w.heap.size, 0, none⟩ = some (.bool false) := (BX.out.bl 0 _ _ _ rfl).val rfl
            have p0_1 : x5.cell? ⟨w.heap.size, 1, none⟩ = some (.int .i64 zs) := (BX.out.bl 0 _ _ _ rfl).val rfl
            have p0_2 : x5.cell? ⟨w.heap.size, 2, none⟩ = some (.int .u64 zt) := (BX.out.bl 0 _ _ _ rfl).val rfl
            have z0 : ∀ k, x5.frozen? ⟨w.heap.size, k, none⟩ = false := (BX.out.bl 0 _ _ _ rfl).free
            have y0 : w.heap.size < x5.heap.size := (BX.out.bl 0 _ _ _ rfl).size
            have p1_0 : x5.cell? ⟨w.heap.size + 1, 0, none⟩ = some (.int .i64 hi) := (BX.out.bl 1 _ _ _ rfl).val rfl
            have p1_1 : x5.cell? ⟨w.heap.size + 1, 1, none⟩ = some (.int .i64 lo) := (BX.out.bl 1 _ _ _ rfl).val rfl
            have p1_2 : x5.cell? ⟨w.heap.size + 1, 2, none⟩ = some (.int .i64 dw) := (BX.out.bl 1 _ _ _ rfl).val rfl
            have z1 : ∀ k, x5.frozen? ⟨w.heap.size + 1, k, none⟩ = false := (BX.out.bl 1 _ _ _ rfl).free
            have y1 : w.heap.size + 1 < x5.heap.size := (BX.out.bl 1 _ _ _ rfl).size
            have p2_0 : x5.cell? ⟨x3.heap.size, 0, none⟩ = some (.bool false) := (BX.out.bl 2 _ _ _ rfl).val rfl
            have p2_1 : x5.cell? ⟨x3.heap.size, 1, none⟩ = some (.int .i64 zs) := (BX.out.bl 2 _ _ _ rfl).val rfl
            have p2_2 : x5.cell? ⟨x3.heap.size, 2, none⟩ = some (.int .u64 zt) := (BX.out.bl 2 _ _ _ rfl).val rfl
            have z2 : ∀ k, x5.frozen? ⟨x3.heap.size, k, none⟩ = false := (BX.out.bl 2 _ _ _ rfl).free
            have y2 : x3.heap.size < x5.heap.size := (BX.out.bl 2 _ _ _ rfl).size
            go_wp2_with fail
            go_ret
            exact ⟨rfl, BX.out.be⟩
          · skip
            go_wp2_with fail
            refine (mright_r hi lo dw _ HR _).mono ?_
            rintro e x5 ⟨rfl, hb⟩
            have bx : Bxs w x5 [(w.heap.size, 24, [.bool false, .int .i64 zs, .int .u64 zt]), (w.heap.size + 1, 26, [.int .i64 hi, .int .i64 lo, .int .i64 dw]), (x3.heap.size, 24, [.bool false, .int .i64 zs, .int .u64 zt])] := (BX.out).below hb
            clear p0_0 p0_1 p0_2 z0 y0 p1_0 p1_1 p1_2 z1 y1 p2_0 p2_1 p2_2 z2 y2
            clear hb BX
            have BX := Lib.hid bx
            clear bx
            have p0_0 : x5.cell? ⟨w.heap.size, 0, none⟩ = some (.bool false) := (BX.out.bl 0 _ _ _ rfl).val rfl
            have p0_1 : x5.cell? ⟨w.heap.size, 1, none⟩ = some (.int .i64 zs) := (BX.out.bl 0 _ _ _ rfl).val rfl
            have p0_2 : x5.cell? ⟨w.heap.size, 2, none⟩ = some (.int .u64 zt) := (BX.out.bl 0 _ _ _ rfl).val rfl
            have z0 : ∀ k, x5.frozen? ⟨w.heap.size, k, none⟩ = false := (BX.out.bl 0 _ _ _ rfl).free
            have y0 : w.heap.size < x5.heap.size := (BX.out.bl 0 _ _ _ rfl).size
            have p1_0 : x5.cell? ⟨w.heap.size + 1, 0, none⟩ = some (.int .i64 hi) := (BX.out.bl 1 _ _ _ rfl).val rfl
            have p1_1 : x5.cell? ⟨w.heap.size + 1, 1, none⟩ = some (.int .i64 lo) := (BX.out.bl 1 _ _ _ rfl).val rfl
            have p1_2 : x5.cell? ⟨w.heap.size + 1, 2, none⟩ = some (.int .i64 dw) := (BX.out.bl 1 _ _ _ rfl).val rfl
            have z1 : ∀ k, x5.frozen? ⟨w.heap.size + 1, k, none⟩ = false := (BX.out.bl 1 _ _ _ rfl).free
            have y1 : w.heap.size + 1 < x5.heap.size := (BX.out.bl 1 _ _ _ rfl).size
            have p2_0 : x5.cell? ⟨x3.heap.size, 0, none⟩ = some (.bool false) := (BX.out.bl 2 _ _ _ rfl).val rfl
            have p2_1 : x5.cell? ⟨x3.heap.size, 1, none⟩ = some (.int .i64 zs) := (BX.out.bl 2 _ _ _ rfl).val rfl
            have p2_2 : x5.cell? ⟨x3.heap.size, 2, none⟩ = some (.int .u64 zt) := (BX.out.bl 2 _ _ _ rfl).val rfl
            have z2 : ∀ k, x5.frozen? ⟨x3.heap.size, k, none⟩ = false := (BX.out.bl 2 _ _ _ rfl).free
            have y2 : x3.heap.size < x5.heap.size := (BX.out.bl 2 _ _ _ rfl).size
            go_wp2_with fail
            go_ret
            exact ⟨rfl, BX.out.be⟩
      · cases r
        · skip
          go_wp2_with fail
          refine (mright_r hi lo dw _ HR _).mono ?_
          rintro e x5 ⟨rfl, hb⟩
          have bx : Bxs w x5 [(w.heap.size, 24, [.bool false, .int .i64 zs, .int .u64 zt]), (w.heap.size + 1, 26, [.int .i64 hi, .int .i64 lo, .int .i64 dw]), (x3.heap.size, 24, [.bool false, .int .i64 zs, .int .u64 zt])] := (BX.out).below hb
          clear p0_0 p0_1 p0_2 z0 y0 p1_0 p1_1 p1_2 z1 y1 p2_0 p2_1 p2_2 z2 y2
          clear hb BX
          have BX := Lib.hid bx
          clear bx
          have p0_0 : x5.cell? ⟨w.heap.size, 0, none⟩ = some (.bool false) := (BX.out.bl 0 _ _ _ rfl).val rfl
          have p0_1 : x5.cell? ⟨w.heap.size, 1, none⟩ = some (.int .i64 zs) := (BX.out.bl 0 _ _ _ rfl).val rfl
          have p0_2 : x5.cell? ⟨w.heap.size, 2, none⟩ = some (.int .u64 zt) := (BX.out.bl 0 _ _ _ rfl).val rfl
          have z0 : ∀ k, x5.frozen? ⟨w.heap.size, k, none⟩ = false := (BX.out.bl 0 _ _ _ rfl).free
          have y0 : w.heap.size < x5.heap.size := (BX.out.bl 0 _ _ _ rfl).size
          have p1_0 : x5.cell? ⟨w.heap.size + 1, 0, none⟩ = some (.int .i64 hi) := (BX.out.bl 1 _ _ _ rfl).val rfl
          have p1_1 : x5.cell? ⟨w.heap.size + 1, 1, none⟩ = some (.int .i64 lo) := (BX.out.bl 1 _ _ _ rfl).val rfl
          have p1_2 : x5.cell? ⟨w.heap.size + 1, 2, none⟩ = some (.int .i64 dw) := (BX.out.bl 1 _ _ _ rfl).val rfl
          have z1 : ∀ k, x5.frozen? ⟨w.heap.size + 1, k, none⟩ = false := (BX.out.bl 1 _ _ _ rfl).free
          have y1 : w.heap.size + 1 < x5.heap.size := (BX.out.bl 1 _ _ _ rfl).size
          have p2_0 : x5.cell? ⟨x3.heap.size, 0, none⟩ = some (.bool false) := (BX.out.bl 2 _ _ _ rfl).val rfl
          have p2_1 : x5.cell? ⟨x3.heap.size, 1, none⟩ = some (.int .i64 zs) := (BX.out.bl 2 _ _ _ rfl).val rfl
          have p2_2 : x5.cell? ⟨x3.heap.size, 2, none⟩ = some (.int .u64 zt) := (BX.out.bl 2 _ _ _ rfl).val rfl
          have z2 : ∀ k, x5.frozen? ⟨x3.heap.size, k, none⟩ = false := (BX.out.bl 2 _ _ _ rfl).free
          have y2 : x3.heap.size < x5.heap.size := (BX.out.bl 2 _ _ _ rfl).size
          go_wp2_with fail
          go_ret
          exact ⟨rfl, BX.out.be⟩
        · skip
          go_wp2_with fail
          refine (mright_r hi lo dw _ HR _).mono ?_
          rintro e x5 ⟨rfl, hb⟩
          have bx : Bxs w x5 [(w.heap.size, 24, [.bool false, .int .i64 zs, .int .u64 zt]), (w.heap.size + 1, 26, [.int .i64 hi, .int .i64 lo, .int .i64 dw]), (x3.heap.size, 24, [.bool false, .int .i64 zs, .int .u64 zt])] := (BX.out).below hb
          clear p0_0 p0_1 p0_2 z0 y0 p1_0 p1_1 p1_2 z1 y1 p2_0 p2_1 p2_2 z2 y2
          clear hb BX
          have BX := Lib.hid bx
          clear bx
          have p0_0 : x5.cell? ⟨w.heap.size, 0, none⟩ = some (.bool false) := (BX.out.bl 0 _ _ _ rfl).val rfl
          have p0_1 : x5.cell? ⟨w.heap.size, 1, none⟩ = some (.int .i64 zs) := (BX.out.bl 0 _ _ _ rfl).val rfl
          have p0_2 : x5.cell? ⟨w.heap.size, 2, none⟩ = some (.int .u64 zt) := (BX.out.bl 0 _ _ _ rfl).val rfl
          have z0 : ∀ k, x5.frozen? ⟨w.heap.size, k, none⟩ = false := (BX.out.bl 0 _ _ _ rfl).free
          have y0 : w.heap.size < x5.heap.size := (BX.out.bl 0 _ _ _ rfl).size
          have p1_0 : x5.cell? ⟨w.heap.size + 1, 0, none⟩ = some (.int .i64 hi) := (BX.out.bl 1 _ _ _ rfl).val rfl
          have p1_1 : x5.cell? ⟨w.heap.size + 1, 1, none⟩ = some (.int .i64 lo) := (BX.out.bl 1 _ _ _ rfl).val rfl
          have p1_2 : x5.cell? ⟨w.heap.size + 1, 2, none⟩ = some (.int .i64 dw) := (BX.out.bl 1 _ _ _ rfl).val rfl
          have z1 : ∀ k, x5.frozen? ⟨w.heap.size + 1, k, none⟩ = false := (BX.out.bl 1 _ _ _ rfl).free
          have y1 : w.heap.size + 1 < x5.heap.size := (BX.out.bl 1 _ _ _ rfl).size
          have p2_0 : x5.cell? ⟨x3.heap.size, 0, none⟩ = some (.bool false) := (BX.out.bl 2 _ _ _ rfl).val rfl
          have p2_1 : x5.cell? ⟨x3.heap.size, 1, none⟩ = some (.int .i64 zs) := (BX.out.bl 2 _ _ _ rfl).val rfl
          have p2_2 : x5.cell? ⟨x3.heap.size, 2, none⟩ = some (.int .u64 zt) := (BX.out.bl 2 _ _ _ rfl).val rfl
          have z2 : ∀ k, x5.frozen? ⟨x3.heap.size, k, none⟩ = false := (BX.out.bl 2 _ _ _ rfl).free
          have y2 : x3.heap.size < x5.heap.size := (BX.out.bl 2 _ _ _ rfl).size
          go_wp2_with fail
          go_ret
          exact ⟨rfl, BX.out.be⟩
    · by_cases hb : 0 < bk
      · by_cases hl : lo ≤ old
        · by_cases hh : old < hi
          · skip
            go_wp2_with fail
            go_ret
            exact ⟨rfl, BX.out.be⟩
          · cases r
            · skip
              go_wp2_with fail
              refine (mright_r hi lo dw _ HR _).mono ?_
              rintro e x5 ⟨rfl, hb⟩
              have bx : Bxs w x5 [(w.heap.size, 24, [.bool true, .int .i64 zs, .int .u64 zt]), (w.heap.size + 1, 26, [.int .i64 hi, .int .i64 lo, .int .i64 dw]), (x3.heap.size, 24, [.bool true, .int .i64 zs, .int .u64 zt])] := (BX.out).below hb
              clear p0_0 p0_1 p0_2 z0 y0 p1_0 p1_1 p1_2 z1 y1 p2_0 p2_1 p2_2 z2 y2
              clear hb BX
              have BX := Lib.hid bx
              clear bx
              have p0_0 : x5.cell? ⟨w.heap.size, 0, none⟩ = some (.bool true) := (BX.out.bl 0 _ _ _ rfl).val rfl
              have p0_1 : x5.cell? ⟨w.heap.size, 1, none⟩ = some (.int .i64 zs) := (BX.out.bl 0 _ _ _ rfl).val rfl
              have p0_2 : x5.cell? ⟨w.heap.size, 2, none⟩ = some (.int .u64 zt) := (BX.out.bl 0 _ _ _ rfl).val rfl
              have z0 : ∀ k, x5.frozen? ⟨w.heap.size, k, none⟩ = false := (BX.out.bl 0 _ _ _ rfl).free
              have y0 : w.heap.size < x5.heap.size := (BX.out.bl 0 _ _ _ rfl).size
              have p1_0 : x5.cell? ⟨w.heap.size + 1, 0, none⟩ = some (.int .i64 hi) := (BX.out.bl 1 _ _ _ rfl).val rfl
              have p1_1 : x5.cell? ⟨w.heap.size + 1, 1, none⟩ = some (.int .i64 lo) := (BX.out.bl 1 _ _ _ rfl).val rfl
              have p1_2 : x5.cell? ⟨w.heap.size + 1, 2, none⟩ = some (.int .i64 dw) := (BX.out.bl 1 _ _ _ rfl).val rfl
              have z1 : ∀ k, x5.frozen? ⟨w.heap.size + 1, k, none⟩ = false := (BX.out.bl 1 _ _ _ rfl).free
              have y1 : w.heap.size + 1 < x5.heap.size := (BX.out.bl 1 _ _ _ rfl).size
              have p2_0 : x5.cell? ⟨x3.heap.size, 0, none⟩ = some (.bool true) := (BX.out.bl 2 _ _ _ rfl).val rfl
              have p2_1 : x5.cell? ⟨x3.heap.size, 1, none⟩ = some (.int .i64 zs) := (BX.out.bl 2 _ _ _ rfl).val rfl
              have p2_2 : x5.cell? ⟨x3.heap.size, 2, none⟩ = some (.int .u64 zt) := (BX.out.bl 2 _ _ _ rfl).val rfl
              have z2 : ∀ k, x5.frozen? ⟨x3.heap.size, k, none⟩ = false := (BX.out.bl 2 _ _ _ rfl).free
              have y2 : x3.heap.size < x5.heap.size := (BX.out.bl 2 _ _ _ rfl).size
              go_wp2_with fail
              go_ret
              exact ⟨rfl, BX.out.be⟩
            · skip
              go_wp2_with fail
              refine (mright_r hi lo dw _ HR _).mono ?_
              rintro e x5 ⟨rfl, hb⟩
              have bx : Bxs w x5 [(w.heap.size, 24, [.bool true, .int .i64 zs, .int .u64 zt]), (w.heap.size + 1, 26, [.int .i64 hi, .int .i64 lo, .int .i64 dw]), (x3.heap.size, 24, [.bool true, .int .i64 zs, .int .u64 zt])] := (BX.out).below hb
              clear p0_0 p0_1 p0_2 z0 y0 p1_0 p1_1 p1_2 z1 y1 p2_0 p2_1 p2_2 z2 y2
              clear hb BX
              have BX := Lib.hid bx
              clear bx
              have p0_0 : x5.cell? ⟨w.heap.size, 0, none⟩ = some (.bool true) := (BX.out.bl 0 _ _ _ rfl).val rfl
              have p0_1 : x5.cell? ⟨w.heap.size, 1, none⟩ = some (.int .i64 zs) := (BX.out.bl 0 _ _ _ rfl).val rfl
              have p0_2 : x5.cell? ⟨w.heap.size, 2, none⟩ = some (.int .u64 zt) := (BX.out.bl 0 _ _ _ rfl).val rfl
              have z0 : ∀ k, x5.frozen? ⟨w.heap.size, k, none⟩ = false := (BX.out.bl 0 _ _ _ rfl).free
              have y0 : w.heap.size < x5.heap.size := (BX.out.bl 0 _ _ _ rfl).size
              have p1_0 : x5.cell? ⟨w.heap.size + 1, 0, none⟩ = some (.int .i64 hi) := (BX.out.bl 1 _ _ _ rfl).val rfl
              have p1_1 : x5.cell? ⟨w.heap.size + 1, 1, none⟩ = some (.int .i64 lo) := (BX.out.bl 1 _ _ _ rfl).val rfl
              have p1_2 : x5.cell? ⟨w.heap.size + 1, 2, none⟩ = some (.int .i64 dw) := (BX.out.bl 1 _ _ _ rfl).val rfl
              have z1 : ∀ k, x5.frozen? ⟨w.heap.size + 1, k, none⟩ = false := (BX.out.bl 1 _ _ _ rfl).free
              have y1 : w.heap.size + 1 < x5.heap.size := (BX.out.bl 1 _ _ _ rfl).size
              have p2_0 : x5.cell? ⟨x3.heap.size, 0, none⟩ = some (.bool true) := (BX.out.bl 2 _ _ _ rfl).val rfl
              have p2_1 : x5.cell? ⟨x3.heap.size, 1, none⟩ = some (.int .i64 zs) := (BX.out.bl 2 _ _ _ rfl).val rfl
              have p2_2 : x5.cell? ⟨x3.heap.size, 2, none⟩ = some (.int .u64 zt) := (BX.out.bl 2 _ _ _ rfl).val rfl
              have z2 : ∀ k, x5.frozen? ⟨x3.heap.size, k, none⟩ = false := (BX.out.bl 2 _ _ _ rfl).free
              have y2 : x3.heap.size < x5.heap.size := (BX.out.bl 2 _ _ _ rfl).size
              go_wp2_with fail
              go_ret
              exact ⟨rfl, BX.out.be⟩
        · cases r
          · skip
            go_wp2_with fail
            refine (mright_r hi lo dw _ HR _).mono ?_
            rintro e x5 ⟨rfl, hb⟩
            have bx : Bxs w x5 [(w.heap.size, 24, [.bool true, .int .i64 zs, .int .u64 zt]), (w.heap.size + 1, 26, [.int .i64 hi, .int .i64 lo, .int .i64 dw]), (x3.heap.size, 24, [.bool true, .int .i64 zs, .int .u64 zt])] := (BX.out).below hb
            clear p0_0 p0_1 p0_2 z0 y0 p1_0 p1_1 p1_2 z1 y1 p2_0 p2_1 p2_2 z2 y2
            clear hb BX
            have BX := Lib.hid bx
            clear bx
            have p0_0 : x5.cell? ⟨w.heap.size, 0, none⟩ = some (.bool true) := (BX.out.bl 0 _ _ _ rfl).val rfl
            have p0_1 : x5.cell? ⟨w.heap.size, 1, none⟩ = some (.int .i64 zs) := (BX.out.bl 0 _ _ _ rfl).val rfl
            have p0_2 : x5.cell? ⟨w.heap.size, 2, none⟩ = some (.int .u64 zt) := (BX.out.bl 0 _ _ _ rfl).val rfl
            have z0 : ∀ k, x5.frozen? ⟨w.heap.size, k, none⟩ = false := (BX.out.bl 0 _ _ _ rfl).free
            have y0 : w.heap.size < x5.heap.size := (BX.out.bl 0 _ _ _ rfl).size
            have p1_0 : x5.cell? ⟨w.heap.size + 1, 0, none⟩ = some (.int .i64 hi) := (BX.out.bl 1 _ _ _ rfl).val rfl
            have p1_1 : x5.cell? ⟨w.heap.size + 1, 1, none⟩ = some (.int .i64 lo) := (BX.out.bl 1 _ _ _ rfl).val rfl
            have p1_2 : x5.cell? ⟨w.heap.size + 1, 2, none⟩ = some (.int .i64 dw) := (BX.out.bl 1 _ _ _ rfl).val rfl
            have z1 : ∀ k, x5.frozen? ⟨w.heap.size + 1, k, none⟩ = false := (BX.out.bl 1 _ _ _ rfl).free
            have y1 : w.heap.size + 1 < x5.heap.size := (BX.out.bl 1 _ _ _ rfl).size
            have p2_0 : x5.cell? ⟨x3.heap.size, 0, none⟩ = some (.bool true) := (BX.out.bl 2 _ _ _ rfl).val rfl
            have p2_1 : x5.cell? ⟨x3.heap.size, 1, none⟩ = some (.int .i64 zs) := (BX.out.bl 2 _ _ _ rfl).val rfl
            have p2_2 : x5.cell? ⟨x3.heap.size, 2, none⟩ = some (.int .u64 zt) := (BX.out.bl 2 _ _ _ rfl).val rfl
            have z2 : ∀ k, x5.frozen? ⟨x3.heap.size, k, none⟩ = false := (BX.out.bl 2 _ _ _ rfl).free
            have y2 : x3.heap.size < x5.heap.size := (BX.out.bl 2 _ _ _ rfl).size
            go_wp2_with fail
            go_ret
            exact ⟨rfl, BX.out.be⟩
          · skip
            go_wp2_with fail
            refine (mright_r hi lo dw _ HR _).mono ?_
            rintro e x5 ⟨rfl, hb⟩
            have bx : Bxs w x5 [(w.heap.size, 24, [.bool true, .int .i64 zs, .int .u64 zt]), (w.heap.size + 1, 26, [.int .i64 hi, .int .i64 lo, .int .i64 dw]), (x3.heap.size, 24, [.bool true, .int .i64 zs, .int .u64 zt])] := (BX.out).below hb
            clear p0_0 p0_1 p0_2 z0 y0 p1_0 p1_1 p1_2 z1 y1 p2_0 p2_1 p2_2 z2 y2
            clear hb BX
            have BX := Lib.hid bx
            clear bx
            have p0_0 : x5.cell? ⟨w.heap.size, 0, none⟩ = some (.bool true) := (BX.out.bl 0 _ _ _ rfl).val rfl
            have p0_1 : x5.cell? ⟨w.heap.size, 1, none⟩ = some (.int .i64 zs) := (BX.out.bl 0 _ _ _ rfl).val rfl
            have p0_2 : x5.cell? ⟨w.heap.size, 2, none⟩ = some (.int .u64 zt) := (BX.out.bl 0 _ _ _ rfl).val rfl
            have z0 : ∀ k, x5.frozen? ⟨w.heap.size, k, none⟩ = false := (BX.out.bl 0 _ _ _ rfl).free
            have y0 : w.heap.size < x5.heap.size := (BX.out.bl 0 _ _ _ rfl).size
            have p1_0 : x5.cell? ⟨w.heap.size + 1, 0, none⟩ = some (.int .i64 hi) := (BX.out.bl 1 _ _ _ rfl).val rfl
            have p1_1 : x5.cell? ⟨w.heap.size + 1, 1, none⟩ = some (.int .i64 lo) := (BX.out.bl 1 _ _ _ rfl).val rfl
            have p1_2 : x5.cell? ⟨w.heap.size + 1, 2, none⟩ = some (.int .i64 dw) := (BX.out.bl 1 _ _ _ rfl).val rfl
            have z1 : ∀ k, x5.frozen? ⟨w.heap.size + 1, k, none⟩ = false := (BX.out.bl 1 _ _ _ rfl).free
            have y1 : w.heap.size + 1 < x5.heap.size := (BX.out.bl 1 _ _ _ rfl).size
            have p2_0 : x5.cell? ⟨x3.heap.size, 0, none⟩ = some (.bool true) := (BX.out.bl 2 _ _ _ rfl).val rfl
            have p2_1 : x5.cell? ⟨x3.heap.size, 1, none⟩ = some (.int .i64 zs) := (BX.out.bl 2 _ _ _ rfl).val rfl
            have p2_2 : x5.cell? ⟨x3.heap.size, 2, none⟩ = some (.int .u64 zt) := (BX.out.bl 2 _ _ _ rfl).val rfl
            have z2 : ∀ k, x5.frozen? ⟨x3.heap.size, k, none⟩ = false := (BX.out.bl 2 _ _ _ rfl).free
            have y2 : x3.heap.size < x5.heap.size := (BX.out.bl 2 _ _ _ rfl).size
            go_wp2_with fail
            go_ret
            exact ⟨rfl, BX.out.be⟩
      · cases r
        · skip
          go_wp2_with fail
          refine (mright_r hi lo dw _ HR _).mono ?_
          rintro e x5 ⟨rfl, hb⟩
          have bx : Bxs w x5 [(w.heap.size, 24, [.bool true, .int .i64 zs, .int .u64 zt]), (w.heap.size + 1, 26, [.int .i64 hi, .int .i64 lo, .int .i64 dw]), (x3.heap.size, 24, [.bool true, .int .i64 zs, .int .u64 zt])] := (BX.out).below hb
          clear p0_0 p0_1 p0_2 z0 y0 p1_0 p1_1 p1_2 z1 y1 p2_0 p2_1 p2_2 z2 y2
          clear hb BX
          have BX := Lib.hid bx
          clear bx
          have p0_0 : x5.cell? ⟨w.heap.size, 0, none⟩ = some (.bool true) := (BX.out.bl 0 _ _ _ rfl).val rfl
          have p0_1 : x5.cell? ⟨w.heap.size, 1, none⟩ = some (.int .i64 zs) := (BX.out.bl 0 _ _ _ rfl).val rfl
          have p0_2 : x5.cell? ⟨w.heap.size, 2, none⟩ = some (.int .u64 zt) := (BX.out.bl 0 _ _ _ rfl).val rfl
          have z0 : ∀ k, x5.frozen? ⟨w.heap.size, k, none⟩ = false := (BX.out.bl 0 _ _ _ rfl).free
          have y0 : w.heap.size < x5.heap.size := (BX.out.bl 0 _ _ _ rfl).size
          have p1_0 : x5.cell? ⟨w.heap.size + 1, 0, none⟩ = some (.int .i64 hi) := (BX.out.bl 1 _ _ _ rfl).val rfl
          have p1_1 : x5.cell? ⟨w.heap.size + 1, 1, none⟩ = some (.int .i64 lo) := (BX.out.bl 1 _ _ _ rfl).val rfl
          have p1_2 : x5.cell? ⟨w.heap.size + 1, 2, none⟩ = some (.int .i64 dw) := (BX.out.bl 1 _ _ _ rfl).val rfl
          have z1 : ∀ k, x5.frozen? ⟨w.heap.size + 1, k, none⟩ = false := (BX.out.bl 1 _ _ _ rfl).free
          have y1 : w.heap.size + 1 < x5.heap.size := (BX.out.bl 1 _ _ _ rfl).size
          have p2_0 : x5.cell? ⟨x3.heap.size, 0, none⟩ = some (.bool true) := (BX.out.bl 2 _ _ _ rfl).val rfl
          have p2_1 : x5.cell? ⟨x3.heap.size, 1, none⟩ = some (.int .i64 zs) := (BX.out.bl 2 _ _ _ rfl).val rfl
          have p2_2 : x5.cell? ⟨x3.heap.size, 2, none⟩ = some (.int .u64 zt) := (BX.out.bl 2 _ _ _ rfl).val rfl
          have z2 : ∀ k, x5.frozen? ⟨x3.heap.size, k, none⟩ = false := (BX.out.bl 2 _ _ _ rfl).free
          have y2 : x3.heap.size < x5.heap.size := (BX.out.bl 2 _ _ _ rfl).size
          go_wp2_with fail
          go_ret
          exact ⟨rfl, BX.out.be⟩
        · skip
          go_wp2_with fail
          refine (mright_r hi lo dw _ HR _).mono ?_
          rintro e x5 ⟨rfl, hb⟩
          have bx : Bxs w x5 [(w.heap.size, 24, [.bool true, .int .i64 zs, .int .u64 zt]), (w.heap.size + 1, 26, [.int .i64 hi, .int .i64 lo, .int .i64 dw]), (x3.heap.size, 24, [.bool true, .int .i64 zs, .int .u64 zt])] := (BX.out).below hb
          clear p0_0 p0_1 p0_2 z0 y0 p1_0 p1_1 p1_2 z1 y1 p2_0 p2_1 p2_2 z2 y2
          clear hb BX
          have BX := Lib.hid bx
          clear bx
          have p0_0 : x5.cell? ⟨w.heap.size, 0, none⟩ = some (.bool true) := (BX.out.bl 0 _ _ _ rfl).val rfl
          have p0_1 : x5.cell? ⟨w.heap.size, 1, none⟩ = some (.int .i64 zs) := (BX.out.bl 0 _ _ _ rfl).val rfl
          have p0_2 : x5.cell? ⟨w.heap.size, 2, none⟩ = some (.int .u64 zt) := (BX.out.bl 0 _ _ _ rfl).val rfl
          have z0 : ∀ k, x5.frozen? ⟨w.heap.size, k, none⟩ = false := (BX.out.bl 0 _ _ _ rfl).free
          have y0 : w.heap.size < x5.heap.size := (BX.out.bl 0 _ _ _ rfl).size
          have p1_0 : x5.cell? ⟨w.heap.size + 1, 0, none⟩ = some (.int .i64 hi) := (BX.out.bl 1 _ _ _ rfl).val rfl
          have p1_1 : x5.cell? ⟨w.heap.size + 1, 1, none⟩ = some (.int .i64 lo) := (BX.out.bl 1 _ _ _ rfl).val rfl
          have p1_2 : x5.cell? ⟨w.heap.size + 1, 2, none⟩ = some (.int .i64 dw) := (BX.out.bl 1 _ _ _ rfl).val rfl
          have z1 : ∀ k, x5.frozen? ⟨w.heap.size + 1, k, none⟩ = false := (BX.out.bl 1 _ _ _ rfl).free
          have y1 : w.heap.size + 1 < x5.heap.size := (BX.out.bl 1 _ _ _ rfl).size
          have p2_0 : x5.cell? ⟨x3.heap.size, 0, none⟩ = some (.bool true) := (BX.out.bl 2 _ _ _ rfl).val rfl
          have p2_1 : x5.cell? ⟨x3.heap.size, 1, none⟩ = some (.int .i64 zs) := (BX.out.bl 2 _ _ _ rfl).val rfl
          have p2_2 : x5.cell? ⟨x3.heap.size, 2, none⟩ = some (.int .u64 zt) := (BX.out.bl 2 _ _ _ rfl).val rfl
          have z2 : ∀ k, x5.frozen? ⟨x3.heap.size, k, none⟩ = false := (BX.out.bl 2 _ _ _ rfl).free
          have y2 : x3.heap.size < x5.heap.size := (BX.out.bl 2 _ _ _ rfl).size
          go_wp2_with fail
          go_ret
          exact ⟨rfl, BX.out.be⟩
  · injection h with h1 h2 h3
    (try simp only at h1 h2 h3 hw)
    subst h1 h2
    have hne : ¬ zt = tu := by rw [h3]; omega
    have hT : IntKind.u64.wrap (tu + 1) = zt := by rw [h3]; exact wrap_tu tu
    clear h3
    cases li
    · have hb : 0 < bk := by unfold wantM at hw; simp at hw; exact hw.1
      have hh : hi ≤ old := by unfold wantM boundM at hw; simp at hw; exact hw.2
      clear hw
      by_cases hl : lo ≤ old
      · cases r
        · skip
          go_wp2_with fail
          refine (mright_r hi lo dw _ HR _).mono ?_
          rintro e x5 ⟨rfl, hb⟩
          have bx : Bxs w x5 [(w.heap.size, 24, [.bool false, .int .i64 si, .int .u64 tu]), (w.heap.size + 1, 26, [.int .i64 hi, .int .i64 lo, .int .i64 dw]), (x3.heap.size, 24, [.bool true, .int .i64 zs, .int .u64 zt])] := (BX.out).below hb
          clear p0_0 p0_1 p0_2 z0 y0 p1_0 p1_1 p1_2 z1 y1 p2_0 p2_1 p2_2 z2 y2
          clear hb BX
          have BX := Lib.hid bx
          clear bx
          have p0_0 : x5.cell? ⟨w.heap.size, 0, none⟩ = some (.bool false) := (BX.out.bl 0 _ _ _ rfl).val rfl
          have p0_1 : x5.cell? ⟨w.heap.size, 1, none⟩ = some (.int .i64 si) := (BX.out.bl 0 _ _ _ rfl).val rfl
          have p0_2 : x5.cell? ⟨w.heap.size, 2, none⟩ = some (.int .u64 tu) := (BX.out.bl 0 _ _ _ rfl).val rfl
          have z0 : ∀ k, x5.frozen? ⟨w.heap.size, k, none⟩ = false := (BX.out.bl 0 _ _ _ rfl).free
          have y0 : w.heap.size < x5.heap.size := (BX.out.bl 0 _ _ _ rfl).size
          have p1_0 : x5.cell? ⟨w.heap.size + 1, 0, none⟩ = some (.int .i64 hi) := (BX.out.bl 1 _ _ _ rfl).val rfl
          have p1_1 : x5.cell? ⟨w.heap.size + 1, 1, none⟩ = some (.int .i64 lo) := (BX.out.bl 1 _ _ _ rfl).val rfl
          have p1_2 : x5.cell? ⟨w.heap.size + 1, 2, none⟩ = some (.int .i64 dw) := (BX.out.bl 1 _ _ _ rfl).val rfl
          have z1 : ∀ k, x5.frozen? ⟨w.heap.size + 1, k, none⟩ = false := (BX.out.bl 1 _ _ _ rfl).free
          have y1 : w.heap.size + 1 < x5.heap.size := (BX.out.bl 1 _ _ _ rfl).size
          have p2_0 : x5.cell? ⟨x3.heap.size, 0, none⟩ = some (.bool true) := (BX.out.bl 2 _ _ _ rfl).val rfl
          have p2_1 : x5.cell? ⟨x3.heap.size, 1, none⟩ = some (.int .i64 zs) := (BX.out.bl 2 _ _ _ rfl).val rfl
          have p2_2 : x5.cell? ⟨x3.heap.size, 2, none⟩ = some (.int .u64 zt) := (BX.out.bl 2 _ _ _ rfl).val rfl
          have z2 : ∀ k, x5.frozen? ⟨x3.heap.size, k, none⟩ = false := (BX.out.bl 2 _ _ _ rfl).free
          have y2 : x3.heap.size < x5.heap.size := (BX.out.bl 2 _ _ _ rfl).size
          go_wp2_with fail
          go_ret
          exact ⟨rfl, BX.out.be⟩
        · skip
          go_wp2_with fail
          refine (mright_r hi lo dw _ HR _).mono ?_
          rintro e x5 ⟨rfl, hb⟩
          have bx : Bxs w x5 [(w.heap.size, 24, [.bool false, .int .i64 si, .int .u64 tu]), (w.heap.size + 1, 26, [.int .i64 hi, .int .i64 lo, .int .i64 dw]), (x3.heap.size, 24, [.bool true, .int .i64 zs, .int .u64 zt])] := (BX.out).below hb
          clear p0_0 p0_1 p0_2 z0 y0 p1_0 p1_1 p1_2 z1 y1 p2_0 p2_1 p2_2 z2 y2
          clear hb BX
          have BX := Lib.hid bx
          clear bx
          have p0_0 : x5.cell? ⟨w.heap.size, 0, none⟩ = some (.bool false) := (BX.out.bl 0 _ _ _ rfl).val rfl
          have p0_1 : x5.cell? ⟨w.heap.size, 1, none⟩ = some (.int .i64 si) := (BX.out.bl 0 _ _ _ rfl).val rfl
          have p0_2 : x5.cell? ⟨w.heap.size, 2, none⟩ = some (.int .u64 tu) := (BX.out.bl 0 _ _ _ rfl).val rfl
          have z0 : ∀ k, x5.frozen? ⟨w.heap.size, k, none⟩ = false := (BX.out.bl 0 _ _ _ rfl).free
          have y0 : w.heap.size < x5.heap.size := (BX.out.bl 0 _ _ _ rfl).size
          have p1_0 : x5.cell? ⟨w.heap.size + 1, 0, none⟩ = some (.int .i64 hi) := (BX.out.bl 1 _ _ _ rfl).val rfl
          have p1_1 : x5.cell? ⟨w.heap.size + 1, 1, none⟩ = some (.int .i64 lo) := (BX.out.bl 1 _ _ _ rfl).val rfl
          have p1_2 : x5.cell? ⟨w.heap.size + 1, 2, none⟩ = some (.int .i64 dw) := (BX.out.bl 1 _ _ _ rfl).val rfl
          have z1 : ∀ k, x5.frozen? ⟨w.heap.size + 1, k, none⟩ = false := (BX.out.bl 1 _ _ _ rfl).free
          have y1 : w.heap.size + 1 < x5.heap.size := (BX.out.bl 1 _ _ _ rfl).size
          have p2_0 : x5.cell? ⟨x3.heap.size, 0, none⟩ = some (.bool true) := (BX.out.bl 2 _ _ _ rfl).val rfl
          have p2_1 : x5.cell? ⟨x3.heap.size, 1, none⟩ = some (.int .i64 zs) := (BX.out.bl 2 _ _ _ rfl).val rfl
          have p2_2 : x5.cell? ⟨x3.heap.size, 2, none⟩ = some (.int .u64 zt) := (BX.out.bl 2 _ _ _ rfl).val rfl
          have z2 : ∀ k, x5.frozen? ⟨x3.heap.size, k, none⟩ = false := (BX.out.bl 2 _ _ _ rfl).free
          have y2 : x3.heap.size < x5.heap.size := (BX.out.bl 2 _ _ _ rfl).size
          go_wp2_with fail
          go_ret
          exact ⟨rfl, BX.out.be⟩
      · obtain rfl : r = false := by rw [← HR.out]; simp; omega
        skip
        go_wp2_with fail
        refine (mright_r hi lo dw _ HR _).mono ?_
        rintro e x5 ⟨rfl, hb⟩
        have bx : Bxs w x5 [(w.heap.size, 24, [.bool false, .int .i64 si, .int .u64 tu]), (w.heap.size + 1, 26, [.int .i64 hi, .int .i64 lo, .int .i64 dw]), (x3.heap.size, 24, [.bool true, .int .i64 zs, .int .u64 zt])] := (BX.out).below hb
        clear p0_0 p0_1 p0_2 z0 y0 p1_0 p1_1 p1_2 z1 y1 p2_0 p2_1 p2_2 z2 y2
        clear hb BX
        have BX := Lib.hid bx
        clear bx
        have p0_0 : x5.cell? ⟨w.heap.size, 0, none⟩ = some (.bool false) := (BX.out.bl 0 _ _ _ rfl).val rfl
        have p0_1 : x5.cell? ⟨w.heap.size, 1, none⟩ = some (.int .i64 si) := (BX.out.bl 0 _ _ _ rfl).val rfl
        have p0_2 : x5.cell? ⟨w.heap.size, 2, none⟩ = some (.int .u64 tu) := (BX.out.bl 0 _ _ _ rfl).val rfl
        have z0 : ∀ k, x5.frozen? ⟨w.heap.size, k, none⟩ = false := (BX.out.bl 0 _ _ _ rfl).free
        have y0 : w.heap.size < x5.heap.size := (BX.out.bl 0 _ _ _ rfl).size
        have p1_0 : x5.cell? ⟨w.heap.size + 1, 0, none⟩ = some (.int .i64 hi) := (BX.out.bl 1 _ _ _ rfl).val rfl
        have p1_1 : x5.cell? ⟨w.heap.size + 1, 1, none⟩ = some (.int .i64 lo) := (BX.out.bl 1 _ _ _ rfl).val rfl
        have p1_2 : x5.cell? ⟨w.heap.size + 1, 2, none⟩ = some (.int .i64 dw) := (BX.out.bl 1 _ _ _ rfl).val rfl
        have z1 : ∀ k, x5.frozen? ⟨w.heap.size + 1, k, none⟩ = false := (BX.out.bl 1 _ _ _ rfl).free
        have y1 : w.heap.size + 1 < x5.heap.size := (BX.out.bl 1 _ _ _ rfl).size
        have p2_0 : x5.cell? ⟨x3.heap.size, 0, none⟩ = some (.bool true) := (BX.out.bl 2 _ _ _ rfl).val rfl
        have p2_1 : x5.cell? ⟨x3.heap.size, 1, none⟩ = some (.int .i64 zs) := (BX.out.bl 2 _ _ _ rfl).val rfl
        have p2_2 : x5.cell? ⟨x3.heap.size, 2, none⟩ = some (.int .u64 zt) := (BX.out.bl 2 _ _ _ rfl).val rfl
        have z2 : ∀ k, x5.frozen? ⟨x3.heap.size, k, none⟩ = false := (BX.out.bl 2 _ _ _ rfl).free
        have y2 : x3.heap.size < x5.heap.size := (BX.out.bl 2 _ _ _ rfl).size
        go_wp2_with fail
        go_ret
        exact ⟨rfl, BX.out.be⟩
    · have hw2 : ¬ (0 < bk ∧ lo ≤ old) := by unfold wantM boundM at hw; simp at hw; omega
      clear hw
      by_cases hb : 0 < bk
      · have hl : ¬ lo ≤ old := fun h => hw2 ⟨hb, h⟩
        clear hw2
        cases r
        · skip
          go_wp2_with fail
          refine (mright_r hi lo dw _ HR _).mono ?_
          rintro e x5 ⟨rfl, hb⟩
          have bx : Bxs w x5 [(w.heap.size, 24, [.bool true, .int .i64 si, .int .u64 tu]), (w.heap.size + 1, 26, [.int .i64 hi, .int .i64 lo, .int .i64 dw]), (x3.heap.size, 24, [.bool false, .int .i64 zs, .int .u64 zt])] := (BX.out).below hb
          clear p0_0 p0_1 p0_2 z0 y0 p1_0 p1_1 p1_2 z1 y1 p2_0 p2_1 p2_2 z2 y2
          clear hb BX
          have BX := Lib.hid bx
          clear bx
          have p0_0 : x5.cell? ⟨w.heap.size, 0, none⟩ = some (.bool true) := (BX.out.bl 0 _ _ _ rfl).val rfl
          have p0_1 : x5.cell? ⟨w.heap.size, 1, none⟩ = some (.int .i64 si) := (BX.out.bl 0 _ _ _ rfl).val rfl
          have p0_2 : x5.cell? ⟨w.heap.size, 2, none⟩ = some (.int .u64 tu) := (BX.out.bl 0 _ _ _ rfl).val rfl
          have z0 : ∀ k, x5.frozen? ⟨w.heap.size, k, none⟩ = false := (BX.out.bl 0 _ _ _ rfl).free
          have y0 : w.heap.size < x5.heap.size := (BX.out.bl 0 _ _ _ rfl).size
          have p1_0 : x5.cell? ⟨w.heap.size + 1, 0, none⟩ = some (.int .i64 hi) := (BX.out.bl 1 _ _ _ rfl).val rfl
          have p1_1 : x5.cell? ⟨w.heap.size + 1, 1, none⟩ = some (.int .i64 lo) := (BX.out.bl 1 _ _ _ rfl).val rfl
          have p1_2 : x5.cell? ⟨w.heap.size + 1, 2, none⟩ = some (.int .i64 dw) := (BX.out.bl 1 _ _ _ rfl).val rfl
          have z1 : ∀ k, x5.frozen? ⟨w.heap.size + 1, k, none⟩ = false := (BX.out.bl 1 _ _ _ rfl).free
          have y1 : w.heap.size + 1 < x5.heap.size := (BX.out.bl 1 _ _ _ rfl).size
          have p2_0 : x5.cell? ⟨x3.heap.size, 0, none⟩ = some (.bool false) := (BX.out.bl 2 _ _ _ rfl).val rfl
          have p2_1 : x5.cell? ⟨x3.heap.size, 1, none⟩ = some (.int .i64 zs) := (BX.out.bl 2 _ _ _ rfl).val rfl
          have p2_2 : x5.cell? ⟨x3.heap.size, 2, none⟩ = some (.int .u64 zt) := (BX.out.bl 2 _ _ _ rfl).val rfl
          have z2 : ∀ k, x5.frozen? ⟨x3.heap.size, k, none⟩ = false := (BX.out.bl 2 _ _ _ rfl).free
          have y2 : x3.heap.size < x5.heap.size := (BX.out.bl 2 _ _ _ rfl).size
          go_wp2_with fail
          go_ret
          exact ⟨rfl, BX.out.be⟩
        · skip
          go_wp2_with fail
          refine (mright_r hi lo dw _ HR _).mono ?_
          rintro e x5 ⟨rfl, hb⟩
          have bx : Bxs w x5 [(w.heap.size, 24, [.bool true, .int .i64 si, .int .u64 tu]), (w.heap.size + 1, 26, [.int .i64 hi, .int .i64 lo, .int .i64 dw]), (x3.heap.size, 24, [.bool false, .int .i64 zs, .int .u64 zt])] := (BX.out).below hb
          clear p0_0 p0_1 p0_2 z0 y0 p1_0 p1_1 p1_2 z1 y1 p2_0 p2_1 p2_2 z2 y2
          clear hb BX
          have BX := Lib.hid bx
          clear bx
          have p0_0 : x5.cell? ⟨w.heap.size, 0, none⟩ = some (.bool true) := (BX.out.bl 0 _ _ _ rfl).val rfl
          have p0_1 : x5.cell? ⟨w.heap.size, 1, none⟩ = some (.int .i64 si) := (BX.out.bl 0 _ _ _ rfl).val rfl
          have p0_2 : x5.cell? ⟨w.heap.size, 2, none⟩ = some (.int .u64 tu) := (BX.out.bl 0 _ _ _ rfl).val rfl
          have z0 : ∀ k, x5.frozen? ⟨w.heap.size, k, none⟩ = false := (BX.out.bl 0 _ _ _ rfl).free
          have y0 : w.heap.size < x5.heap.size := (BX.out.bl 0 _ _ _ rfl).size
          have p1_0 : x5.cell? ⟨w.heap.size + 1, 0, none⟩ = some (.int .i64 hi) := (BX.out.bl 1 _ _ _ rfl).val rfl
          have p1_1 : x5.cell? ⟨w.heap.size + 1, 1, none⟩ = some (.int .i64 lo) := (BX.out.bl 1 _ _ _ rfl).val rfl
          have p1_2 : x5.cell? ⟨w.heap.size + 1, 2, none⟩ = some (.int .i64 dw) := (BX.out.bl 1 _ _ _ rfl).val rfl
          have z1 : ∀ k, x5.frozen? ⟨w.heap.size + 1, k, none⟩ = false := (BX.out.bl 1 _ _ _ rfl).free
          have y1 : w.heap.size + 1 < x5.heap.size := (BX.out.bl 1 _ _ _ rfl).size
          have p2_0 : x5.cell? ⟨x3.heap.size, 0, none⟩ = some (.bool false) := (BX.out.bl 2 _ _ _ rfl).val rfl
          have p2_1 : x5.cell? ⟨x3.heap.size, 1, none⟩ = some (.int .i64 zs) := (BX.out.bl 2 _ _ _ rfl).val rfl
          have p2_2 : x5.cell? ⟨x3.heap.size, 2, none⟩ = some (.int .u64 zt) := (BX.out.bl 2 _ _ _ rfl).val rfl
          have z2 : ∀ k, x5.frozen? ⟨x3.heap.size, k, none⟩ = false := (BX.out.bl 2 _ _ _ rfl).free
          have y2 : x3.heap.size < x5.heap.size := (BX.out.bl 2 _ _ _ rfl).size
          go_wp2_with fail
          go_ret
          exact ⟨rfl, BX.out.be⟩
      · clear hw2
        cases r
        · skip
          go_wp2_with fail
          refine (mright_r hi lo dw _ HR _).mono ?_
          rintro e x5 ⟨rfl, hb⟩
          have bx : Bxs w x5 [(w.heap.size, 24, [.bool true, .int .i64 si, .int .u64 tu]), (w.heap.size + 1, 26, [.int .i64 hi, .int .i64 lo, .int .i64 dw]), (x3.heap.size, 24, [.bool false, .int .i64 zs, .int .u64 zt])] := (BX.out).below hb
          clear p0_0 p0_1 p0_2 z0 y0 p1_0 p1_1 p1_2 z1 y1 p2_0 p2_1 p2_2 z2 y2
          clear hb BX
          have BX := Lib.hid bx
          clear bx
          have p0_0 : x5.cell? ⟨w.heap.size, 0, none⟩ = some (.bool true) := (BX.out.bl 0 _ _ _ rfl).val rfl
          have p0_1 : x5.cell? ⟨w.heap.size, 1, none⟩ = some (.int .i64 si) := (BX.out.bl 0 _ _ _ rfl).val rfl
          have p0_2 : x5.cell? ⟨w.heap.size, 2, none⟩ = some (.int .u64 tu) := (BX.out.bl 0 _ _ _ rfl).val rfl
          have z0 : ∀ k, x5.frozen? ⟨w.heap.size, k, none⟩ = false := (BX.out.bl 0 _ _ _ rfl).free
          have y0 : w.heap.size < x5.heap.size := (BX.out.bl 0 _ _ _ rfl).size
          have p1_0 : x5.cell? ⟨w.heap.size + 1, 0, none⟩ = some (.int .i64 hi) := (BX.out.bl 1 _ _ _ rfl).val rfl
          have p1_1 : x5.cell? ⟨w.heap.size + 1, 1, none⟩ = some (.int .i64 lo) := (BX.out.bl 1 _ _ _ rfl).val rfl
          have p1_2 : x5.cell? ⟨w.heap.size + 1, 2, none⟩ = some (.int .i64 dw) := (BX.out.bl 1 _ _ _ rfl).val rfl
          have z1 : ∀ k, x5.frozen? ⟨w.heap.size + 1, k, none⟩ = false := (BX.out.bl 1 _ _ _ rfl).free
          have y1 : w.heap.size + 1 < x5.heap.size := (BX.out.bl 1 _ _ _ rfl).size
          have p2_0 : x5.cell? ⟨x3.heap.size, 0, none⟩ = some (.bool false) := (BX.out.bl 2 _ _ _ rfl).val rfl
          have p2_1 : x5.cell? ⟨x3.heap.size, 1, none⟩ = some (.int .i64 zs) := (BX.out.bl 2 _ _ _ rfl).val rfl
          have p2_2 : x5.cell? ⟨x3.heap.size, 2, none⟩ = some (.int .u64 zt) := (BX.out.bl 2 _ _ _ rfl).val rfl
          have z2 : ∀ k, x5.frozen? ⟨x3.heap.size, k, none⟩ = false := (BX.out.bl 2 _ _ _ rfl).free
          have y2 : x3.heap.size < x5.heap.size := (BX.out.bl 2 _ _ _ rfl).size
          go_wp2_with fail
          go_ret
          exact ⟨rfl, BX.out.be⟩
        · skip
          go_wp2_with fail
          refine (mright_r hi lo dw _ HR _).mono ?_
          rintro e x5 ⟨rfl, hb⟩
          have bx : Bxs w x5 [(w.heap.size, 24, [.bool true, .int .i64 si, .int .u64 tu]), (w.heap.size + 1, 26, [.int .i64 hi, .int .i64 lo, .int .i64 dw]), (x3.heap.size, 24, [.bool false, .int .i64 zs, .int .u64 zt])] := (BX.out).below hb
          clear p0_0 p0_1 p0_2 z0 y0 p1_0 p1_1 p1_2 z1 y1 p2_0 p2_1 p2_2 z2 y2
          clear hb BX
          have BX := Lib.hid bx
          clear bx
          have p0_0 : x5.cell? ⟨w.heap.size, 0, none⟩ = some (.bool true) := (BX.out.bl 0 _ _ _ rfl).val rfl
          have p0_1 : x5.cell? ⟨w.heap.size, 1, none⟩ = some (.int .i64 si) := (BX.out.bl 0 _ _ _ rfl).val rfl
          have p0_2 : x5.cell? ⟨w.heap.size, 2, none⟩ = some (.int .u64 tu) := (BX.out.bl 0 _ _ _ rfl).val rfl
          have z0 : ∀ k, x5.frozen? ⟨w.heap.size, k, none⟩ = false := (BX.out.bl 0 _ _ _ rfl).free
          have y0 : w.heap.size < x5.heap.size := (BX.out.bl 0 _ _ _ rfl).size
          have p1_0 : x5.cell? ⟨w.heap.size + 1, 0, none⟩ = some (.int .i64 hi) := (BX.out.bl 1 _ _ _ rfl).val rfl
          have p1_1 : x5.cell? ⟨w.heap.size + 1, 1, none⟩ = some (.int .i64 lo) := (BX.out.bl 1 _ _ _ rfl).val rfl
          have p1_2 : x5.cell? ⟨w.heap.size + 1, 2, none⟩ = some (.int .i64 dw) := (BX.out.bl 1 _ _ _ rfl).val rfl
          have z1 : ∀ k, x5.frozen? ⟨w.heap.size + 1, k, none⟩ = false := (BX.out.bl 1 _ _ _ rfl).free
          have y1 : w.heap.size + 1 < x5.heap.size := (BX.out.bl 1 _ _ _ rfl).size
          have p2_0 : x5.cell? ⟨x3.heap.size, 0, none⟩ = some (.bool false) := (BX.out.bl 2 _ _ _ rfl).val rfl
          have p2_1 : x5.cell? ⟨x3.heap.size, 1, none⟩ = some (.int .i64 zs) := (BX.out.bl 2 _ _ _ rfl).val rfl
          have p2_2 : x5.cell? ⟨x3.heap.size, 2, none⟩ = some (.int .u64 zt) := (BX.out.bl 2 _ _ _ rfl).val rfl
          have z2 : ∀ k, x5.frozen? ⟨x3.heap.size, k, none⟩ = false := (BX.out.bl 2 _ _ _ rfl).free
          have y2 : x3.heap.size < x5.heap.size := (BX.out.bl 2 _ _ _ rfl).size
          go_wp2_with fail
          go_ret
          exact ⟨rfl, BX.out.be⟩
set_option maxRecDepth 100000 in
theorem lifted (os : Os) (started : os.Started) (H : Type) (enc : TypeId × Value → H) :
    ReturnsInHanded {} Try.checked os 5 .any (Rows.modeHoldsSpec.pre6 enc Try.prog Try.f5 Rows.modeHoldsRow.domain false) (Rows.modeHoldsSpec.post enc Try.prog Try.f5 false true false false) := by
  refine returnsInHanded_of_change (C := Try.checked) own started (by kernel_rfl) Try.func5
    (ChangeSpec.witness6 (enc := enc) (C := Try.checked) false ⟨#[], #[.agg #[.bool false, .int .i64 0, .int .u64 0], .agg #[.int .i64 0, .int .i64 0, .int .i64 0], .int .i64 0, .int .i64 0, .int .i64 0], []⟩ 8 (by kernel_rfl) (by kernel_rfl) (by kernel_rfl) (by kernel_rfl)) ?_
  intro W base args ds gs before hval0 hW hcnd _
  have hval : ∀ (j : Nat) t v, Try.f5.params[j]? = some t → args[j]? = some v → Value.okWide Try.prog W .any base t v := hval0
  have hW' := hW
  obtain ⟨p, q, hA0, hV, rfl, hfz, hnd⟩ := hW
  have hA : DataW.TrodAll enc Try.prog W 0 (fun _ => true) true Try.f5.params.toList args.toList ds p := hA0
  rw [Try.params5] at hA hval
  obtain ⟨v0, vs0, d0, ds0, p0, q0, hargs, rfl, rfl, h0, r0⟩ := trodAll_cons hA
  obtain ⟨v1, vs1, d1, ds1, p1, q1, rfl, rfl, rfl, h1, r1⟩ := trodAll_cons r0
  obtain ⟨v2, vs2, d2, ds2, p2, q2, rfl, rfl, rfl, h2, r2⟩ := trodAll_cons r1
  obtain ⟨v3, vs3, d3, ds3, p3, q3, rfl, rfl, rfl, h3, r3⟩ := trodAll_cons r2
  obtain ⟨v4, vs4, d4, ds4, p4, q4, rfl, rfl, rfl, h4, r4⟩ := trodAll_cons r3
  obtain ⟨rfl, rfl, rfl⟩ := trodAll_nil r4
  obtain rfl : args = #[v0, v1, v2, v3, v4] := by cases args; simp_all
  obtain ⟨rfl, rfl⟩ := trodVars_none hV
  obtain ⟨x00, x01, x02, y00, y01, y02, n0, rfl, g00, g01, g02⟩ := open_three Try.underlying24 (by kernel_rfl) (by kernel_rfl) (hval 0 _ v0 rfl rfl) h0
  obtain ⟨a00, e00, ez00⟩ := DataW.trod_bool Try.underlying4 g00
  simp at e00
  subst e00
  obtain ⟨a01, e01, ez01, w01⟩ := DataW.trod_int Try.underlying2 g01
  simp at e01
  subst e01
  obtain ⟨a02, e02, ez02, w02⟩ := DataW.trod_int Try.underlying22 g02
  simp at e02
  subst e02
  obtain ⟨x10, x11, x12, y10, y11, y12, n1, rfl, g10, g11, g12⟩ := open_three Try.underlying26 (by kernel_rfl) (by kernel_rfl) (hval 1 _ v1 rfl rfl) h1
  obtain ⟨a10, e10, ez10, w10⟩ := DataW.trod_int Try.underlying2 g10
  simp at e10
  subst e10
  obtain ⟨a11, e11, ez11, w11⟩ := DataW.trod_int Try.underlying2 g11
  simp at e11
  subst e11
  obtain ⟨a12, e12, ez12, w12⟩ := DataW.trod_int Try.underlying2 g12
  simp at e12
  subst e12
  obtain ⟨a2, rfl, rfl, rfl, w2⟩ := open_int Try.underlying2 (hval 2 _ v2 rfl rfl) h2
  obtain ⟨a3, rfl, rfl, rfl, w3⟩ := open_int Try.underlying2 (hval 3 _ v3 rfl rfl) h3
  obtain ⟨a4, rfl, rfl, rfl, w4⟩ := open_int Try.underlying3 (hval 4 _ v4 rfl rfl) h4
  clear hA0 hval0
  obtain ⟨l01, m01⟩ := wf_i64 w01
  obtain ⟨l02, m02⟩ := wf_u64 w02
  obtain ⟨l10, m10⟩ := wf_i64 w10
  obtain ⟨l11, m11⟩ := wf_i64 w11
  obtain ⟨l12, m12⟩ := wf_i64 w12
  obtain ⟨l2, m2⟩ := wf_i64 w2
  obtain ⟨l3, m3⟩ := wf_i64 w3
  obtain ⟨l4, m4⟩ := wf_i64 w4
  refine (walk a00 a01 a02 a10 a11 a12 a2 a3 a4 W l01 m01 l02 m02 l10 m10 l11 m11 l12 m12 l2 m2 l3 m3 l4 m4).mono fun e W' ⟨he, hg⟩ => ?_
  subst he
  exact ⟨_, rfl, post_of_law hW' rfl laidOut reads rfl Try.underlying4 rfl rfl rfl hg⟩
theorem over : Rows.modeHoldsRow.holds Try.pinned (OpenSpec.ofChange Rows.modeHoldsSpec) :=
  OpenClaim.holds_of_wide 5 Try.f5 rfl rfl rfl rfl rfl rfl rfl ⟨rfl, rfl, rfl, rfl, rfl⟩ rfl rfl rfl rfl rfl (by kernel_rfl) Try.func5 (by kernel_rfl)
    (of_decide_eq_true (by kernel_rfl)) (by unfold Func.isWrapper; first | (rw [if_pos (by decide +kernel)]; kernel_rfl) | (rw [if_neg (by decide +kernel)]; exact ⟨rfl, rfl⟩))
    (fun os started H enc _ => lifted os started H enc)
theorem proved : Rows.ModeHoldsSaid := over
end Go.Proofs.Ytmkdmjcmgbpomaa.modeHolds
