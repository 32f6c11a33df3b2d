/- The document's Default, within, Pid and Right; the law's own and of. -/
import Derived.Test.YtbajmmgdnegoiaaDoorCnv
import Derived.Deep.AppendLies
import Derived.StillTailTactics
namespace Go.Proofs.YtbajmmgdnegoiaaDoor
open Go.ChangeShapes Go.WideShapes Go.ChangeAt Go.RowKit Kn
set_option linter.unusedVariables false
set_option linter.unusedSimpArgs false
/-- A config's parts, as cells. -/
def cfL (c : Cf) : List Value := [.int .i64 c.ti, .int .i64 c.ro, .int .i64 c.ta, .int .i64 c.iv, .int .i64 c.hg, .int .i64 c.lo, .int .i64 c.dw, .int .i64 c.ho, .int .i64 c.sp, .int .i64 c.kp, .int .i64 c.ki, .int .i64 c.kd, .int .i64 c.lm, .int .i64 c.st, .int .i64 c.th, .int .i64 c.rg]
/-- A row of a config's parts. -/
abbrev Row16 (w : World) (g : Nat) (c : Cf) : Prop := Blk w g 2 (cfL c).toArray
set_option maxHeartbeats 1000000 in
theorem rwithin (x l h : Int) (w : World) : Calls Tryd.prog 27 #[.int .i64 x, .int .i64 l, .int .i64 h] w fun e w' => e = .returned (.bool (withinB x l h)) ∧ w = w' := by
  go_enter Tryd.func27, Tryd.ntmps27
  by_cases h1 : l ≤ x
  · by_cases h2 : x ≤ h
    · go_wp2_with fail
      go_ret
      exact ⟨ret_bool (by unfold withinB; simp [h1, h2]), rfl⟩
    · have h3 : decide (x ≤ h) = false := decide_eq_false h2
      go_wp2_with fail
      go_ret
      exact ⟨ret_bool (by unfold withinB; simp [h1, h2]), rfl⟩
  · have h3 : decide (l ≤ x) = false := decide_eq_false h1
    go_wp2_with fail
    go_ret
    exact ⟨ret_bool (by unfold withinB; simp; omega), rfl⟩
set_option maxHeartbeats 1000000 in
theorem rdefault (w : World) : Calls Tryd.prog 19 #[] w fun e w' => e = .returned (.slice (some ⟨w.heap.size, 0, none⟩) 16 16) ∧ Row16 w' w.heap.size Cf.dflt ∧ Below w.heap.size w w' := by
  go_enter Tryd.func19, Tryd.ntmps19
  go_wp2_with fail
  go_ret
  exact ⟨rfl, Blk.made _ _ _, (Below.refl _ _).alloc (Nat.le_refl _) _⟩
set_option maxRecDepth 20000 in
set_option maxHeartbeats 2000000 in
theorem lown13 (c : Cf) (w : World) : Calls Tryd.prog 8 #[c.v] w fun e w' => e = .returned (.slice (some ⟨w.heap.size + 1, 0, none⟩) 16 16) ∧ Row16 w' (w.heap.size + 1) c ∧ Below w.heap.size w w' := by
  obtain ⟨ti, ro, ta, iv, hg, lo, dw, ho, sp, kp, ki, kd, lm, st, th, rg⟩ := c
  go_enter Tryd.func8, Tryd.ntmps8
  go_wp2_with fail
  go_ret
  exact ⟨rfl, Blk.new_ (by simp), ((Below.refl _ _).alloc (Nat.le_refl _) _).alloc (by simp) _⟩
set_option maxRecDepth 20000 in
set_option maxHeartbeats 2000000 in
theorem rpid13 (c : Cf) (g : Nat) (w : World) (hr : Row16 w g c) : Calls Tryd.prog 29 #[.slice (some ⟨g, 0, none⟩) 16 16] w fun e w' => e = .returned (.agg #[.int .i64 c.sp, .int .i64 c.kp, .int .i64 c.ki, .int .i64 c.kd, .int .i64 c.lm, .int .i64 c.st, .int .i64 (IntKind.i64.wrap (c.ti * 128))]) ∧ Below w.heap.size w w' := by
  obtain ⟨ti, ro, ta, iv, hg, lo, dw, ho, sp, kp, ki, kd, lm, st, th, rg⟩ := c
  simp only at hr ⊢
  obtain ⟨mw, hmw⟩ : ∃ z, IntKind.i64.wrap (ti * 128) = z := ⟨_, rfl⟩
  rw [hmw]
  go_enter Tryd.func29, Tryd.ntmps29
  go_upto_region 1 with fail
  refine wp_worldx (fun wx => Blk wx w.heap.size 60 #[.int .i64 0, .int .i64 0, .int .i64 0, .int .i64 0, .int .i64 0, .int .i64 0, .int .i64 0] ∧ Row16 wx g ⟨ti, ro, ta, iv, hg, lo, dw, ho, sp, kp, ki, kd, lm, st, th, rg⟩ ∧ Below w.heap.size w wx) ⟨Blk.made _ _ _, hr.alloc_ _, (Below.refl _ _).alloc (Nat.le_refl _) _⟩ ?_
  rintro x1 ⟨hb, hr1, hbel⟩
  have c0 : x1.cell? ⟨g, 0, none⟩ = some (.int .i64 ti) := hr1.val (i := 0) rfl
  have c1 : x1.cell? ⟨g, 1, none⟩ = some (.int .i64 ro) := hr1.val (i := 1) rfl
  have c2 : x1.cell? ⟨g, 2, none⟩ = some (.int .i64 ta) := hr1.val (i := 2) rfl
  have c3 : x1.cell? ⟨g, 3, none⟩ = some (.int .i64 iv) := hr1.val (i := 3) rfl
  have c4 : x1.cell? ⟨g, 4, none⟩ = some (.int .i64 hg) := hr1.val (i := 4) rfl
  have c5 : x1.cell? ⟨g, 5, none⟩ = some (.int .i64 lo) := hr1.val (i := 5) rfl
  have c6 : x1.cell? ⟨g, 6, none⟩ = some (.int .i64 dw) := hr1.val (i := 6) rfl
  have c7 : x1.cell? ⟨g, 7, none⟩ = some (.int .i64 ho) := hr1.val (i := 7) rfl
  have c8 : x1.cell? ⟨g, 8, none⟩ = some (.int .i64 sp) := hr1.val (i := 8) rfl
  have c9 : x1.cell? ⟨g, 9, none⟩ = some (.int .i64 kp) := hr1.val (i := 9) rfl
  have c10 : x1.cell? ⟨g, 10, none⟩ = some (.int .i64 ki) := hr1.val (i := 10) rfl
  have c11 : x1.cell? ⟨g, 11, none⟩ = some (.int .i64 kd) := hr1.val (i := 11) rfl
  have c12 : x1.cell? ⟨g, 12, none⟩ = some (.int .i64 lm) := hr1.val (i := 12) rfl
  have c13 : x1.cell? ⟨g, 13, none⟩ = some (.int .i64 st) := hr1.val (i := 13) rfl
  have c14 : x1.cell? ⟨g, 14, none⟩ = some (.int .i64 th) := hr1.val (i := 14) rfl
  have c15 : x1.cell? ⟨g, 15, none⟩ = some (.int .i64 rg) := hr1.val (i := 15) rfl
  have e0 : x1.cell? ⟨w.heap.size, 0, none⟩ = some (.int .i64 0) := hb.val (i := 0) rfl
  have e1 : x1.cell? ⟨w.heap.size, 1, none⟩ = some (.int .i64 0) := hb.val (i := 1) rfl
  have e2 : x1.cell? ⟨w.heap.size, 2, none⟩ = some (.int .i64 0) := hb.val (i := 2) rfl
  have e3 : x1.cell? ⟨w.heap.size, 3, none⟩ = some (.int .i64 0) := hb.val (i := 3) rfl
  have e4 : x1.cell? ⟨w.heap.size, 4, none⟩ = some (.int .i64 0) := hb.val (i := 4) rfl
  have e5 : x1.cell? ⟨w.heap.size, 5, none⟩ = some (.int .i64 0) := hb.val (i := 5) rfl
  have e6 : x1.cell? ⟨w.heap.size, 6, none⟩ = some (.int .i64 0) := hb.val (i := 6) rfl
  have z := hb.free
  have hne := hr1.other hb (by decide)
  have HB := Lib.hid (And.intro hb (And.intro hr1 hbel))
  clear hr hb hr1 hbel
  go_still_tail 23, (by kernel_rfl)
  go_wp2_with fail
  refine bodyPost_ret (v := .agg #[.int .i64 sp, .int .i64 kp, .int .i64 ki, .int .i64 kd, .int .i64 lm, .int .i64 st, .int .i64 mw]) (by simp [results, Tryd.results29, go_sem, *]) rfl ⟨rfl, ?_⟩
  exact ((((((((HB.out.2.2.setCell (p := ⟨w.heap.size, 0, none⟩) (Nat.le_refl _) _).setCell (p := ⟨w.heap.size, 1, none⟩) (Nat.le_refl _) _).setCell (p := ⟨w.heap.size, 2, none⟩) (Nat.le_refl _) _).setCell (p := ⟨w.heap.size, 3, none⟩) (Nat.le_refl _) _).setCell (p := ⟨w.heap.size, 4, none⟩) (Nat.le_refl _) _).setCell (p := ⟨w.heap.size, 5, none⟩) (Nat.le_refl _) _).setCell (p := ⟨w.heap.size, 6, none⟩) (Nat.le_refl _) _).drew)
end Go.Proofs.YtbajmmgdnegoiaaDoor
