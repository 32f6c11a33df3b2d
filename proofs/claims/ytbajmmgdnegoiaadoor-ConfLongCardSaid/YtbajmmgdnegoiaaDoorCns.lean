/- The law's 'of' and layer 4's Right. -/
import Derived.Test.YtbajmmgdnegoiaaDoorCnq
import Derived.Test.YtbajmmgdnegoiaaDoorCnp
namespace Go.Proofs.YtbajmmgdnegoiaaDoor
open Go.ChangeShapes Go.WideShapes Go.ChangeAt Go.RowKit Kn
set_option linter.unusedVariables false
set_option linter.unusedSimpArgs false
theorem powB_yes (x : Int) (h : x = 2 ∨ x = 4 ∨ x = 8 ∨ x = 16 ∨ x = 32 ∨ x = 64) : powB x = true := by
  rcases h with rfl | rfl | rfl | rfl | rfl | rfl <;> decide +kernel
theorem powB_fin : ∀ n : Fin 65, 2 ≤ n.val → powB (n.val : Int) = true → n.val = 2 ∨ n.val = 4 ∨ n.val = 8 ∨ n.val = 16 ∨ n.val = 32 ∨ n.val = 64 := by decide +kernel
theorem powB_no (x : Int) (h1 : 2 ≤ x) (h2 : x ≤ 64) (h : ¬ (x = 2 ∨ x = 4 ∨ x = 8 ∨ x = 16 ∨ x = 32 ∨ x = 64)) : powB x = false := by
  rcases hp : powB x with _ | _
  · rfl
  · exfalso
    have z := powB_fin ⟨x.toNat, by omega⟩ (by simp only; omega) (by rw [show ((x.toNat : Nat) : Int) = x by omega]; exact hp)
    simp only at z
    omega
def isPow (p : Int) : Prop := p = 2 ∨ p = 4 ∨ p = 8 ∨ p = 16 ∨ p = 32 ∨ p = 64 ∨ p = 128
def noneBelow (x p : Int) : Prop := ∀ q : Int, (q = 2 ∨ q = 4 ∨ q = 8 ∨ q = 16 ∨ q = 32 ∨ q = 64) → q < p → x ≠ q
set_option maxHeartbeats 2000000 in
theorem r4right (x : Int) (w : World) (h1 : 2 ≤ x) (h2 : x ≤ 64) : Calls Tryd.prog 30 #[.int .i64 x] w fun e w' => e = .returned (.bool (powB x)) ∧ w = w' := by
  go_enter Tryd.func30, Tryd.ntmps30
  go_wp2_with fail
  go_loopw [3] (fun s3 wr => ∃ (p : Int), s3 = .int .i64 p ∧ isPow p ∧ noneBelow x p ∧ wr = w) (fun s _ => (200 - intOf s).toNat)
  case atStart => exact ⟨2, rfl, .inl rfl, (fun q hq hl => by omega), rfl⟩
  case round =>
    obtain ⟨p, rfl, hp, hn, rfl⟩ := hrel
    by_cases hx : p = x
    · have hpx : p ≤ 64 := by omega
      have HY := Lib.hid (powB_yes x (by unfold isPow at hp; omega))
      clear hp hn
      go_wp2_with fail
      go_ret
      exact ⟨ret_bool HY.out.symm, rfl⟩
    · by_cases hpl : p ≤ 64
      · have hnp : isPow (p * 2) := by unfold isPow at hp ⊢; omega
        have hnb : noneBelow x (p * 2) := by
          intro q hq hl
          by_cases hqp : q < p
          · exact hn q hq hqp
          · unfold isPow at hp; omega
        have hp0 : 0 ≤ p := by unfold isPow at hp; omega
        have hp1 : 2 ≤ p := by unfold isPow at hp; omega
        clear hp hn
        go_wp2_with fail
        exact ⟨⟨p * 2, rfl, hnp, hnb, trivial⟩, by simp only [intOf]; omega⟩
      · have HY := Lib.hid (powB_no x h1 h2 (fun hq => hn x hq (by unfold isPow at hp; omega) rfl))
        clear hp hn
        go_wp2_with fail
        go_ret
        exact ⟨ret_bool HY.out.symm, rfl⟩
set_option maxRecDepth 20000 in
set_option maxHeartbeats 4000000 in
theorem lof13 (c : Cf) (g : Nat) (w : World) (hr : Row16 w g c) : Calls Tryd.prog 18 #[.slice (some ⟨g, 0, none⟩) 16 16] w fun e w' => e = .returned c.v ∧ Below w.heap.size w w' := by
  obtain ⟨ti, ro, ta, iv, hg, lo, dw, ho, sp, kp, ki, kd, lm, st, th, rg⟩ := c
  try simp only [Cf.v]
  go_enter Tryd.func18, Tryd.ntmps18
  go_upto_region 1 with fail
  refine wp_worldx (fun wx => Blk wx w.heap.size 24 #[.int .i64 0, .int .i64 0, .int .i64 0, .int .i64 0, .int .i64 0, .int .i64 0, .int .i64 0, .int .i64 0, .int .i64 0, .int .i64 0, .int .i64 0, .int .i64 0, .int .i64 0, .int .i64 0, .int .i64 0, .int .i64 0] ∧ Row16 wx g ⟨ti, ro, ta, iv, hg, lo, dw, ho, sp, kp, ki, kd, lm, st, th, rg⟩ ∧ Below w.heap.size w wx) ⟨Blk.made _ _ _, hr.alloc_ _, (Below.refl _ _).alloc (Nat.le_refl _) _⟩ ?_
  rintro x1 ⟨hb, hr1, hbel⟩
  have c0 : x1.cell? ⟨g, 0, none⟩ = some (.int .i64 ti) := hr1.val (i := 0) rfl
  have c1 : x1.cell? ⟨g, 1, none⟩ = some (.int .i64 ro) := hr1.val (i := 1) rfl
  have c2 : x1.cell? ⟨g, 2, none⟩ = some (.int .i64 ta) := hr1.val (i := 2) rfl
  have c3 : x1.cell? ⟨g, 3, none⟩ = some (.int .i64 iv) := hr1.val (i := 3) rfl
  have c4 : x1.cell? ⟨g, 4, none⟩ = some (.int .i64 hg) := hr1.val (i := 4) rfl
  have c5 : x1.cell? ⟨g, 5, none⟩ = some (.int .i64 lo) := hr1.val (i := 5) rfl
  have c6 : x1.cell? ⟨g, 6, none⟩ = some (.int .i64 dw) := hr1.val (i := 6) rfl
  have c7 : x1.cell? ⟨g, 7, none⟩ = some (.int .i64 ho) := hr1.val (i := 7) rfl
  have c8 : x1.cell? ⟨g, 8, none⟩ = some (.int .i64 sp) := hr1.val (i := 8) rfl
  have c9 : x1.cell? ⟨g, 9, none⟩ = some (.int .i64 kp) := hr1.val (i := 9) rfl
  have c10 : x1.cell? ⟨g, 10, none⟩ = some (.int .i64 ki) := hr1.val (i := 10) rfl
  have c11 : x1.cell? ⟨g, 11, none⟩ = some (.int .i64 kd) := hr1.val (i := 11) rfl
  have c12 : x1.cell? ⟨g, 12, none⟩ = some (.int .i64 lm) := hr1.val (i := 12) rfl
  have c13 : x1.cell? ⟨g, 13, none⟩ = some (.int .i64 st) := hr1.val (i := 13) rfl
  have c14 : x1.cell? ⟨g, 14, none⟩ = some (.int .i64 th) := hr1.val (i := 14) rfl
  have c15 : x1.cell? ⟨g, 15, none⟩ = some (.int .i64 rg) := hr1.val (i := 15) rfl
  have e0 : x1.cell? ⟨w.heap.size, 0, none⟩ = some (.int .i64 0) := hb.val (i := 0) rfl
  have e1 : x1.cell? ⟨w.heap.size, 1, none⟩ = some (.int .i64 0) := hb.val (i := 1) rfl
  have e2 : x1.cell? ⟨w.heap.size, 2, none⟩ = some (.int .i64 0) := hb.val (i := 2) rfl
  have e3 : x1.cell? ⟨w.heap.size, 3, none⟩ = some (.int .i64 0) := hb.val (i := 3) rfl
  have e4 : x1.cell? ⟨w.heap.size, 4, none⟩ = some (.int .i64 0) := hb.val (i := 4) rfl
  have e5 : x1.cell? ⟨w.heap.size, 5, none⟩ = some (.int .i64 0) := hb.val (i := 5) rfl
  have e6 : x1.cell? ⟨w.heap.size, 6, none⟩ = some (.int .i64 0) := hb.val (i := 6) rfl
  have e7 : x1.cell? ⟨w.heap.size, 7, none⟩ = some (.int .i64 0) := hb.val (i := 7) rfl
  have e8 : x1.cell? ⟨w.heap.size, 8, none⟩ = some (.int .i64 0) := hb.val (i := 8) rfl
  have e9 : x1.cell? ⟨w.heap.size, 9, none⟩ = some (.int .i64 0) := hb.val (i := 9) rfl
  have e10 : x1.cell? ⟨w.heap.size, 10, none⟩ = some (.int .i64 0) := hb.val (i := 10) rfl
  have e11 : x1.cell? ⟨w.heap.size, 11, none⟩ = some (.int .i64 0) := hb.val (i := 11) rfl
  have e12 : x1.cell? ⟨w.heap.size, 12, none⟩ = some (.int .i64 0) := hb.val (i := 12) rfl
  have e13 : x1.cell? ⟨w.heap.size, 13, none⟩ = some (.int .i64 0) := hb.val (i := 13) rfl
  have e14 : x1.cell? ⟨w.heap.size, 14, none⟩ = some (.int .i64 0) := hb.val (i := 14) rfl
  have e15 : x1.cell? ⟨w.heap.size, 15, none⟩ = some (.int .i64 0) := hb.val (i := 15) rfl
  have z := hb.free
  have hne := hr1.other hb (by decide)
  have HB := Lib.hid (And.intro hb (And.intro hr1 hbel))
  clear hr hb hr1 hbel
  go_still_tail 49, (by kernel_rfl)
  go_wp2_with fail
  refine bodyPost_ret (v := .agg #[.int .i64 ti, .int .i64 ro, .int .i64 ta, .int .i64 iv, .int .i64 hg, .int .i64 lo, .int .i64 dw, .int .i64 ho, .int .i64 sp, .int .i64 kp, .int .i64 ki, .int .i64 kd, .int .i64 lm, .int .i64 st, .int .i64 th, .int .i64 rg]) (by simp [results, Tryd.results18, go_sem, *]) rfl ⟨rfl, ?_⟩
  exact ((((((((((((((((HB.out.2.2.setCell (p := ⟨w.heap.size, 0, none⟩) (Nat.le_refl _) _).setCell (p := ⟨w.heap.size, 1, none⟩) (Nat.le_refl _) _).setCell (p := ⟨w.heap.size, 2, none⟩) (Nat.le_refl _) _).setCell (p := ⟨w.heap.size, 3, none⟩) (Nat.le_refl _) _).setCell (p := ⟨w.heap.size, 4, none⟩) (Nat.le_refl _) _).setCell (p := ⟨w.heap.size, 5, none⟩) (Nat.le_refl _) _).setCell (p := ⟨w.heap.size, 6, none⟩) (Nat.le_refl _) _).setCell (p := ⟨w.heap.size, 7, none⟩) (Nat.le_refl _) _).setCell (p := ⟨w.heap.size, 8, none⟩) (Nat.le_refl _) _).setCell (p := ⟨w.heap.size, 9, none⟩) (Nat.le_refl _) _).setCell (p := ⟨w.heap.size, 10, none⟩) (Nat.le_refl _) _).setCell (p := ⟨w.heap.size, 11, none⟩) (Nat.le_refl _) _).setCell (p := ⟨w.heap.size, 12, none⟩) (Nat.le_refl _) _).setCell (p := ⟨w.heap.size, 13, none⟩) (Nat.le_refl _) _).setCell (p := ⟨w.heap.size, 14, none⟩) (Nat.le_refl _) _).setCell (p := ⟨w.heap.size, 15, none⟩) (Nat.le_refl _) _).drew
end Go.Proofs.YtbajmmgdnegoiaaDoor
