/- Texts of this claim, one behind the other: Cra Crc Ost16 Ofo. -/
import Derived.Test.YtgdblfghbnallaaGreatProg
import Derived.ChangeArms
import Derived.Test.YtgdblfghbnallaaGreatMgae
import Derived.Test.YtgdblfghbnallaaGreatMgaf
import Derived.Test.YtgdblfghbnallaaGreatMgbq
/- A core's config and a tier's states, as they are told; of a nil core. -/
namespace Go.Proofs.YtgdblfghbnallaaGreat
open Go.ChangeShapes Go.WideShapes Go.RowKit Kn
set_option linter.unusedVariables false
set_option linter.unusedSimpArgs false
def Cf.zero : Cf := ⟨0, 0, 0, 0, 0, 0, 0, 0, 0, 0, 0, 0, 0, 0, 0, 0⟩
set_option maxHeartbeats 4000000 in
theorem res_conf {W : World} {g : Nat} {x0 x1 : Value} {rest : List Value} {c : Cf} (h : Blk W g 24 c.l.toArray) :
    (results Tryz.f9 (x0 :: x1 :: .pointer (some ⟨g, 0, none⟩) :: rest).toArray).run Tryz.prog W = .ok c.v W := by
  obtain ⟨ti, ro, ta, iv, hg, lo, dw, ho, sp, kp, ki, kd, lm, st, th, rg⟩ := c
  have r0 : W.cell? ⟨g, 0, none⟩ = some (.int .i64 ti) := h.val (i := 0) rfl
  have r1 : W.cell? ⟨g, 1, none⟩ = some (.int .i64 ro) := h.val (i := 1) rfl
  have r2 : W.cell? ⟨g, 2, none⟩ = some (.int .i64 ta) := h.val (i := 2) rfl
  have r3 : W.cell? ⟨g, 3, none⟩ = some (.int .i64 iv) := h.val (i := 3) rfl
  have r4 : W.cell? ⟨g, 4, none⟩ = some (.int .i64 hg) := h.val (i := 4) rfl
  have r5 : W.cell? ⟨g, 5, none⟩ = some (.int .i64 lo) := h.val (i := 5) rfl
  have r6 : W.cell? ⟨g, 6, none⟩ = some (.int .i64 dw) := h.val (i := 6) rfl
  have r7 : W.cell? ⟨g, 7, none⟩ = some (.int .i64 ho) := h.val (i := 7) rfl
  have r8 : W.cell? ⟨g, 8, none⟩ = some (.int .i64 sp) := h.val (i := 8) rfl
  have r9 : W.cell? ⟨g, 9, none⟩ = some (.int .i64 kp) := h.val (i := 9) rfl
  have r10 : W.cell? ⟨g, 10, none⟩ = some (.int .i64 ki) := h.val (i := 10) rfl
  have r11 : W.cell? ⟨g, 11, none⟩ = some (.int .i64 kd) := h.val (i := 11) rfl
  have r12 : W.cell? ⟨g, 12, none⟩ = some (.int .i64 lm) := h.val (i := 12) rfl
  have r13 : W.cell? ⟨g, 13, none⟩ = some (.int .i64 st) := h.val (i := 13) rfl
  have r14 : W.cell? ⟨g, 14, none⟩ = some (.int .i64 th) := h.val (i := 14) rfl
  have r15 : W.cell? ⟨g, 15, none⟩ = some (.int .i64 rg) := h.val (i := 15) rfl
  simp [results, Tryz.results9, go_sem, r0, r1, r2, r3, r4, r5, r6, r7, r8, r9, r10, r11, r12, r13, r14, r15]
section
variable {w w' w'' : World} {p q gc gm l g b : Nat} {r r' : Option Nat} {O Oq Oq' O1 : Nat → Prop} {S S' : Cor}
theorem CoreB.conf_ {c : Cf} (h : CoreB w p q gc gm l r Oq S) (hc : S.cf = c) {i : Nat} {v : Value} (hv : c.l[i]? = some v) : w.cell? ⟨p, i, none⟩ = some v := by
  refine h.head.val ?_
  unfold coreCells
  rw [List.getElem?_toArray, hc, List.getElem?_append_left (List.getElem?_eq_some_iff.1 hv).1, hv]
def put16 (w : World) (g : Nat) (c : Cf) : World := (((((((((((((((w.setCell ⟨g, 0, none⟩ (.int .i64 c.ti)).setCell ⟨g, 1, none⟩ (.int .i64 c.ro)).setCell ⟨g, 2, none⟩ (.int .i64 c.ta)).setCell ⟨g, 3, none⟩ (.int .i64 c.iv)).setCell ⟨g, 4, none⟩ (.int .i64 c.hg)).setCell ⟨g, 5, none⟩ (.int .i64 c.lo)).setCell ⟨g, 6, none⟩ (.int .i64 c.dw)).setCell ⟨g, 7, none⟩ (.int .i64 c.ho)).setCell ⟨g, 8, none⟩ (.int .i64 c.sp)).setCell ⟨g, 9, none⟩ (.int .i64 c.kp)).setCell ⟨g, 10, none⟩ (.int .i64 c.ki)).setCell ⟨g, 11, none⟩ (.int .i64 c.kd)).setCell ⟨g, 12, none⟩ (.int .i64 c.lm)).setCell ⟨g, 13, none⟩ (.int .i64 c.st)).setCell ⟨g, 14, none⟩ (.int .i64 c.th)).setCell ⟨g, 15, none⟩ (.int .i64 c.rg)
theorem put16_blk {T : TypeId} {c0 c : Cf} (h : Blk w g T c0.l.toArray) : Blk (put16 w g c) g T c.l.toArray := by
  have := (((((((((((((((h.set_ 0 (.int .i64 c.ti)).set_ 1 (.int .i64 c.ro)).set_ 2 (.int .i64 c.ta)).set_ 3 (.int .i64 c.iv)).set_ 4 (.int .i64 c.hg)).set_ 5 (.int .i64 c.lo)).set_ 6 (.int .i64 c.dw)).set_ 7 (.int .i64 c.ho)).set_ 8 (.int .i64 c.sp)).set_ 9 (.int .i64 c.kp)).set_ 10 (.int .i64 c.ki)).set_ 11 (.int .i64 c.kd)).set_ 12 (.int .i64 c.lm)).set_ 13 (.int .i64 c.st)).set_ 14 (.int .i64 c.th)).set_ 15 (.int .i64 c.rg)
  simpa [put16] using this
theorem put16_below {B : Nat} {c : Cf} (hg : B ≤ g) (h : Below B w w') : Below B w (put16 w' g c) := by
  unfold put16
  exact (((((((((((((((h.setCell (p := ⟨g, 0, none⟩) hg _).setCell (p := ⟨g, 1, none⟩) hg _).setCell (p := ⟨g, 2, none⟩) hg _).setCell (p := ⟨g, 3, none⟩) hg _).setCell (p := ⟨g, 4, none⟩) hg _).setCell (p := ⟨g, 5, none⟩) hg _).setCell (p := ⟨g, 6, none⟩) hg _).setCell (p := ⟨g, 7, none⟩) hg _).setCell (p := ⟨g, 8, none⟩) hg _).setCell (p := ⟨g, 9, none⟩) hg _).setCell (p := ⟨g, 10, none⟩) hg _).setCell (p := ⟨g, 11, none⟩) hg _).setCell (p := ⟨g, 12, none⟩) hg _).setCell (p := ⟨g, 13, none⟩) hg _).setCell (p := ⟨g, 14, none⟩) hg _).setCell (p := ⟨g, 15, none⟩) hg _
set_option maxRecDepth 100000 in
set_option maxHeartbeats 8000000 in
theorem co_config (h : CoreL w p O S) :
    Calls Tryz.prog 9 #[.pointer (some ⟨p, 0, none⟩)] w fun e w' => e = .returned S.cf.v ∧ Below w.heap.size w w' := by
  obtain ⟨q, gc, gm, l, r, Oq, h1, hO⟩ := h.cells
  obtain ⟨cf, hcf⟩ : ∃ cf, S.cf = cf := ⟨_, rfl⟩
  obtain ⟨ti, ro, ta, iv, hg, lo, dw, ho, sp, kp, ki, kd, lm, st, th, rg⟩ := cf
  have k0 : w.cell? ⟨p, 0, none⟩ = some (.int .i64 ti) := h1.conf_ hcf (i := 0) rfl
  have k1 : w.cell? ⟨p, 1, none⟩ = some (.int .i64 ro) := h1.conf_ hcf (i := 1) rfl
  have k2 : w.cell? ⟨p, 2, none⟩ = some (.int .i64 ta) := h1.conf_ hcf (i := 2) rfl
  have k3 : w.cell? ⟨p, 3, none⟩ = some (.int .i64 iv) := h1.conf_ hcf (i := 3) rfl
  have k4 : w.cell? ⟨p, 4, none⟩ = some (.int .i64 hg) := h1.conf_ hcf (i := 4) rfl
  have k5 : w.cell? ⟨p, 5, none⟩ = some (.int .i64 lo) := h1.conf_ hcf (i := 5) rfl
  have k6 : w.cell? ⟨p, 6, none⟩ = some (.int .i64 dw) := h1.conf_ hcf (i := 6) rfl
  have k7 : w.cell? ⟨p, 7, none⟩ = some (.int .i64 ho) := h1.conf_ hcf (i := 7) rfl
  have k8 : w.cell? ⟨p, 8, none⟩ = some (.int .i64 sp) := h1.conf_ hcf (i := 8) rfl
  have k9 : w.cell? ⟨p, 9, none⟩ = some (.int .i64 kp) := h1.conf_ hcf (i := 9) rfl
  have k10 : w.cell? ⟨p, 10, none⟩ = some (.int .i64 ki) := h1.conf_ hcf (i := 10) rfl
  have k11 : w.cell? ⟨p, 11, none⟩ = some (.int .i64 kd) := h1.conf_ hcf (i := 11) rfl
  have k12 : w.cell? ⟨p, 12, none⟩ = some (.int .i64 lm) := h1.conf_ hcf (i := 12) rfl
  have k13 : w.cell? ⟨p, 13, none⟩ = some (.int .i64 st) := h1.conf_ hcf (i := 13) rfl
  have k14 : w.cell? ⟨p, 14, none⟩ = some (.int .i64 th) := h1.conf_ hcf (i := 14) rfl
  have k15 : w.cell? ⟨p, 15, none⟩ = some (.int .i64 rg) := h1.conf_ hcf (i := 15) rfl
  have hp := h1.head.size
  have HCF := Lib.hid hcf
  clear h h1 hO hcf
  go_enter Tryz.func9, Tryz.ntmps9
  go_upto_region 1 with fail
  refine wp_worldx (fun wx => Blk wx w.heap.size 24 Cf.zero.l.toArray ∧ Below w.heap.size w wx) ⟨Blk.made _ _ _, (Below.refl _ _).alloc (Nat.le_refl _) _⟩ ?_
  obtain ⟨g, hg⟩ : ∃ g, w.heap.size = g := ⟨_, rfl⟩
  rw [hg]
  rintro w1 ⟨h1, h2⟩
  have hp : p < g := by omega
  replace k0 := (h2.cell (p := ⟨p, 0, none⟩) hp).trans k0
  replace k1 := (h2.cell (p := ⟨p, 1, none⟩) hp).trans k1
  replace k2 := (h2.cell (p := ⟨p, 2, none⟩) hp).trans k2
  replace k3 := (h2.cell (p := ⟨p, 3, none⟩) hp).trans k3
  replace k4 := (h2.cell (p := ⟨p, 4, none⟩) hp).trans k4
  replace k5 := (h2.cell (p := ⟨p, 5, none⟩) hp).trans k5
  replace k6 := (h2.cell (p := ⟨p, 6, none⟩) hp).trans k6
  replace k7 := (h2.cell (p := ⟨p, 7, none⟩) hp).trans k7
  replace k8 := (h2.cell (p := ⟨p, 8, none⟩) hp).trans k8
  replace k9 := (h2.cell (p := ⟨p, 9, none⟩) hp).trans k9
  replace k10 := (h2.cell (p := ⟨p, 10, none⟩) hp).trans k10
  replace k11 := (h2.cell (p := ⟨p, 11, none⟩) hp).trans k11
  replace k12 := (h2.cell (p := ⟨p, 12, none⟩) hp).trans k12
  replace k13 := (h2.cell (p := ⟨p, 13, none⟩) hp).trans k13
  replace k14 := (h2.cell (p := ⟨p, 14, none⟩) hp).trans k14
  replace k15 := (h2.cell (p := ⟨p, 15, none⟩) hp).trans k15
  have z0 : w1.cell? ⟨g, 0, none⟩ = some (.int .i64 0) := h1.val (i := 0) rfl
  have z1 : w1.cell? ⟨g, 1, none⟩ = some (.int .i64 0) := h1.val (i := 1) rfl
  have z2 : w1.cell? ⟨g, 2, none⟩ = some (.int .i64 0) := h1.val (i := 2) rfl
  have z3 : w1.cell? ⟨g, 3, none⟩ = some (.int .i64 0) := h1.val (i := 3) rfl
  have z4 : w1.cell? ⟨g, 4, none⟩ = some (.int .i64 0) := h1.val (i := 4) rfl
  have z5 : w1.cell? ⟨g, 5, none⟩ = some (.int .i64 0) := h1.val (i := 5) rfl
  have z6 : w1.cell? ⟨g, 6, none⟩ = some (.int .i64 0) := h1.val (i := 6) rfl
  have z7 : w1.cell? ⟨g, 7, none⟩ = some (.int .i64 0) := h1.val (i := 7) rfl
  have z8 : w1.cell? ⟨g, 8, none⟩ = some (.int .i64 0) := h1.val (i := 8) rfl
  have z9 : w1.cell? ⟨g, 9, none⟩ = some (.int .i64 0) := h1.val (i := 9) rfl
  have z10 : w1.cell? ⟨g, 10, none⟩ = some (.int .i64 0) := h1.val (i := 10) rfl
  have z11 : w1.cell? ⟨g, 11, none⟩ = some (.int .i64 0) := h1.val (i := 11) rfl
  have z12 : w1.cell? ⟨g, 12, none⟩ = some (.int .i64 0) := h1.val (i := 12) rfl
  have z13 : w1.cell? ⟨g, 13, none⟩ = some (.int .i64 0) := h1.val (i := 13) rfl
  have z14 : w1.cell? ⟨g, 14, none⟩ = some (.int .i64 0) := h1.val (i := 14) rfl
  have z15 : w1.cell? ⟨g, 15, none⟩ = some (.int .i64 0) := h1.val (i := 15) rfl
  have zf := h1.free
  have HA := Lib.hid h1
  have HB := Lib.hid h2
  have HG := Lib.hid hg
  clear h1 h2 hg
  go_wp2
  have hb := put16_blk (c := (⟨ti, ro, ta, iv, hg, lo, dw, ho, sp, kp, ki, kd, lm, st, th, rg⟩ : Cf)) HA.out
  have hl : Below w.heap.size w (put16 w1 g (⟨ti, ro, ta, iv, hg, lo, dw, ho, sp, kp, ki, kd, lm, st, th, rg⟩ : Cf)) := by rw [HG.out]; exact put16_below (Nat.le_refl _) HB.out
  obtain ⟨WZ, hWZ⟩ : ∃ W, put16 w1 g (⟨ti, ro, ta, iv, hg, lo, dw, ho, sp, kp, ki, kd, lm, st, th, rg⟩ : Cf) = W := ⟨_, rfl⟩
  rw [hWZ] at hb hl
  simp only [put16, Cf.zero] at hWZ
  rw [hWZ]
  exact bodyPost_ret (v := (⟨ti, ro, ta, iv, hg, lo, dw, ho, sp, kp, ki, kd, lm, st, th, rg⟩ : Cf).v) (res_conf hb) rfl ⟨by rw [HCF.out], hl⟩
set_option maxRecDepth 100000 in
set_option maxHeartbeats 8000000 in
theorem nil_config (w : World) :
    Calls Tryz.prog 9 #[.pointer none] w fun e w' => e = .returned Cf.zero.v ∧ Below w.heap.size w w' := by
  go_enter Tryz.func9, Tryz.ntmps9
  go_upto_region 1 with fail
  refine wp_worldx (fun wx => Blk wx w.heap.size 24 Cf.zero.l.toArray ∧ Below w.heap.size w wx) ⟨Blk.made _ _ _, (Below.refl _ _).alloc (Nat.le_refl _) _⟩ ?_
  obtain ⟨g, hg⟩ : ∃ g, w.heap.size = g := ⟨_, rfl⟩
  rw [hg]
  rintro w1 ⟨h1, h2⟩
  have z0 : w1.cell? ⟨g, 0, none⟩ = some (.int .i64 0) := h1.val (i := 0) rfl
  have z1 : w1.cell? ⟨g, 1, none⟩ = some (.int .i64 0) := h1.val (i := 1) rfl
  have z2 : w1.cell? ⟨g, 2, none⟩ = some (.int .i64 0) := h1.val (i := 2) rfl
  have z3 : w1.cell? ⟨g, 3, none⟩ = some (.int .i64 0) := h1.val (i := 3) rfl
  have z4 : w1.cell? ⟨g, 4, none⟩ = some (.int .i64 0) := h1.val (i := 4) rfl
  have z5 : w1.cell? ⟨g, 5, none⟩ = some (.int .i64 0) := h1.val (i := 5) rfl
  have z6 : w1.cell? ⟨g, 6, none⟩ = some (.int .i64 0) := h1.val (i := 6) rfl
  have z7 : w1.cell? ⟨g, 7, none⟩ = some (.int .i64 0) := h1.val (i := 7) rfl
  have z8 : w1.cell? ⟨g, 8, none⟩ = some (.int .i64 0) := h1.val (i := 8) rfl
  have z9 : w1.cell? ⟨g, 9, none⟩ = some (.int .i64 0) := h1.val (i := 9) rfl
  have z10 : w1.cell? ⟨g, 10, none⟩ = some (.int .i64 0) := h1.val (i := 10) rfl
  have z11 : w1.cell? ⟨g, 11, none⟩ = some (.int .i64 0) := h1.val (i := 11) rfl
  have z12 : w1.cell? ⟨g, 12, none⟩ = some (.int .i64 0) := h1.val (i := 12) rfl
  have z13 : w1.cell? ⟨g, 13, none⟩ = some (.int .i64 0) := h1.val (i := 13) rfl
  have z14 : w1.cell? ⟨g, 14, none⟩ = some (.int .i64 0) := h1.val (i := 14) rfl
  have z15 : w1.cell? ⟨g, 15, none⟩ = some (.int .i64 0) := h1.val (i := 15) rfl
  have zf := h1.free
  have HA := Lib.hid h1
  have HB := Lib.hid h2
  have HG := Lib.hid hg
  clear h1 h2 hg
  go_wp2
  have hb := put16_blk (c := Cf.zero) HA.out
  have hl : Below w.heap.size w (put16 w1 g Cf.zero) := by rw [HG.out]; exact put16_below (Nat.le_refl _) HB.out
  obtain ⟨WZ, hWZ⟩ : ∃ W, put16 w1 g Cf.zero = W := ⟨_, rfl⟩
  rw [hWZ] at hb hl
  simp only [put16, Cf.zero] at hWZ
  rw [hWZ]
  exact bodyPost_ret (v := Cf.zero.v) (res_conf hb) rfl ⟨rfl, hl⟩
set_option maxRecDepth 100000 in
set_option maxHeartbeats 4000000 in
theorem nil_has (t : Int) (w : World) : Calls Tryz.prog 36 #[.pointer none, .int .i64 t] w fun e w' => e = .returned (.bool false) ∧ w = w' := by
  go_enter Tryz.func36, Tryz.ntmps36
  go_wp2
  go_ret
  exact ⟨rfl, rfl⟩
set_option maxRecDepth 100000 in
set_option maxHeartbeats 4000000 in
theorem co_has (t : Int) (h : CoreL w p O S) : Calls Tryz.prog 36 #[.pointer (some ⟨p, 0, none⟩), .int .i64 t] w fun e w' => e = .returned (.bool (decide (0 ≤ t ∧ t < S.cf.ti))) ∧ w = w' := by
  obtain ⟨q, gc, gm, l, r, Oq, h1, hO⟩ := h.cells
  have k0 : w.cell? ⟨p, 0, none⟩ = some (.int .i64 S.cf.ti) := h1.conf_ rfl (i := 0) rfl
  clear h h1 hO
  obtain ⟨n, hn⟩ : ∃ n, S.cf.ti = n := ⟨_, rfl⟩
  rw [hn] at k0 ⊢
  clear hn
  by_cases h0 : 0 ≤ t
  · by_cases h1 : t < n
    · rw [decide_eq_true (show 0 ≤ t ∧ t < n from ⟨h0, h1⟩)]
      go_enter Tryz.func36, Tryz.ntmps36
      go_wp2
      go_ret
      exact ⟨rfl, rfl⟩
    · rw [decide_eq_false (fun e => h1 e.2)]
      go_enter Tryz.func36, Tryz.ntmps36
      go_wp2
      go_ret
      exact ⟨rfl, rfl⟩
  · rw [decide_eq_false (fun e => h0 e.1)]
    go_enter Tryz.func36, Tryz.ntmps36
    go_wp2
    go_ret
    exact ⟨rfl, rfl⟩
set_option maxRecDepth 100000 in
set_option maxHeartbeats 4000000 in
theorem codel_nil (t : Int) (w : World) : Calls Tryz.prog 15 #[.pointer none, .int .i64 t] w fun e w' => e = .returned (.agg #[.bool false, .int .i64 0, .bool false, .int .i64 0, .int .u64 0, .int .u64 0]) ∧ Below w.heap.size w w' := by
  go_enter Tryz.func15, Tryz.ntmps15
  go_wp2_with fail
  refine (nil_has t _).mono ?_
  rintro e w1 ⟨rfl, rfl⟩
  go_wp2
  refine bodyPost_ret (v := .agg #[.bool false, .int .i64 0, .bool false, .int .i64 0, .int .u64 0, .int .u64 0]) (by simp [results, Tryz.results15, go_sem, *]) rfl ⟨rfl, ?_⟩
  repeat (first | with_reducible exact Below.refl _ _ | refine Below.setCell ?_ (by simp) _ | refine Below.alloc ?_ (by simp) _)
set_option maxRecDepth 100000 in
set_option maxHeartbeats 4000000 in
theorem codel_no (t : Int) (h : CoreL w p O S) (ht : ¬ (0 ≤ t ∧ t < S.cf.ti)) : Calls Tryz.prog 15 #[.pointer (some ⟨p, 0, none⟩), .int .i64 t] w fun e w' => e = .returned (.agg #[.bool false, .int .i64 0, .bool false, .int .i64 0, .int .u64 0, .int .u64 0]) ∧ Below w.heap.size w w' := by
  have HL := Lib.hid h
  have HT := Lib.hid ht
  clear h ht
  go_enter Tryz.func15, Tryz.ntmps15
  go_wp2_with fail
  refine (co_has t (HL.out.below ((Below.refl _ _).alloc (Nat.le_refl _) _))).mono ?_
  rw [decide_eq_false HT.out]
  rintro e w1 ⟨rfl, rfl⟩
  go_wp2
  refine bodyPost_ret (v := .agg #[.bool false, .int .i64 0, .bool false, .int .i64 0, .int .u64 0, .int .u64 0]) (by simp [results, Tryz.results15, go_sem, *]) rfl ⟨rfl, ?_⟩
  repeat (first | with_reducible exact Below.refl _ _ | refine Below.setCell ?_ (by simp) _ | refine Below.alloc ?_ (by simp) _)
set_option maxRecDepth 100000 in
set_option maxHeartbeats 4000000 in
theorem mode_nil (t : Int) (w : World) : Calls Tryz.prog 16 #[.pointer none, .int .i64 t] w fun e w' => e = .returned (.agg #[.bool false, .int .i64 0, .int .u64 0]) ∧ Below w.heap.size w w' := by
  go_enter Tryz.func16, Tryz.ntmps16
  go_wp2_with fail
  refine (nil_has t _).mono ?_
  rintro e w1 ⟨rfl, rfl⟩
  go_wp2
  refine bodyPost_ret (v := .agg #[.bool false, .int .i64 0, .int .u64 0]) (by simp [results, Tryz.results16, go_sem, *]) rfl ⟨rfl, ?_⟩
  repeat (first | with_reducible exact Below.refl _ _ | refine Below.setCell ?_ (by simp) _ | refine Below.alloc ?_ (by simp) _)
set_option maxRecDepth 100000 in
set_option maxHeartbeats 4000000 in
theorem mode_no (t : Int) (h : CoreL w p O S) (ht : ¬ (0 ≤ t ∧ t < S.cf.ti)) : Calls Tryz.prog 16 #[.pointer (some ⟨p, 0, none⟩), .int .i64 t] w fun e w' => e = .returned (.agg #[.bool false, .int .i64 0, .int .u64 0]) ∧ Below w.heap.size w w' := by
  have HL := Lib.hid h
  have HT := Lib.hid ht
  clear h ht
  go_enter Tryz.func16, Tryz.ntmps16
  go_wp2_with fail
  refine (co_has t (HL.out.below ((Below.refl _ _).alloc (Nat.le_refl _) _))).mono ?_
  rw [decide_eq_false HT.out]
  rintro e w1 ⟨rfl, rfl⟩
  go_wp2
  refine bodyPost_ret (v := .agg #[.bool false, .int .i64 0, .int .u64 0]) (by simp [results, Tryz.results16, go_sem, *]) rfl ⟨rfl, ?_⟩
  repeat (first | with_reducible exact Below.refl _ _ | refine Below.setCell ?_ (by simp) _ | refine Below.alloc ?_ (by simp) _)
end
end Go.Proofs.YtgdblfghbnallaaGreat
/- New of any config; the example of layer 16. -/
namespace Go.Proofs.YtgdblfghbnallaaGreat
open Go.ChangeShapes Go.WideShapes Go.RowKit Kn
set_option linter.unusedVariables false
set_option linter.unusedSimpArgs false
theorem valid_bounds {c : Cf} (h : validE c = 0) : (1 ≤ c.ti ∧ c.ti ≤ 8) ∧ (1 ≤ c.ro ∧ c.ro ≤ 1024) := by
  unfold validE at h
  split at h
  · rename_i hv
    unfold validB sizedB withinB at hv
    simp only [Bool.and_eq_true, decide_eq_true_eq] at hv
    exact ⟨hv.1.1.1.1.1.1.1, hv.1.1.1.1.1.1.2⟩
  · omega
theorem validE_or (c : Cf) : validE c = 0 ∨ validE c = 1 := by unfold validE; split; exact .inl rfl; exact .inr rfl
set_option maxRecDepth 100000 in
set_option maxHeartbeats 8000000 in
theorem cnew_no (c : Cf) (w : World) (hv : validE c = 1) :
    Calls Tryz.prog 6 #[c.v] w fun e w' => e = .returned (.tuple #[.pointer none, .int .i64 1]) ∧ Below w.heap.size w w' := by
  have hva := fun wq => valid_any c wq
  rw [hv] at hva
  have HVA := Lib.hid hva
  clear hva hv
  obtain ⟨ti, ro, ta, iv, hx, lo, dw, ho, sp, kp, ki, kd, lm, sx, th, rg⟩ := c
  go_enter Tryz.func6, Tryz.ntmps6
  go_upto_region 1 with fail
  refine wp_worldx (fun wx => Blk wx w.heap.size 24 #[.int .i64 ti, .int .i64 ro, .int .i64 ta, .int .i64 iv, .int .i64 hx, .int .i64 lo, .int .i64 dw, .int .i64 ho, .int .i64 sp, .int .i64 kp, .int .i64 ki, .int .i64 kd, .int .i64 lm, .int .i64 sx, .int .i64 th, .int .i64 rg] ∧ Below w.heap.size w wx) ⟨Blk.made _ _ _, (Below.refl _ _).alloc (Nat.le_refl _) _⟩ ?_
  obtain ⟨g, hg⟩ : ∃ g, w.heap.size = g := ⟨_, rfl⟩
  rw [hg]
  rintro w1 ⟨h1, h2⟩
  have k0 : w1.cell? ⟨g, 0, none⟩ = some (.int .i64 ti) := h1.val (i := 0) rfl
  have k1 : w1.cell? ⟨g, 1, none⟩ = some (.int .i64 ro) := h1.val (i := 1) rfl
  have k2 : w1.cell? ⟨g, 2, none⟩ = some (.int .i64 ta) := h1.val (i := 2) rfl
  have k3 : w1.cell? ⟨g, 3, none⟩ = some (.int .i64 iv) := h1.val (i := 3) rfl
  have k4 : w1.cell? ⟨g, 4, none⟩ = some (.int .i64 hx) := h1.val (i := 4) rfl
  have k5 : w1.cell? ⟨g, 5, none⟩ = some (.int .i64 lo) := h1.val (i := 5) rfl
  have k6 : w1.cell? ⟨g, 6, none⟩ = some (.int .i64 dw) := h1.val (i := 6) rfl
  have k7 : w1.cell? ⟨g, 7, none⟩ = some (.int .i64 ho) := h1.val (i := 7) rfl
  have k8 : w1.cell? ⟨g, 8, none⟩ = some (.int .i64 sp) := h1.val (i := 8) rfl
  have k9 : w1.cell? ⟨g, 9, none⟩ = some (.int .i64 kp) := h1.val (i := 9) rfl
  have k10 : w1.cell? ⟨g, 10, none⟩ = some (.int .i64 ki) := h1.val (i := 10) rfl
  have k11 : w1.cell? ⟨g, 11, none⟩ = some (.int .i64 kd) := h1.val (i := 11) rfl
  have k12 : w1.cell? ⟨g, 12, none⟩ = some (.int .i64 lm) := h1.val (i := 12) rfl
  have k13 : w1.cell? ⟨g, 13, none⟩ = some (.int .i64 sx) := h1.val (i := 13) rfl
  have k14 : w1.cell? ⟨g, 14, none⟩ = some (.int .i64 th) := h1.val (i := 14) rfl
  have k15 : w1.cell? ⟨g, 15, none⟩ = some (.int .i64 rg) := h1.val (i := 15) rfl
  have HB := Lib.hid (show Below w.heap.size w w1 from by rw [hg]; exact h2)
  clear h1 h2 hg
  go_wp2_with fail
  refine (HVA.out w1).mono ?_
  rintro e w2 ⟨rfl, hb⟩
  have HB2 := Lib.hid (HB.out.trans (hb.mono HB.out.size))
  clear hb HB k0 k1 k2 k3 k4 k5 k6 k7 k8 k9 k10 k11 k12 k13 k14 k15
  go_wp2
  go_ret2
  exact ⟨rfl, HB2.out⟩
theorem cnew_any (c : Cf) (w : World) (hf : c.fits) :
    Calls Tryz.prog 6 #[c.v] w fun e w' => ∃ P, e = .returned (.tuple #[.pointer P, .int .i64 (validE c)]) ∧ ((P = none ∧ validE c = 1) ∨ (validE c = 0 ∧ ∃ (p : Nat) (O : Nat → Prop) (N n : Nat), P = some ⟨p, 0, none⟩ ∧ CoreL w' p O (newC c N n) ∧ (∀ k, O k → w.heap.size ≤ k))) ∧ Below w.heap.size w w' := by
  rcases validE_or c with h | h
  · obtain ⟨⟨a0, a1⟩, ⟨b0, b1⟩⟩ := valid_bounds h
    refine (cnew_yes c c.ti.toNat c.ro.toNat w h hf (by omega) (by omega) (by omega) (by omega) (by omega) (by omega)).mono ?_
    rintro e w' ⟨p, O, rfl, h1, h2, h3⟩
    exact ⟨_, by rw [h], .inr ⟨h, p, O, _, _, rfl, h1, h2⟩, h3⟩
  · refine (cnew_no c w h).mono ?_
    rintro e w' ⟨rfl, h3⟩
    exact ⟨_, by rw [h], .inl ⟨rfl, h⟩, h3⟩
theorem dflt_fits : Cf.dflt.fits := by
  constructor <;> (unfold I64_ Cf.dflt; decide)
theorem dflt_valid : validE Cf.dflt = 0 := by decide +kernel
theorem cnew_dflt (w : World) :
    Calls Tryz.prog 6 #[Cf.dflt.v] w fun e w' => ∃ (p : Nat) (O : Nat → Prop), e = .returned (.tuple #[.pointer (some ⟨p, 0, none⟩), .int .i64 0]) ∧ CoreL w' p O (newC Cf.dflt 4 64) ∧ (∀ k, O k → w.heap.size ≤ k) ∧ Below w.heap.size w w' :=
  cnew_yes Cf.dflt 4 64 w dflt_valid dflt_fits rfl rfl (by omega) (by omega) (by omega) (by omega)
set_option maxRecDepth 100000 in
set_option maxHeartbeats 8000000 in
theorem awake16 (w : World) : Calls Tryz.prog 5 #[] w fun e w' => e = .returned (.bool true) ∧ Below w.heap.size w w' := by
  go_enter Tryz.func5, Tryz.ntmps5
  go_wp2_with fail
  refine (cdef_any _).mono ?_
  rintro e w1 ⟨rfl, hb1⟩
  have HB1 := Lib.hid hb1
  clear hb1
  go_wp2_with fail
  refine (cnew_dflt _).mono ?_
  rintro e w2 ⟨p, O, rfl, h2, hO, hb2⟩
  have HL := Lib.hid h2
  have HO := Lib.hid (fun k hk => show w.heap.size ≤ k from by have := hO k hk; have := HB1.out.size; omega)
  have HB2 := Lib.hid (HB1.out.trans (hb2.mono HB1.out.size))
  clear h2 hO hb2 HB1
  go_wp2_with fail
  refine (first_submit (b := 0) (c := 0) (d := 9) ⟨by omega, by omega⟩ ⟨by omega, by omega⟩ (by omega) ⟨by omega, by omega⟩ HL.out).mono ?_
  rintro e w3 ⟨hv, hst⟩
  replace hv : e = .returned (.agg #[.int .u8 1, .int .u64 1, .int .i64 0, .int .i64 0, .int .i64 0]) := hv
  subst hv
  obtain ⟨O3, hL3, hO3, hk3⟩ := hst
  have hb3 : Below w.heap.size w w3 := HB2.out.trans (hk3.below (fun k hk => HO.out k hk) HB2.out.size)
  go_upto_region 5 with fail
  refine wp_worldx (fun wx => CoreL wx p O3 (A0 0 0 9) ∧ Blk wx w3.heap.size resT #[.int .u8 1, .int .u64 1, .int .i64 0, .int .i64 0, .int .i64 0] ∧ Below w.heap.size w wx) ⟨hL3.below ((Below.refl _ _).alloc (Nat.le_refl _) _), Blk.made _ _ _, hb3.alloc hb3.size _⟩ ?_
  have hn3 : ¬ O3 w3.heap.size := fun e => by have := hL3.lt e; omega
  have hO3' : ∀ k, O3 k → w.heap.size ≤ k := fun k hk => by rcases hO3 k hk with e | e; exact HO.out k e; have := HB2.out.size; omega
  obtain ⟨g3, hg3⟩ : ∃ g, w3.heap.size = g := ⟨_, rfl⟩
  rw [hg3] at hn3 ⊢
  have HN3 := Lib.hid hn3
  have HO3 := Lib.hid hO3'
  clear hL3 hO3 hk3 hb3 hg3 hn3 hO3' HL HO HB2
  rintro w4 ⟨h1, h2, h3⟩
  have HL := Lib.hid h1
  have HX := Lib.hid h2
  have HB := Lib.hid h3
  clear h1 h2 h3
  go_wp2_with fail
  have hsw := a0_swept (b := 0) (c := 0) (d := 9) (by omega) (by omega)
  refine (do_poll 0 0 0 0 HL.out ⟨by omega, by omega⟩ (by show (1 : Nat) ≤ 800; omega)).mono ?_
  rw [hsw, a0_poll.1, a0_poll.2]
  obtain ⟨⟨z0, z1, z2, z3, z4⟩, hz⟩ : ∃ z : Int × Int × Int × Int × Int, pollR (A0 0 0 9) = z := ⟨_, rfl⟩
  rw [hz]
  rintro e w5 ⟨hv, hst⟩
  replace hv : e = .returned (.agg #[.int .u8 7, .int .u64 1, .int .i64 z2, .int .i64 z3, .int .i64 z4]) := hv
  subst hv
  obtain ⟨O5, hL5, hO5, hk5⟩ := hst
  have hb5 : Below w.heap.size w w5 := HB.out.trans (hk5.below (fun k hk => HO3.out k hk) HB.out.size)
  have hx5 := HX.out.kept hk5 HN3.out
  clear hL5 hO5 hk5 HL HX HB hz hsw
  go_upto_region 6 with fail
  refine wp_worldx (fun wx => Blk wx g3 resT #[.int .u8 1, .int .u64 1, .int .i64 0, .int .i64 0, .int .i64 0] ∧ Blk wx w5.heap.size resT #[.int .u8 7, .int .u64 1, .int .i64 z2, .int .i64 z3, .int .i64 z4] ∧ Below w.heap.size w wx) ⟨hx5.alloc_ _, Blk.made _ _ _, hb5.alloc hb5.size _⟩ ?_
  obtain ⟨g5, hg5⟩ : ∃ g, w5.heap.size = g := ⟨_, rfl⟩
  rw [hg5]
  clear hx5 hb5 hg5
  rintro w6 ⟨h1, h2, h3⟩
  have a0 : w6.cell? ⟨g3, 0, none⟩ = some (.int .u8 1) := h1.val (i := 0) rfl
  have a1 : w6.cell? ⟨g3, 1, none⟩ = some (.int .u64 1) := h1.val (i := 1) rfl
  have b0 : w6.cell? ⟨g5, 0, none⟩ = some (.int .u8 7) := h2.val (i := 0) rfl
  have b1 : w6.cell? ⟨g5, 1, none⟩ = some (.int .u64 1) := h2.val (i := 1) rfl
  have HB := Lib.hid h3
  clear h1 h2 h3
  go_wp2
  go_ret
  exact ⟨rfl, HB.out⟩
end Go.Proofs.YtgdblfghbnallaaGreat
/- A struct of sixteen fields that comes in by value. -/
namespace Go.Proofs.YtgdblfghbnallaaGreat
open Go.RowKit Go.ChangeShapes Go.WideShapes Go.Deep
set_option linter.unusedVariables false
section
variable {H : Type} {enc : TypeId × Value → H} {P : Program} {w : World} {base : Nat} {spare : Nat → Bool} {held : Bool}
/-- A struct of sixteen fields of one cell each, by value. -/
theorem open_16 {r : Reach} {b0 : Nat} {t : TypeId} {f0 f1 f2 f3 f4 f5 f6 f7 f8 f9 f10 f11 f12 f13 f14 f15 : Field} {v : Value} {d : DataW H} {p : List MemPlace} (hs : P.underlying t = some (.struct #[f0, f1, f2, f3, f4, f5, f6, f7, f8, f9, f10, f11, f12, f13, f14, f15])) (hone : oneCellFields P #[f0, f1, f2, f3, f4, f5, f6, f7, f8, f9, f10, f11, f12, f13, f14, f15] = true) (hC : P.cellsOf t = 16)
    (hv : Value.okWide P w r b0 t v) (h : DataW.Trod enc P w base spare held t v d p) :
    ∃ (v0 v1 v2 v3 v4 v5 v6 v7 v8 v9 v10 v11 v12 v13 v14 v15 : Value) (y0 y1 y2 y3 y4 y5 y6 y7 y8 y9 y10 y11 y12 y13 y14 y15 : DataW H × List MemPlace) (n : Nat), v = .agg #[v0, v1, v2, v3, v4, v5, v6, v7, v8, v9, v10, v11, v12, v13, v14, v15] ∧
      DataW.trod enc P w base spare held n f0.type [v0] = some y0 ∧ DataW.trod enc P w base spare held n f1.type [v1] = some y1 ∧ DataW.trod enc P w base spare held n f2.type [v2] = some y2 ∧ DataW.trod enc P w base spare held n f3.type [v3] = some y3 ∧ DataW.trod enc P w base spare held n f4.type [v4] = some y4 ∧ DataW.trod enc P w base spare held n f5.type [v5] = some y5 ∧ DataW.trod enc P w base spare held n f6.type [v6] = some y6 ∧ DataW.trod enc P w base spare held n f7.type [v7] = some y7 ∧ DataW.trod enc P w base spare held n f8.type [v8] = some y8 ∧ DataW.trod enc P w base spare held n f9.type [v9] = some y9 ∧ DataW.trod enc P w base spare held n f10.type [v10] = some y10 ∧ DataW.trod enc P w base spare held n f11.type [v11] = some y11 ∧ DataW.trod enc P w base spare held n f12.type [v12] = some y12 ∧ DataW.trod enc P w base spare held n f13.type [v13] = some y13 ∧ DataW.trod enc P w base spare held n f14.type [v14] = some y14 ∧ DataW.trod enc P w base spare held n f15.type [v15] = some y15 := by
  obtain ⟨cs, rfl, hsz⟩ := okWide_struct hs hv
  obtain ⟨l⟩ := cs
  match l, hsz.trans hC with
  | [c0, c1, c2, c3, c4, c5, c6, c7, c8, c9, c10, c11, c12, c13, c14, c15], _ =>
    obtain ⟨fuel, hf⟩ := h
    obtain ⟨xs, n, _, hx, _, hlen, hg⟩ := DataW.trod_struct hs hf
    obtain ⟨o0, k0⟩ := Go.Deep.hone_of hone 0 f0 rfl
    obtain ⟨o1, k1⟩ := Go.Deep.hone_of hone 1 f1 rfl
    obtain ⟨o2, k2⟩ := Go.Deep.hone_of hone 2 f2 rfl
    obtain ⟨o3, k3⟩ := Go.Deep.hone_of hone 3 f3 rfl
    obtain ⟨o4, k4⟩ := Go.Deep.hone_of hone 4 f4 rfl
    obtain ⟨o5, k5⟩ := Go.Deep.hone_of hone 5 f5 rfl
    obtain ⟨o6, k6⟩ := Go.Deep.hone_of hone 6 f6 rfl
    obtain ⟨o7, k7⟩ := Go.Deep.hone_of hone 7 f7 rfl
    obtain ⟨o8, k8⟩ := Go.Deep.hone_of hone 8 f8 rfl
    obtain ⟨o9, k9⟩ := Go.Deep.hone_of hone 9 f9 rfl
    obtain ⟨o10, k10⟩ := Go.Deep.hone_of hone 10 f10 rfl
    obtain ⟨o11, k11⟩ := Go.Deep.hone_of hone 11 f11 rfl
    obtain ⟨o12, k12⟩ := Go.Deep.hone_of hone 12 f12 rfl
    obtain ⟨o13, k13⟩ := Go.Deep.hone_of hone 13 f13 rfl
    obtain ⟨o14, k14⟩ := Go.Deep.hone_of hone 14 f14 rfl
    obtain ⟨o15, k15⟩ := Go.Deep.hone_of hone 15 f15 rfl
    match xs, hlen with
    | [y0, y1, y2, y3, y4, y5, y6, y7, y8, y9, y10, y11, y12, y13, y14, y15], _ =>
      exact ⟨c0, c1, c2, c3, c4, c5, c6, c7, c8, c9, c10, c11, c12, c13, c14, c15, y0, y1, y2, y3, y4, y5, y6, y7, y8, y9, y10, y11, y12, y13, y14, y15, n, rfl, by simpa [Value.cells, o0, k0] using hg 0 f0 rfl, by simpa [Value.cells, o1, k1] using hg 1 f1 rfl, by simpa [Value.cells, o2, k2] using hg 2 f2 rfl, by simpa [Value.cells, o3, k3] using hg 3 f3 rfl, by simpa [Value.cells, o4, k4] using hg 4 f4 rfl, by simpa [Value.cells, o5, k5] using hg 5 f5 rfl, by simpa [Value.cells, o6, k6] using hg 6 f6 rfl, by simpa [Value.cells, o7, k7] using hg 7 f7 rfl, by simpa [Value.cells, o8, k8] using hg 8 f8 rfl, by simpa [Value.cells, o9, k9] using hg 9 f9 rfl, by simpa [Value.cells, o10, k10] using hg 10 f10 rfl, by simpa [Value.cells, o11, k11] using hg 11 f11 rfl, by simpa [Value.cells, o12, k12] using hg 12 f12 rfl, by simpa [Value.cells, o13, k13] using hg 13 f13 rfl, by simpa [Value.cells, o14, k14] using hg 14 f14 rfl, by simpa [Value.cells, o15, k15] using hg 15 f15 rfl⟩
end
end Go.Proofs.YtgdblfghbnallaaGreat
/- A struct of four fields that comes in by value. -/
namespace Go.Proofs.YtgdblfghbnallaaGreat
open Go.RowKit Go.ChangeShapes Go.WideShapes Go.Deep
set_option linter.unusedVariables false
section
variable {H : Type} {enc : TypeId × Value → H} {P : Program} {w : World} {base : Nat} {spare : Nat → Bool} {held : Bool}
/-- A struct of four fields of one cell each, by value. -/
theorem open_four {r : Reach} {b0 : Nat} {t : TypeId} {f0 f1 f2 f3 : Field} {v : Value} {d : DataW H} {p : List MemPlace} (hs : P.underlying t = some (.struct #[f0, f1, f2, f3])) (hone : oneCellFields P #[f0, f1, f2, f3] = true) (hC : P.cellsOf t = 4)
    (hv : Value.okWide P w r b0 t v) (h : DataW.Trod enc P w base spare held t v d p) :
    ∃ (v0 v1 v2 v3 : Value) (y0 y1 y2 y3 : DataW H × List MemPlace) (n : Nat), v = .agg #[v0, v1, v2, v3] ∧
      DataW.trod enc P w base spare held n f0.type [v0] = some y0 ∧ DataW.trod enc P w base spare held n f1.type [v1] = some y1 ∧ DataW.trod enc P w base spare held n f2.type [v2] = some y2 ∧ DataW.trod enc P w base spare held n f3.type [v3] = some y3 := by
  obtain ⟨cs, rfl, hsz⟩ := okWide_struct hs hv
  obtain ⟨l⟩ := cs
  match l, hsz.trans hC with
  | [c0, c1, c2, c3], _ =>
    obtain ⟨fuel, hf⟩ := h
    obtain ⟨xs, n, _, hx, _, hlen, hg⟩ := DataW.trod_struct hs hf
    obtain ⟨o0, k0⟩ := Go.Deep.hone_of hone 0 f0 rfl
    obtain ⟨o1, k1⟩ := Go.Deep.hone_of hone 1 f1 rfl
    obtain ⟨o2, k2⟩ := Go.Deep.hone_of hone 2 f2 rfl
    obtain ⟨o3, k3⟩ := Go.Deep.hone_of hone 3 f3 rfl
    match xs, hlen with
    | [y0, y1, y2, y3], _ =>
      exact ⟨c0, c1, c2, c3, y0, y1, y2, y3, n, rfl, by simpa [Value.cells, o0, k0] using hg 0 f0 rfl, by simpa [Value.cells, o1, k1] using hg 1 f1 rfl, by simpa [Value.cells, o2, k2] using hg 2 f2 rfl, by simpa [Value.cells, o3, k3] using hg 3 f3 rfl⟩
end
end Go.Proofs.YtgdblfghbnallaaGreat
