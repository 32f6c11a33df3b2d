/- A text is parsed: from the label on. -/
import Derived.Test.YtbajmmgdnegoiaaDoorCno
namespace Go.Proofs.YtbajmmgdnegoiaaDoor
open Go.ChangeShapes Go.WideShapes Go.ChangeAt Go.RowKit Kn
set_option linter.unusedVariables false
set_option linter.unusedSimpArgs false
set_option maxRecDepth 20000 in
set_option maxHeartbeats 8000000 in
theorem parse_pass (w : World) (hs : Std w) (R : Int × (Nat → Int)) {c rest : Code} (hc : Tryd.f21.body.bind findScope = some c) (hf : findLabel c 0 = some (Code.skip.seq rest)) (a' : Act) (w' : World) (hJ : ∃ gf gc bx, ParR w R w.heap.size gf gc bx a' w') :
    rest.wp Tryd.prog (Exit.jump 0 (fun a2 w2 => (∃ gf gc bx, ParR w R w.heap.size gf gc bx a2 w2) ∧ lenOf a2 < lenOf a') (bodyPost Tryd.prog Tryd.f21 (fun e w' => e = .returned (.tuple #[(endV R).v, .int .i64 (endE R)]) ∧ Below w.heap.size w w'))) a' w' := by
  have HS := Lib.hid hs
  clear hs
  obtain ⟨gf, gc, bx, s', sn, v, u1, u6, u7, u8, u9, u10, u11, u12, u13, u14, u15, u16, u17, u18, u19, u20, u21, u22, u23, u24, u25, u26, u27, u28, u29, u30, u31, u32, u33, u34, u35, u36, u37, u38, rfl, hsz, hE, hI⟩ := hJ
  obtain rfl := Option.some.inj (hc.symm.trans (rfl : Tryd.f21.body.bind findScope = some _))
  obtain rfl := (Code.seq.inj (Option.some.inj (hf.symm.trans (rfl : findLabel _ 0 = some (Code.skip.seq _))))).2
  clear hc hf
  have HI := Lib.hid hI
  have HE := Lib.hid hE
  clear hI hE
  go_wp2_with fail
  obtain ⟨⟨tx, rs, mo⟩, hc⟩ : ∃ p, cutAt s' 10 = p := ⟨_, rfl⟩
  have k1 := fun wq => scut_any s' 10 (by omega) wq
  simp only [hc] at k1
  have htx : tx.size ≤ 1000000 := by have := (cut_small s' 10).1; rw [hc] at this; have h7 : tx.size ≤ (s').size := this; omega
  have hrs : mo = true → rs.size < (s').size := fun e => by have := cut_less (s := s') (c := 10) (by rw [hc]; exact e); rw [hc] at this; exact this
  have HC := Lib.hid hc
  have HRS := Lib.hid hrs
  have K1 := Lib.hid k1
  clear hc hrs k1
  refine (K1.out _).mono ?_
  rintro e y1 ⟨rfl, hb⟩
  have HI2 := Lib.hid (HI.out.below hb)
  clear hb HI
  go_wp2_with fail
  obtain ⟨⟨E, sn2, v2⟩, ha⟩ : ∃ p, applyE tx (sn) (v) = p := ⟨_, rfl⟩
  have k2 := fun wq h1 h2 => apply_any (gf := gf) (gc := gc) (bx := bx) (sn := sn) (v := v) tx htx wq h1 h2
  simp only [ha] at k2
  refine (k2 _ (HS.out.below HI2.out.b) HI2.out.p).mono ?_
  rintro e y2 ⟨rfl, hp, hk⟩
  have HI3 := Lib.hid (HI2.out.line hp hk)
  have hlin := HE.out
  unfold linesE at hlin
  simp only [HC.out, ha] at hlin
  have HL := Lib.hid hlin
  clear hlin k2 ha hp hk HI2 HE
  by_cases hE : E = 0
  ·
    subst hE
    cases mo with
    | true =>
      have hl2 := HL.out
      simp only [if_true] at hl2
      have HL2 := Lib.hid hl2
      clear hl2
      go_wp2_with fail
      go_step3
      exact ⟨rfl, ⟨gf, gc, bx, rs, sn2, v2, _, _, _, _, _, _, _, _, _, _, _, _, _, _, _, _, _, _, _, _, _, _, _, _, _, _, _, _, _, _, _, _, _, _, rfl, by have := HRS.out (by first | rfl | trivial); omega, (lines_more _ _ _ _ _ (by omega) (by have := HRS.out (by first | rfl | trivial); omega)).trans HL2.out, HI3.out⟩, by have := HRS.out (by first | rfl | trivial); simpa [lenOf] using this⟩
    | false =>
      have hl2 := HL.out
      simp only [Bool.false_eq_true, if_false, if_true] at hl2
      subst hl2
      have d0 := HI3.out.p.val (i := 0) (by omega)
      have d1 := HI3.out.p.val (i := 1) (by omega)
      have d2 := HI3.out.p.val (i := 2) (by omega)
      have d3 := HI3.out.p.val (i := 3) (by omega)
      have d4 := HI3.out.p.val (i := 4) (by omega)
      have d5 := HI3.out.p.val (i := 5) (by omega)
      have d6 := HI3.out.p.val (i := 6) (by omega)
      have d7 := HI3.out.p.val (i := 7) (by omega)
      have d8 := HI3.out.p.val (i := 8) (by omega)
      have d9 := HI3.out.p.val (i := 9) (by omega)
      have d10 := HI3.out.p.val (i := 10) (by omega)
      have d11 := HI3.out.p.val (i := 11) (by omega)
      have d12 := HI3.out.p.val (i := 12) (by omega)
      have d13 := HI3.out.p.val (i := 13) (by omega)
      have d14 := HI3.out.p.val (i := 14) (by omega)
      have d15 := HI3.out.p.val (i := 15) (by omega)
      go_wp2_with fail
      refine (valid_any (cfOf v2) _).mono ?_
      rintro e y3 ⟨rfl, hb3⟩
      have HI4 := Lib.hid (HI3.out.below hb3)
      clear hb3 HI3 d0 d1 d2 d3 d4 d5 d6 d7 d8 d9 d10 d11 d12 d13 d14 d15
      obtain ⟨ve, hve⟩ : ∃ z, validE (cfOf v2) = z := ⟨_, rfl⟩
      rw [hve]
      have HVE := Lib.hid hve
      clear hve
      by_cases hv : ve = 0
      ·
        subst hv
        have d0 := HI4.out.p.val (i := 0) (by omega)
        have d1 := HI4.out.p.val (i := 1) (by omega)
        have d2 := HI4.out.p.val (i := 2) (by omega)
        have d3 := HI4.out.p.val (i := 3) (by omega)
        have d4 := HI4.out.p.val (i := 4) (by omega)
        have d5 := HI4.out.p.val (i := 5) (by omega)
        have d6 := HI4.out.p.val (i := 6) (by omega)
        have d7 := HI4.out.p.val (i := 7) (by omega)
        have d8 := HI4.out.p.val (i := 8) (by omega)
        have d9 := HI4.out.p.val (i := 9) (by omega)
        have d10 := HI4.out.p.val (i := 10) (by omega)
        have d11 := HI4.out.p.val (i := 11) (by omega)
        have d12 := HI4.out.p.val (i := 12) (by omega)
        have d13 := HI4.out.p.val (i := 13) (by omega)
        have d14 := HI4.out.p.val (i := 14) (by omega)
        have d15 := HI4.out.p.val (i := 15) (by omega)
        have zz := HI4.out.r.free
        have yy := HI4.out.r.size
        have r0 : y3.cell? ⟨_, 0, none⟩ = some (.int .i64 0) := HI4.out.r.val (i := 0) rfl
        have r1 : y3.cell? ⟨_, 1, none⟩ = some (.int .i64 0) := HI4.out.r.val (i := 1) rfl
        have r2 : y3.cell? ⟨_, 2, none⟩ = some (.int .i64 0) := HI4.out.r.val (i := 2) rfl
        have r3 : y3.cell? ⟨_, 3, none⟩ = some (.int .i64 0) := HI4.out.r.val (i := 3) rfl
        have r4 : y3.cell? ⟨_, 4, none⟩ = some (.int .i64 0) := HI4.out.r.val (i := 4) rfl
        have r5 : y3.cell? ⟨_, 5, none⟩ = some (.int .i64 0) := HI4.out.r.val (i := 5) rfl
        have r6 : y3.cell? ⟨_, 6, none⟩ = some (.int .i64 0) := HI4.out.r.val (i := 6) rfl
        have r7 : y3.cell? ⟨_, 7, none⟩ = some (.int .i64 0) := HI4.out.r.val (i := 7) rfl
        have r8 : y3.cell? ⟨_, 8, none⟩ = some (.int .i64 0) := HI4.out.r.val (i := 8) rfl
        have r9 : y3.cell? ⟨_, 9, none⟩ = some (.int .i64 0) := HI4.out.r.val (i := 9) rfl
        have r10 : y3.cell? ⟨_, 10, none⟩ = some (.int .i64 0) := HI4.out.r.val (i := 10) rfl
        have r11 : y3.cell? ⟨_, 11, none⟩ = some (.int .i64 0) := HI4.out.r.val (i := 11) rfl
        have r12 : y3.cell? ⟨_, 12, none⟩ = some (.int .i64 0) := HI4.out.r.val (i := 12) rfl
        have r13 : y3.cell? ⟨_, 13, none⟩ = some (.int .i64 0) := HI4.out.r.val (i := 13) rfl
        have r14 : y3.cell? ⟨_, 14, none⟩ = some (.int .i64 0) := HI4.out.r.val (i := 14) rfl
        have r15 : y3.cell? ⟨_, 15, none⟩ = some (.int .i64 0) := HI4.out.r.val (i := 15) rfl
        go_wp2_with fail
        show bodyPost Tryd.prog Tryd.f21 (fun e w' => e = .returned (.tuple #[(endV ((0 : Int), v2)).v, .int .i64 (endE ((0 : Int), v2))]) ∧ Below w.heap.size w w') Exit.ret _ _
        refine bodyPost_ret (v := .tuple #[.agg #[.int .i64 (v2 0), .int .i64 (v2 1), .int .i64 (v2 2), .int .i64 (v2 3), .int .i64 (v2 4), .int .i64 (v2 5), .int .i64 (v2 6), .int .i64 (v2 7), .int .i64 (v2 8), .int .i64 (v2 9), .int .i64 (v2 10), .int .i64 (v2 11), .int .i64 (v2 12), .int .i64 (v2 13), .int .i64 (v2 14), .int .i64 (v2 15)], .int .i64 0]) (res_cells (blk16 HI4.out.r)) rfl ⟨?_, ?_⟩
        · have h1 : endE ((0 : Int), v2) = 0 := by unfold endE; rw [if_pos rfl]; exact HVE.out
          have h2 : endV ((0 : Int), v2) = cfOf v2 := by unfold endV; rw [if_pos h1]
          rw [h1, h2]; rfl
        · exact (by (repeat (refine Below.setCell ?_ HI4.out.lo.1 _)); exact HI4.out.b)
      ·
        have hvb : (ve == 0) = false := by simp [hv]
        have zz := HI4.out.r.free
        have yy := HI4.out.r.size
        have r0 : y3.cell? ⟨_, 0, none⟩ = some (.int .i64 0) := HI4.out.r.val (i := 0) rfl
        have r1 : y3.cell? ⟨_, 1, none⟩ = some (.int .i64 0) := HI4.out.r.val (i := 1) rfl
        have r2 : y3.cell? ⟨_, 2, none⟩ = some (.int .i64 0) := HI4.out.r.val (i := 2) rfl
        have r3 : y3.cell? ⟨_, 3, none⟩ = some (.int .i64 0) := HI4.out.r.val (i := 3) rfl
        have r4 : y3.cell? ⟨_, 4, none⟩ = some (.int .i64 0) := HI4.out.r.val (i := 4) rfl
        have r5 : y3.cell? ⟨_, 5, none⟩ = some (.int .i64 0) := HI4.out.r.val (i := 5) rfl
        have r6 : y3.cell? ⟨_, 6, none⟩ = some (.int .i64 0) := HI4.out.r.val (i := 6) rfl
        have r7 : y3.cell? ⟨_, 7, none⟩ = some (.int .i64 0) := HI4.out.r.val (i := 7) rfl
        have r8 : y3.cell? ⟨_, 8, none⟩ = some (.int .i64 0) := HI4.out.r.val (i := 8) rfl
        have r9 : y3.cell? ⟨_, 9, none⟩ = some (.int .i64 0) := HI4.out.r.val (i := 9) rfl
        have r10 : y3.cell? ⟨_, 10, none⟩ = some (.int .i64 0) := HI4.out.r.val (i := 10) rfl
        have r11 : y3.cell? ⟨_, 11, none⟩ = some (.int .i64 0) := HI4.out.r.val (i := 11) rfl
        have r12 : y3.cell? ⟨_, 12, none⟩ = some (.int .i64 0) := HI4.out.r.val (i := 12) rfl
        have r13 : y3.cell? ⟨_, 13, none⟩ = some (.int .i64 0) := HI4.out.r.val (i := 13) rfl
        have r14 : y3.cell? ⟨_, 14, none⟩ = some (.int .i64 0) := HI4.out.r.val (i := 14) rfl
        have r15 : y3.cell? ⟨_, 15, none⟩ = some (.int .i64 0) := HI4.out.r.val (i := 15) rfl
        go_wp2_with fail
        show bodyPost Tryd.prog Tryd.f21 (fun e w' => e = .returned (.tuple #[(endV ((0 : Int), v2)).v, .int .i64 (endE ((0 : Int), v2))]) ∧ Below w.heap.size w w') Exit.ret _ _
        refine bodyPost_ret (v := .tuple #[.agg #[.int .i64 0, .int .i64 0, .int .i64 0, .int .i64 0, .int .i64 0, .int .i64 0, .int .i64 0, .int .i64 0, .int .i64 0, .int .i64 0, .int .i64 0, .int .i64 0, .int .i64 0, .int .i64 0, .int .i64 0, .int .i64 0], .int .i64 ve]) (res_cells (blk16 HI4.out.r)) rfl ⟨?_, ?_⟩
        · have h1 : endE ((0 : Int), v2) = ve := by unfold endE; rw [if_pos rfl]; exact HVE.out
          have h2 : endV ((0 : Int), v2) = ⟨0, 0, 0, 0, 0, 0, 0, 0, 0, 0, 0, 0, 0, 0, 0, 0⟩ := by unfold endV; rw [h1, if_neg hv]
          rw [h1, h2]
        · exact (by (repeat (refine Below.setCell ?_ HI4.out.lo.1 _)); exact HI4.out.b)
  ·
    have hl2 := HL.out
    rw [if_neg hE] at hl2
    subst hl2
    have hEb : (E == 0) = false := by simp [hE]
    have zz := HI3.out.r.free
    have yy := HI3.out.r.size
    have r0 : y2.cell? ⟨_, 0, none⟩ = some (.int .i64 0) := HI3.out.r.val (i := 0) rfl
    have r1 : y2.cell? ⟨_, 1, none⟩ = some (.int .i64 0) := HI3.out.r.val (i := 1) rfl
    have r2 : y2.cell? ⟨_, 2, none⟩ = some (.int .i64 0) := HI3.out.r.val (i := 2) rfl
    have r3 : y2.cell? ⟨_, 3, none⟩ = some (.int .i64 0) := HI3.out.r.val (i := 3) rfl
    have r4 : y2.cell? ⟨_, 4, none⟩ = some (.int .i64 0) := HI3.out.r.val (i := 4) rfl
    have r5 : y2.cell? ⟨_, 5, none⟩ = some (.int .i64 0) := HI3.out.r.val (i := 5) rfl
    have r6 : y2.cell? ⟨_, 6, none⟩ = some (.int .i64 0) := HI3.out.r.val (i := 6) rfl
    have r7 : y2.cell? ⟨_, 7, none⟩ = some (.int .i64 0) := HI3.out.r.val (i := 7) rfl
    have r8 : y2.cell? ⟨_, 8, none⟩ = some (.int .i64 0) := HI3.out.r.val (i := 8) rfl
    have r9 : y2.cell? ⟨_, 9, none⟩ = some (.int .i64 0) := HI3.out.r.val (i := 9) rfl
    have r10 : y2.cell? ⟨_, 10, none⟩ = some (.int .i64 0) := HI3.out.r.val (i := 10) rfl
    have r11 : y2.cell? ⟨_, 11, none⟩ = some (.int .i64 0) := HI3.out.r.val (i := 11) rfl
    have r12 : y2.cell? ⟨_, 12, none⟩ = some (.int .i64 0) := HI3.out.r.val (i := 12) rfl
    have r13 : y2.cell? ⟨_, 13, none⟩ = some (.int .i64 0) := HI3.out.r.val (i := 13) rfl
    have r14 : y2.cell? ⟨_, 14, none⟩ = some (.int .i64 0) := HI3.out.r.val (i := 14) rfl
    have r15 : y2.cell? ⟨_, 15, none⟩ = some (.int .i64 0) := HI3.out.r.val (i := 15) rfl
    go_wp2_with fail
    show bodyPost Tryd.prog Tryd.f21 (fun e w' => e = .returned (.tuple #[(endV (E, v)).v, .int .i64 (endE (E, v))]) ∧ Below w.heap.size w w') Exit.ret _ _
    refine bodyPost_ret (v := .tuple #[.agg #[.int .i64 0, .int .i64 0, .int .i64 0, .int .i64 0, .int .i64 0, .int .i64 0, .int .i64 0, .int .i64 0, .int .i64 0, .int .i64 0, .int .i64 0, .int .i64 0, .int .i64 0, .int .i64 0, .int .i64 0, .int .i64 0], .int .i64 E]) (res_cells (blk16 HI3.out.r)) rfl ⟨?_, ?_⟩
    · have h1 : endE (E, v) = E := by unfold endE; rw [if_neg hE]
      have h2 : endV (E, v) = ⟨0, 0, 0, 0, 0, 0, 0, 0, 0, 0, 0, 0, 0, 0, 0, 0⟩ := by unfold endV; rw [h1, if_neg hE]
      rw [h1, h2]
    · exact (by (repeat (refine Below.setCell ?_ HI3.out.lo.1 _)); exact HI3.out.b)
end Go.Proofs.YtbajmmgdnegoiaaDoor
