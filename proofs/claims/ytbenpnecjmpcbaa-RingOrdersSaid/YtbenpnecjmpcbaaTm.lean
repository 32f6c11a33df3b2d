/- A thread's step on both sides, and the eight comparisons behind it. -/
import Derived.Test.YtbenpnecjmpcbaaRnx
import Derived.Test.YtbenpnecjmpcbaaUnk
import Derived.Test.YtbenpnecjmpcbaaFnr
import Derived.Deep.DeepCutAuto
namespace Go.Proofs.Ytbenpnecjmpcbaa
open Go.RowKit
set_option linter.unusedVariables false
set_option linter.unusedSimpArgs false
/-- What a step of thread i may write. -/
def Sown (a r s y q b d : Nat) : Nat → Prop := fun k => Mine a r s k ∨ Our y q b d k
theorem dnx_end {K : Int} {cn : Int} {cp cl : Nat} {cu cq : Int} {cr cst : Bool} (hk : AcK K ⟨cn, cp, cl, cu, cq, cr, cst⟩) : (dnx cn == 0) = endE cn := by
  have h : cn = 0 ∨ cn = 1 ∨ cn = 2 ∨ cn = 3 ∨ cn = 4 ∨ cn = 6 ∨ cn = 7 ∨ cn = 8 ∨ cn = 9 ∨ cn = 10 := by
    rcases hk with ⟨-, -, h⟩ | ⟨-, -, h⟩
    · have h' : cn = 0 ∨ cn = 1 ∨ cn = 2 ∨ cn = 3 ∨ cn = 4 ∨ cn = 6 := h
      omega
    · have h' : cn = 0 ∨ cn = 1 ∨ cn = 7 ∨ cn = 8 ∨ cn = 9 ∨ cn = 10 := h
      omega
  rcases h with rfl | rfl | rfl | rfl | rfl | rfl | rfl | rfl | rfl | rfl <;> decide
/-- The two rings lie apart. -/
theorem XAt.sep {w : World} {q b d n cb cd r s : Nat} {g g2 : Rg} (hx : XAt w q b d n cb cd g) (hr : RingAt w r s n g2) : (q ≠ r ∧ q ≠ s) ∧ (b ≠ r ∧ b ≠ s) ∧ (d ≠ r ∧ d ≠ s) := by
  obtain ⟨-, -, -, -, -, hd, ⟨_, bc, -, -⟩, ⟨_, dc, -, -⟩⟩ := hx
  exact ⟨hr.apart hd (by decide) (by decide), hr.apart bc (by decide) (by decide), hr.apart dc (by decide) (by decide)⟩
section
variable {r s n q b d cb cd : Nat} {g : Rg}
set_option maxRecDepth 100000 in
set_option maxHeartbeats 80000000 in
theorem tstep {t a y j : Nat} {K : Int} {c : Ac} (w : World) (hj : j < 6) {cs : Array Value} (hT : Blk w t 44 cs) (t0 : cs[0]? = some (.pointer (some ⟨r, 0, none⟩))) (t1 : cs[1]? = some (.pointer (some ⟨q, 0, none⟩)))
    (ta : cs[2 + j]? = some (.pointer (some ⟨a, 0, none⟩))) (tb : cs[8 + j]? = some (.pointer (some ⟨y, 0, none⟩)))
    (hr : RingAt w r s n g) (hx : XAt w q b d n cb cd g) (ha : ActAt w a r c) (hy : YOf w y K c) (hk : AcK K c) (h2 : 2 ≤ c.nx ∧ c.nx ≤ 10) (hp : c.po ≤ 900000) (hl : c.pl ≤ 900000) (hg : g.T ≤ 900000) (hS : ∀ i, g.S i ≤ 1000000) :
    Calls Try.prog 19 #[.pointer (some ⟨t, 0, none⟩), .int .i64 (j : Int)] w fun e w' => e = .returned (.bool true) ∧ RingAt w' r s n (rgS n g c) ∧ XAt w' q b d n cb cd (rgS n g c) ∧ ActAt w' a r (acS n g c) ∧ YOf w' y K (acS n g c) ∧ Kept (Sown a r s y q b d) w w' := by
  have hi0 : (0 : Int) ≤ (j : Int) := by omega
  have hi6 : (j : Int) < 6 := by omega
  have f0 := hT.val t0
  have f1 := hT.val t1
  have fa := hT.val ta
  have fb := hT.val tb
  have HR := Lib.hid (rstep_any w hr ha ⟨by omega, h2.2⟩ hp hl hg hS)
  go_enter Try.func19, Try.ntmps19
  go_wp2_with fail
  refine HR.out.mono ?_
  rintro e w1 ⟨rfl, hr1, ha1, hk1⟩
  have px := hx.sep hr
  have at1 := hT.other ha (by decide)
  have at2 := (hr.apart hT (by decide) (by decide))
  have ya := Blk.other hy ha (by decide)
  have yr := hr.apart hy (by decide) (by decide)
  have aq := hx.apart ha (by decide) (by decide)
  have tq := hx.apart hT (by decide) (by decide)
  have ty := hT.other hy (by decide)
  have hT1 := hT.kept hk1 (fun h => h.elim at1 fun h => h.elim at2.1 at2.2)
  have hx1 := hx.kept hk1 (fun h => h.elim (fun e => aq.1 e.symm) fun h => h.elim px.1.1 px.1.2) (fun h => h.elim (fun e => aq.2.1 e.symm) fun h => h.elim px.2.1.1 px.2.1.2) (fun h => h.elim (fun e => aq.2.2 e.symm) fun h => h.elim px.2.2.1 px.2.2.2)
  have hy1 : YOf w1 y K c := YAt.kept hy hk1 (fun h => h.elim ya fun h => h.elim yr.1 yr.2)
  have HY := Lib.hid (ystep_any w1.drew hx1.drew_ hy1 hk h2.1 hp hl hS)
  have k0 := hT1.val t0
  have k1 := hT1.val t1
  have ka := hT1.val ta
  have kb := hT1.val tb
  clear f0 f1 fa fb HR hx1 hy1
  go_upto_region 2 with fail
  obtain ⟨wp, hwp⟩ : ∃ x, w1.drew = x := ⟨_, rfl⟩
  have k0' : wp.cell? ⟨t, 0, none⟩ = some (.pointer (some ⟨r, 0, none⟩)) := by rw [← hwp]; exact k0
  have k1' : wp.cell? ⟨t, 1, none⟩ = some (.pointer (some ⟨q, 0, none⟩)) := by rw [← hwp]; exact k1
  have kb' : wp.cell? ⟨t, 8 + j, none⟩ = some (.pointer (some ⟨y, 0, none⟩)) := by rw [← hwp]; exact kb
  have HP1 := Lib.hid hwp
  clear hwp k0 k1 ka kb
  refine wp_region_noPanic ?_
  refine wp_region_U (fun w' => w' = wp) [] [10] (by kernel_rfl) (HP1.out) ?_
  intro hsh0
  skip
  refine anyU_take 20 (i := 0) (v := ?_) rfl (by kernel_rfl) (by kernel_rfl) (by kernel_rfl) (by kernel_rfl) (fun _ _ _ h => h) (by assumption) (YieldsS.of_if (Or.inl ⟨by rfl, ?_⟩)) ?_
  rotate_left
  · (intro wS hSw; (try dsimp only at hSw); subst hSw; (first | (go_simp; done) | (go_simp; with_reducible rfl)))
  intro hsh1
  clear hsh0
  try simp only [Act.put, List.getElem_toArray, List.getElem_cons_zero, List.getElem_cons_succ, List.setIfInBounds_toArray, List.set_cons_zero, List.set_cons_succ]
  refine anyU_take 20 (i := 1) (v := ?_) rfl (by kernel_rfl) (by kernel_rfl) (by kernel_rfl) (by kernel_rfl) (fun _ _ _ h => h) (by assumption) (YieldsS.of_if (Or.inl ⟨by rfl, ?_⟩)) ?_
  rotate_left
  · (intro wS hSw; (try dsimp only at hSw); subst hSw; (first | (go_simp; done) | (go_simp; with_reducible rfl)))
  intro hsh2
  clear hsh1
  try simp only [Act.put, List.getElem_toArray, List.getElem_cons_zero, List.getElem_cons_succ, List.setIfInBounds_toArray, List.set_cons_zero, List.set_cons_succ]
  refine anyU_take 20 (i := 2) (v := ?_) rfl (by kernel_rfl) (by kernel_rfl) (by kernel_rfl) (by kernel_rfl) (fun _ _ _ h => h) (by assumption) (YieldsS.of_if (Or.inl ⟨by rfl, ?_⟩)) ?_
  rotate_left
  · (intro wS hSw; (try dsimp only at hSw); subst hSw; (first | (go_simp; done) | (go_simp; with_reducible rfl)))
  intro hsh3
  clear hsh2
  try simp only [Act.put, List.getElem_toArray, List.getElem_cons_zero, List.getElem_cons_succ, List.setIfInBounds_toArray, List.set_cons_zero, List.set_cons_succ]
  refine anyU_take 20 (i := 3) (v := ?_) rfl (by kernel_rfl) (by kernel_rfl) (by kernel_rfl) (by kernel_rfl) (fun _ _ _ h => h) (by assumption) (YieldsS.of_if (Or.inl ⟨by rfl, ?_⟩)) ?_
  rotate_left
  · (intro wS hSw; (try dsimp only at hSw); subst hSw; (first | (go_simp; done) | (go_simp; with_reducible rfl)))
  intro hsh4
  clear hsh3
  try simp only [Act.put, List.getElem_toArray, List.getElem_cons_zero, List.getElem_cons_succ, List.setIfInBounds_toArray, List.set_cons_zero, List.set_cons_succ]
  refine anyU_take 20 (i := 4) (v := ?_) rfl (by kernel_rfl) (by kernel_rfl) (by kernel_rfl) (by kernel_rfl) (fun _ _ _ h => h) (by assumption) (YieldsS.of_if (Or.inl ⟨by rfl, ?_⟩)) ?_
  rotate_left
  · (intro wS hSw; (try dsimp only at hSw); subst hSw; (first | (go_simp; done) | (go_simp; with_reducible rfl)))
  intro hsh5
  clear hsh4
  try simp only [Act.put, List.getElem_toArray, List.getElem_cons_zero, List.getElem_cons_succ, List.setIfInBounds_toArray, List.set_cons_zero, List.set_cons_succ]
  refine anyU_take 20 (i := 5) (v := ?_) rfl (by kernel_rfl) (by kernel_rfl) (by kernel_rfl) (by kernel_rfl) (fun _ _ _ h => h) (by assumption) (YieldsS.of_if (Or.inl ⟨by rfl, ?_⟩)) ?_
  rotate_left
  · (intro wS hSw; (try dsimp only at hSw); subst hSw; (first | (go_simp; done) | (go_simp; with_reducible rfl)))
  intro hsh6
  clear hsh5
  try simp only [Act.put, List.getElem_toArray, List.getElem_cons_zero, List.getElem_cons_succ, List.setIfInBounds_toArray, List.set_cons_zero, List.set_cons_succ]
  refine anyU_take 20 (i := 6) (v := ?_) rfl (by kernel_rfl) (by kernel_rfl) (by kernel_rfl) (by kernel_rfl) (fun _ _ _ h => h) (by assumption) (YieldsS.of_if (Or.inl ⟨by rfl, ?_⟩)) ?_
  rotate_left
  · (intro wS hSw; (try dsimp only at hSw); subst hSw; (first | (go_simp; done) | (go_simp; with_reducible rfl)))
  intro hsh7
  clear hsh6
  try simp only [Act.put, List.getElem_toArray, List.getElem_cons_zero, List.getElem_cons_succ, List.setIfInBounds_toArray, List.set_cons_zero, List.set_cons_succ]
  refine anyU_take 20 (i := 7) (v := ?_) rfl (by kernel_rfl) (by kernel_rfl) (by kernel_rfl) (by kernel_rfl) (fun _ _ _ h => h) (by assumption) (YieldsS.of_if (Or.inl ⟨by rfl, ?_⟩)) ?_
  rotate_left
  · (intro wS hSw; (try dsimp only at hSw); subst hSw; (first | (go_simp; done) | (go_simp; with_reducible rfl)))
  intro hsh8
  clear hsh7
  try simp only [Act.put, List.getElem_toArray, List.getElem_cons_zero, List.getElem_cons_succ, List.setIfInBounds_toArray, List.set_cons_zero, List.set_cons_succ]
  refine anyU_take 20 (i := 8) (v := ?_) rfl (by kernel_rfl) (by kernel_rfl) (by kernel_rfl) (by kernel_rfl) (fun _ _ _ h => h) (by assumption) (YieldsS.of_if (Or.inl ⟨by rfl, ?_⟩)) ?_
  rotate_left
  · (intro wS hSw; (try dsimp only at hSw); subst hSw; (first | (go_simp; done) | (go_simp; with_reducible rfl)))
  intro hsh9
  clear hsh8
  try simp only [Act.put, List.getElem_toArray, List.getElem_cons_zero, List.getElem_cons_succ, List.setIfInBounds_toArray, List.set_cons_zero, List.set_cons_succ]
  refine anyU_take 20 (i := 9) (v := ?_) rfl (by kernel_rfl) (by kernel_rfl) (by kernel_rfl) (by kernel_rfl) (fun _ _ _ h => h) (by assumption) (YieldsS.of_if (Or.inl ⟨by rfl, ?_⟩)) ?_
  rotate_left
  · (intro wS hSw; (try dsimp only at hSw); subst hSw; (first | (go_simp; done) | (go_simp; with_reducible rfl)))
  intro hsh10
  clear hsh9
  try simp only [Act.put, List.getElem_toArray, List.getElem_cons_zero, List.getElem_cons_succ, List.setIfInBounds_toArray, List.set_cons_zero, List.set_cons_succ]
  refine anyU_last (i := 10) (by kernel_rfl) (by kernel_rfl) (fun wS hSw _ => ?_)
  refine last_op rfl (by rfl) (by kernel_rfl) ?_
  unfold Oper.wp
  go_simp
  clear hSw
  have hwp := HP1.out
  clear k0' k1' kb' HP1
  subst hwp
  refine HY.out.mono ?_
  rintro e w2 ⟨⟨ue, rfl⟩, hx2, hy2, hk2⟩
  go_simp
  refine NoPanic.normal ?_
  have hT2 := hT1.drew_.kept hk2 (fun h => h.elim ty fun h => h.elim tq.1 fun h => h.elim tq.2.1 tq.2.2)
  have hr2 := hr1.drew_.kept hk2 (fun h => h.elim (fun e => yr.1 e.symm) fun h => h.elim (fun e => px.1.1 e.symm) fun h => h.elim (fun e => px.2.1.1 e.symm) (fun e => px.2.2.1 e.symm)) (fun h => h.elim (fun e => yr.2 e.symm) fun h => h.elim (fun e => px.1.2 e.symm) fun h => h.elim (fun e => px.2.1.2 e.symm) (fun e => px.2.2.2 e.symm))
  have ha2 : ActAt w2 a r (acS n g c) := Blk.kept (Blk.drew_ ha1) hk2 (fun h => h.elim (fun e => ya e.symm) fun h => h.elim aq.1 fun h => h.elim aq.2.1 aq.2.2)
  have hks : AcK K (acS n g c) := acS_K hk
  have HKP := Lib.hid (show Kept (Sown a r s y q b d) w w2 from (hk1.more (fun k _ h => Or.inl h)).trans (Kept.trans ((Kept.refl _ _).drew_) (hk2.more (fun k _ h => Or.inr h))))
  clear HY hk1 hk2 hr1 ha1 hT1
  obtain ⟨c', hc'⟩ : ∃ x, acS n g c = x := ⟨_, rfl⟩
  obtain ⟨g', hg'⟩ : ∃ x, rgS n g c = x := ⟨_, rfl⟩
  rw [hc']
  rw [hc'] at hy2 ha2 hks
  rw [hg'] at hx2 hr2
  have HCc := Lib.hid hc'
  have HGg := Lib.hid hg'
  have QT := Lib.hid hT2
  have QR := Lib.hid hr2
  have QX := Lib.hid hx2
  have QA := Lib.hid ha2
  have QY := Lib.hid hy2
  have QK := Lib.hid hks
  clear hT2 hr2 hx2 ha2 hy2 hks hc' hg' hT hr hx ha hy hk px at1 at2 ya yr aq tq ty h2 hp hl hg hS
  go_upto_region 3 with fail
  obtain ⟨w3, hw3⟩ : ∃ x, w2.drew = x := ⟨_, rfl⟩
  have HW := Lib.hid hw3
  obtain ⟨cn, cp, cl, cu, cq, cr, cst⟩ := c'
  obtain ⟨E, hE⟩ : ∃ E, endE cn = E := ⟨_, rfl⟩
  obtain ⟨W, hWv⟩ : ∃ W, (cn == 1) = W := ⟨_, rfl⟩
  obtain ⟨D, hD⟩ : ∃ D, dnx cn = D := ⟨_, rfl⟩
  have hDE : (D == 0) = E := by rw [← hD, ← hE]; exact dnx_end QK.out
  have y1 : w3.cell? ⟨y, 1, none⟩ = some (.int .i64 D) := by rw [← hw3, ← hD]; exact QY.out.nx1
  have y3 : w3.cell? ⟨y, 3, none⟩ = some (.int .u64 (cl : Int)) := by rw [← hw3]; exact QY.out.pl3
  have y5 : w3.cell? ⟨y, 5, none⟩ = some (.bool W) := by rw [← hw3, ← hWv]; exact QY.out.wl5
  have z0 : w3.cell? ⟨t, 0, none⟩ = some (.pointer (some ⟨r, 0, none⟩)) := by rw [← hw3]; exact QT.out.val t0
  have z1 : w3.cell? ⟨t, 1, none⟩ = some (.pointer (some ⟨q, 0, none⟩)) := by rw [← hw3]; exact QT.out.val t1
  have za : w3.cell? ⟨t, 2 + j, none⟩ = some (.pointer (some ⟨a, 0, none⟩)) := by rw [← hw3]; exact QT.out.val ta
  have zb : w3.cell? ⟨t, 8 + j, none⟩ = some (.pointer (some ⟨y, 0, none⟩)) := by rw [← hw3]; exact QT.out.val tb
  have x0 : w3.cell? ⟨q, 0, none⟩ = some (.int .u64 (g'.T : Int)) := by rw [← hw3]; exact QX.out.t0
  have x1 : w3.cell? ⟨q, 1, none⟩ = some (.int .u64 (g'.H : Int)) := by rw [← hw3]; exact QX.out.h0
  have C1 := Lib.hid (rended w3 (by rw [← hw3]; exact QA.out))
  have C2 := Lib.hid (rok w3 (by rw [← hw3]; exact QA.out))
  have C3 := Lib.hid (rvalue w3 (by rw [← hw3]; exact QA.out))
  have C4 := Lib.hid (yvalue_any (y := y) (K := K) (c := ⟨cn, cp, cl, cu, cq, cr, cst⟩) w3 (by rw [← hw3]; exact QY.out) QK.out)
  have C5 := Lib.hid (rplace w3 (by rw [← hw3]; exact QA.out))
  have C6 := Lib.hid (rtail w3 (by rw [← hw3]; exact QR.out.drew_))
  have C7 := Lib.hid (rhead w3 (by rw [← hw3]; exact QR.out.drew_))
  rw [hE] at C1
  simp only [hE]
  rw [hWv] at C2
  have HEE := Lib.hid hE
  clear hw3 hE hWv hD t0 t1 ta tb
  refine wp_region_noPanic ?_
  refine wp_region_all [none, none, none, none, some (.bool true), none, none, none, none, none, none, none, none, none, none, none, none, none, none, none, none, none, none, none, some (.bool E), some (.pointer (some ⟨t, 0, none⟩)), some (.int .i64 (j : Int)), some (.pointer (some ⟨t, 0, none⟩)), some (.pointer (some ⟨t, 8, none⟩)), some (.pointer (some ⟨t, 8 + j, none⟩)), some (.pointer (some ⟨y, 0, none⟩)), some (.pointer (some ⟨y, 0, none⟩)), some (.pointer (some ⟨y, 1, none⟩)), some (.int .i64 D), some (.bool E), some (.bool true), some (.bool true), some (.pointer (some ⟨t, 0, none⟩)), some (.int .i64 (j : Int)), some (.pointer (some ⟨t, 0, none⟩)), some (.pointer (some ⟨t, 2, none⟩)), some (.pointer (some ⟨t, 2 + j, none⟩)), some (.pointer (some ⟨a, 0, none⟩)), some (.bool E), some (.bool E), some (.bool true), some (.bool true), some (.bool true), some (.pointer (some ⟨t, 0, none⟩)), some (.int .i64 (j : Int)), some (.pointer (some ⟨t, 0, none⟩)), some (.pointer (some ⟨t, 2, none⟩)), some (.pointer (some ⟨t, 2 + j, none⟩)), some (.pointer (some ⟨a, 0, none⟩)), some (.bool W), some (.pointer (some ⟨t, 0, none⟩)), some (.int .i64 (j : Int)), some (.pointer (some ⟨t, 0, none⟩)), some (.pointer (some ⟨t, 8, none⟩)), some (.pointer (some ⟨t, 8 + j, none⟩)), some (.pointer (some ⟨y, 0, none⟩)), some (.pointer (some ⟨y, 0, none⟩)), some (.pointer (some ⟨y, 5, none⟩)), some (.bool W), some (.bool true), some (.bool true), some (.bool true), some (.pointer (some ⟨t, 0, none⟩)), some (.int .i64 (j : Int)), some (.pointer (some ⟨t, 0, none⟩)), some (.pointer (some ⟨t, 2, none⟩)), some (.pointer (some ⟨t, 2 + j, none⟩)), some (.pointer (some ⟨a, 0, none⟩)), some (.int .u64 cq), some (.pointer (some ⟨t, 0, none⟩)), some (.int .i64 (j : Int)), some (.pointer (some ⟨t, 0, none⟩)), some (.pointer (some ⟨t, 8, none⟩)), some (.pointer (some ⟨t, 8 + j, none⟩)), some (.pointer (some ⟨y, 0, none⟩)), some (.int .u64 cq), some (.bool true), some (.bool true), some (.bool true), some (.pointer (some ⟨t, 0, none⟩)), some (.int .i64 (j : Int)), some (.pointer (some ⟨t, 0, none⟩)), some (.pointer (some ⟨t, 2, none⟩)), some (.pointer (some ⟨t, 2 + j, none⟩)), some (.pointer (some ⟨a, 0, none⟩)), some (.int .u64 (cl : Int)), some (.pointer (some ⟨t, 0, none⟩)), some (.int .i64 (j : Int)), some (.pointer (some ⟨t, 0, none⟩)), some (.pointer (some ⟨t, 8, none⟩)), some (.pointer (some ⟨t, 8 + j, none⟩)), some (.pointer (some ⟨y, 0, none⟩)), some (.pointer (some ⟨y, 0, none⟩)), some (.pointer (some ⟨y, 3, none⟩)), some (.int .u64 (cl : Int)), some (.bool true), some (.bool true), some (.bool true), some (.pointer (some ⟨t, 0, none⟩)), some (.pointer (some ⟨t, 0, none⟩)), some (.pointer (some ⟨t, 0, none⟩)), some (.pointer (some ⟨r, 0, none⟩)), some (.int .u64 (g'.T : Int)), some (.pointer (some ⟨t, 0, none⟩)), some (.pointer (some ⟨t, 0, none⟩)), some (.pointer (some ⟨t, 1, none⟩)), some (.pointer (some ⟨q, 0, none⟩)), some (.pointer (some ⟨q, 0, none⟩)), some (.pointer (some ⟨q, 0, none⟩)), some (.int .u64 (g'.T : Int)), some (.bool true), some (.bool true), some (.bool true), some (.pointer (some ⟨t, 0, none⟩)), some (.pointer (some ⟨t, 0, none⟩)), some (.pointer (some ⟨t, 0, none⟩)), some (.pointer (some ⟨r, 0, none⟩)), some (.int .u64 (g'.H : Int)), some (.pointer (some ⟨t, 0, none⟩)), some (.pointer (some ⟨t, 0, none⟩)), some (.pointer (some ⟨t, 1, none⟩)), some (.pointer (some ⟨q, 0, none⟩)), some (.pointer (some ⟨q, 0, none⟩)), some (.pointer (some ⟨q, 1, none⟩)), some (.int .u64 (g'.H : Int)), some (.bool true), some (.bool true)] (fun w' => w' = w3) (by kernel_rfl) (by kernel_rfl) (by kernel_rfl) (by kernel_rfl) HW.out ?F ?hF ?_
  case hF => dsimp only [overL]; exact rfl
  refine ⟨?_, ?_⟩
  · refine ⟨?_, ?_⟩
    · exact YieldsS.of_if (Or.inl ⟨by kernel_rfl, fun wS hSw => by subst hSw; (first | (go_simp; done) | (go_simp; with_reducible rfl))⟩)
    refine ⟨?_, ?_⟩
    · exact YieldsS.of_if (Or.inl ⟨by kernel_rfl, fun wS hSw => by subst hSw; (first | (go_simp; done) | (go_simp; with_reducible rfl))⟩)
    refine ⟨?_, ?_⟩
    · exact YieldsS.of_if (Or.inl ⟨by kernel_rfl, fun wS hSw => by subst hSw; (first | (go_simp; done) | (go_simp; with_reducible rfl))⟩)
    refine ⟨?_, ?_⟩
    · exact YieldsS.of_if (Or.inl ⟨by kernel_rfl, fun wS hSw => by subst hSw; (first | (go_simp; done) | (go_simp; with_reducible rfl))⟩)
    refine ⟨?_, ?_⟩
    · exact YieldsS.of_if (Or.inl ⟨by kernel_rfl, fun wS hSw => by subst hSw; (first | (go_simp; done) | (go_simp; with_reducible rfl))⟩)
    refine ⟨?_, ?_⟩
    · exact YieldsS.of_if (Or.inl ⟨by kernel_rfl, fun wS hSw => by subst hSw; (first | (go_simp; done) | (go_simp; with_reducible rfl))⟩)
    refine ⟨?_, ?_⟩
    · exact YieldsS.of_if (Or.inl ⟨by kernel_rfl, fun wS hSw => by subst hSw; (first | (go_simp; done) | (go_simp; with_reducible rfl))⟩)
    refine ⟨?_, ?_⟩
    · exact YieldsS.of_if (Or.inl ⟨by kernel_rfl, fun wS hSw => by subst hSw; (first | (go_simp; done) | (go_simp; with_reducible rfl))⟩)
    refine ⟨?_, ?_⟩
    · exact YieldsS.of_if (Or.inl ⟨by kernel_rfl, fun wS hSw => by subst hSw; (first | (go_simp; done) | (go_simp; with_reducible rfl))⟩)
    refine ⟨?_, ?_⟩
    · exact YieldsS.of_if (Or.inl ⟨by kernel_rfl, fun wS hSw => by subst hSw; (first | (go_simp; done) | (go_simp; with_reducible rfl))⟩)
    refine ⟨?_, ?_⟩
    · exact YieldsS.of_if (Or.inl ⟨by kernel_rfl, fun wS hSw => by subst hSw; (first | (go_simp; done) | (go_simp; with_reducible rfl) | (go_simp; simp [hDE]))⟩)
    refine ⟨?_, ?_⟩
    · exact YieldsS.of_if (Or.inl ⟨by kernel_rfl, fun wS hSw => by subst hSw; (first | (go_simp; done) | (go_simp; with_reducible rfl))⟩)
    refine ⟨?_, ?_⟩
    · exact YieldsS.of_if (Or.inl ⟨by kernel_rfl, fun wS hSw => by subst hSw; (first | (go_simp; done) | (go_simp; with_reducible rfl))⟩)
    refine ⟨?_, ?_⟩
    · exact YieldsS.of_if (Or.inl ⟨by kernel_rfl, fun wS hSw => by subst hSw; (first | (go_simp; done) | (go_simp; with_reducible rfl))⟩)
    refine ⟨?_, ?_⟩
    · exact YieldsS.of_if (Or.inl ⟨by kernel_rfl, fun wS hSw => by subst hSw; (first | (go_simp; done) | (go_simp; with_reducible rfl))⟩)
    refine ⟨?_, ?_⟩
    · exact YieldsS.of_if (Or.inl ⟨by kernel_rfl, fun wS hSw => by subst hSw; (first | (go_simp; done) | (go_simp; with_reducible rfl))⟩)
    refine ⟨?_, ?_⟩
    · exact YieldsS.of_if (Or.inl ⟨by kernel_rfl, fun wS hSw => by subst hSw; (first | (go_simp; done) | (go_simp; with_reducible rfl))⟩)
    refine ⟨?_, ?_⟩
    · exact YieldsS.of_if (Or.inl ⟨by kernel_rfl, fun wS hSw => by subst hSw; (first | (go_simp; done) | (go_simp; with_reducible rfl))⟩)
    refine ⟨?_, ?_⟩
    · exact YieldsS.of_if (Or.inl ⟨by kernel_rfl, fun wS hSw => by subst hSw; (first | (go_simp; done) | (go_simp; with_reducible rfl))⟩)
    refine ⟨?_, ?_⟩
    · refine YieldsS.of_call (by kernel_rfl) (f := 20) (args := #[(.pointer (some ⟨a, 0, none⟩))]) (fun wS hSw => by first | rfl | (go_simp; done)) (fun wS hSw => ?_)
      subst hSw
      refine C1.out.mono ?_
      rintro e wn ⟨rfl, rfl⟩
      exact ⟨rfl, rfl, Below.refl _ _⟩
    refine ⟨?_, ?_⟩
    · exact YieldsS.of_if (Or.inl ⟨by kernel_rfl, fun wS hSw => by subst hSw; (first | (go_simp; done) | (go_simp; with_reducible rfl))⟩)
    refine ⟨?_, ?_⟩
    · exact YieldsS.of_if (Or.inl ⟨by kernel_rfl, fun wS hSw => by subst hSw; (first | (go_simp; done) | (go_simp; with_reducible rfl))⟩)
    refine ⟨?_, ?_⟩
    · exact YieldsS.of_if (Or.inl ⟨by kernel_rfl, fun wS hSw => by subst hSw; (first | (go_simp; done) | (go_simp; with_reducible rfl))⟩)
    refine ⟨?_, ?_⟩
    · exact YieldsS.of_if (Or.inl ⟨by kernel_rfl, fun wS hSw => by subst hSw; (first | (go_simp; done) | (go_simp; with_reducible rfl))⟩)
    refine ⟨?_, ?_⟩
    · exact YieldsS.of_if (Or.inl ⟨by kernel_rfl, fun wS hSw => by subst hSw; (first | (go_simp; done) | (go_simp; with_reducible rfl))⟩)
    refine ⟨?_, ?_⟩
    · exact YieldsS.of_if (Or.inl ⟨by kernel_rfl, fun wS hSw => by subst hSw; (first | (go_simp; done) | (go_simp; with_reducible rfl))⟩)
    refine ⟨?_, ?_⟩
    · exact YieldsS.of_if (Or.inl ⟨by kernel_rfl, fun wS hSw => by subst hSw; (first | (go_simp; done) | (go_simp; with_reducible rfl))⟩)
    refine ⟨?_, ?_⟩
    · exact YieldsS.of_if (Or.inl ⟨by kernel_rfl, fun wS hSw => by subst hSw; (first | (go_simp; done) | (go_simp; with_reducible rfl))⟩)
    refine ⟨?_, ?_⟩
    · exact YieldsS.of_if (Or.inl ⟨by kernel_rfl, fun wS hSw => by subst hSw; (first | (go_simp; done) | (go_simp; with_reducible rfl))⟩)
    refine ⟨?_, ?_⟩
    · exact YieldsS.of_if (Or.inl ⟨by kernel_rfl, fun wS hSw => by subst hSw; (first | (go_simp; done) | (go_simp; with_reducible rfl))⟩)
    refine ⟨?_, ?_⟩
    · refine YieldsS.of_call (by kernel_rfl) (f := 21) (args := #[(.pointer (some ⟨a, 0, none⟩))]) (fun wS hSw => by first | rfl | (go_simp; done)) (fun wS hSw => ?_)
      subst hSw
      refine C2.out.mono ?_
      rintro e wn ⟨rfl, rfl⟩
      exact ⟨rfl, rfl, Below.refl _ _⟩
    refine ⟨?_, ?_⟩
    · exact YieldsS.of_if (Or.inl ⟨by kernel_rfl, fun wS hSw => by subst hSw; (first | (go_simp; done) | (go_simp; with_reducible rfl))⟩)
    refine ⟨?_, ?_⟩
    · exact YieldsS.of_if (Or.inl ⟨by kernel_rfl, fun wS hSw => by subst hSw; (first | (go_simp; done) | (go_simp; with_reducible rfl))⟩)
    refine ⟨?_, ?_⟩
    · exact YieldsS.of_if (Or.inl ⟨by kernel_rfl, fun wS hSw => by subst hSw; (first | (go_simp; done) | (go_simp; with_reducible rfl))⟩)
    refine ⟨?_, ?_⟩
    · exact YieldsS.of_if (Or.inl ⟨by kernel_rfl, fun wS hSw => by subst hSw; (first | (go_simp; done) | (go_simp; with_reducible rfl))⟩)
    refine ⟨?_, ?_⟩
    · exact YieldsS.of_if (Or.inl ⟨by kernel_rfl, fun wS hSw => by subst hSw; (first | (go_simp; done) | (go_simp; with_reducible rfl))⟩)
    refine ⟨?_, ?_⟩
    · exact YieldsS.of_if (Or.inl ⟨by kernel_rfl, fun wS hSw => by subst hSw; (first | (go_simp; done) | (go_simp; with_reducible rfl))⟩)
    refine ⟨?_, ?_⟩
    · exact YieldsS.of_if (Or.inl ⟨by kernel_rfl, fun wS hSw => by subst hSw; (first | (go_simp; done) | (go_simp; with_reducible rfl))⟩)
    refine ⟨?_, ?_⟩
    · exact YieldsS.of_if (Or.inl ⟨by kernel_rfl, fun wS hSw => by subst hSw; (first | (go_simp; done) | (go_simp; with_reducible rfl))⟩)
    refine ⟨?_, ?_⟩
    · exact YieldsS.of_if (Or.inl ⟨by kernel_rfl, fun wS hSw => by subst hSw; (first | (go_simp; done) | (go_simp; with_reducible rfl))⟩)
    refine ⟨?_, ?_⟩
    · exact YieldsS.of_if (Or.inl ⟨by kernel_rfl, fun wS hSw => by subst hSw; (first | (go_simp; done) | (go_simp; with_reducible rfl))⟩)
    refine ⟨?_, ?_⟩
    · exact YieldsS.of_if (Or.inl ⟨by kernel_rfl, fun wS hSw => by subst hSw; (first | (go_simp; done) | (go_simp; with_reducible rfl))⟩)
    refine ⟨?_, ?_⟩
    · exact YieldsS.of_if (Or.inl ⟨by kernel_rfl, fun wS hSw => by subst hSw; (first | (go_simp; done) | (go_simp; with_reducible rfl))⟩)
    refine ⟨?_, ?_⟩
    · exact YieldsS.of_if (Or.inl ⟨by kernel_rfl, fun wS hSw => by subst hSw; (first | (go_simp; done) | (go_simp; with_reducible rfl))⟩)
    refine ⟨?_, ?_⟩
    · exact YieldsS.of_if (Or.inl ⟨by kernel_rfl, fun wS hSw => by subst hSw; (first | (go_simp; done) | (go_simp; with_reducible rfl))⟩)
    refine ⟨?_, ?_⟩
    · exact YieldsS.of_if (Or.inl ⟨by kernel_rfl, fun wS hSw => by subst hSw; (first | (go_simp; done) | (go_simp; with_reducible rfl))⟩)
    refine ⟨?_, ?_⟩
    · exact YieldsS.of_if (Or.inl ⟨by kernel_rfl, fun wS hSw => by subst hSw; (first | (go_simp; done) | (go_simp; with_reducible rfl))⟩)
    refine ⟨?_, ?_⟩
    · exact YieldsS.of_if (Or.inl ⟨by kernel_rfl, fun wS hSw => by subst hSw; (first | (go_simp; done) | (go_simp; with_reducible rfl))⟩)
    refine ⟨?_, ?_⟩
    · exact YieldsS.of_if (Or.inl ⟨by kernel_rfl, fun wS hSw => by subst hSw; (first | (go_simp; done) | (go_simp; with_reducible rfl))⟩)
    refine ⟨?_, ?_⟩
    · refine YieldsS.of_call (by kernel_rfl) (f := 22) (args := #[(.pointer (some ⟨a, 0, none⟩))]) (fun wS hSw => by first | rfl | (go_simp; done)) (fun wS hSw => ?_)
      subst hSw
      refine C3.out.mono ?_
      rintro e wn ⟨rfl, rfl⟩
      exact ⟨rfl, rfl, Below.refl _ _⟩
    refine ⟨?_, ?_⟩
    · exact YieldsS.of_if (Or.inl ⟨by kernel_rfl, fun wS hSw => by subst hSw; (first | (go_simp; done) | (go_simp; with_reducible rfl))⟩)
    refine ⟨?_, ?_⟩
    · exact YieldsS.of_if (Or.inl ⟨by kernel_rfl, fun wS hSw => by subst hSw; (first | (go_simp; done) | (go_simp; with_reducible rfl))⟩)
    refine ⟨?_, ?_⟩
    · exact YieldsS.of_if (Or.inl ⟨by kernel_rfl, fun wS hSw => by subst hSw; (first | (go_simp; done) | (go_simp; with_reducible rfl))⟩)
    refine ⟨?_, ?_⟩
    · exact YieldsS.of_if (Or.inl ⟨by kernel_rfl, fun wS hSw => by subst hSw; (first | (go_simp; done) | (go_simp; with_reducible rfl))⟩)
    refine ⟨?_, ?_⟩
    · exact YieldsS.of_if (Or.inl ⟨by kernel_rfl, fun wS hSw => by subst hSw; (first | (go_simp; done) | (go_simp; with_reducible rfl))⟩)
    refine ⟨?_, ?_⟩
    · exact YieldsS.of_if (Or.inl ⟨by kernel_rfl, fun wS hSw => by subst hSw; (first | (go_simp; done) | (go_simp; with_reducible rfl))⟩)
    refine ⟨?_, ?_⟩
    · refine YieldsS.of_call (by kernel_rfl) (f := 31) (args := #[(.pointer (some ⟨y, 0, none⟩))]) (fun wS hSw => by first | rfl | (go_simp; done)) (fun wS hSw => ?_)
      subst hSw
      refine C4.out.mono ?_
      rintro e wn ⟨rfl, rfl⟩
      exact ⟨rfl, rfl, Below.refl _ _⟩
    refine ⟨?_, ?_⟩
    · exact YieldsS.of_if (Or.inl ⟨by kernel_rfl, fun wS hSw => by subst hSw; (first | (go_simp; done) | (go_simp; with_reducible rfl))⟩)
    refine ⟨?_, ?_⟩
    · exact YieldsS.of_if (Or.inl ⟨by kernel_rfl, fun wS hSw => by subst hSw; (first | (go_simp; done) | (go_simp; with_reducible rfl))⟩)
    refine ⟨?_, ?_⟩
    · exact YieldsS.of_if (Or.inl ⟨by kernel_rfl, fun wS hSw => by subst hSw; (first | (go_simp; done) | (go_simp; with_reducible rfl))⟩)
    refine ⟨?_, ?_⟩
    · exact YieldsS.of_if (Or.inl ⟨by kernel_rfl, fun wS hSw => by subst hSw; (first | (go_simp; done) | (go_simp; with_reducible rfl))⟩)
    refine ⟨?_, ?_⟩
    · exact YieldsS.of_if (Or.inl ⟨by kernel_rfl, fun wS hSw => by subst hSw; (first | (go_simp; done) | (go_simp; with_reducible rfl))⟩)
    refine ⟨?_, ?_⟩
    · exact YieldsS.of_if (Or.inl ⟨by kernel_rfl, fun wS hSw => by subst hSw; (first | (go_simp; done) | (go_simp; with_reducible rfl))⟩)
    refine ⟨?_, ?_⟩
    · exact YieldsS.of_if (Or.inl ⟨by kernel_rfl, fun wS hSw => by subst hSw; (first | (go_simp; done) | (go_simp; with_reducible rfl))⟩)
    refine ⟨?_, ?_⟩
    · exact YieldsS.of_if (Or.inl ⟨by kernel_rfl, fun wS hSw => by subst hSw; (first | (go_simp; done) | (go_simp; with_reducible rfl))⟩)
    refine ⟨?_, ?_⟩
    · exact YieldsS.of_if (Or.inl ⟨by kernel_rfl, fun wS hSw => by subst hSw; (first | (go_simp; done) | (go_simp; with_reducible rfl))⟩)
    refine ⟨?_, ?_⟩
    · refine YieldsS.of_call (by kernel_rfl) (f := 32) (args := #[(.pointer (some ⟨a, 0, none⟩))]) (fun wS hSw => by first | rfl | (go_simp; done)) (fun wS hSw => ?_)
      subst hSw
      refine C5.out.mono ?_
      rintro e wn ⟨rfl, rfl⟩
      exact ⟨rfl, rfl, Below.refl _ _⟩
    refine ⟨?_, ?_⟩
    · exact YieldsS.of_if (Or.inl ⟨by kernel_rfl, fun wS hSw => by subst hSw; (first | (go_simp; done) | (go_simp; with_reducible rfl))⟩)
    refine ⟨?_, ?_⟩
    · exact YieldsS.of_if (Or.inl ⟨by kernel_rfl, fun wS hSw => by subst hSw; (first | (go_simp; done) | (go_simp; with_reducible rfl))⟩)
    refine ⟨?_, ?_⟩
    · exact YieldsS.of_if (Or.inl ⟨by kernel_rfl, fun wS hSw => by subst hSw; (first | (go_simp; done) | (go_simp; with_reducible rfl))⟩)
    refine ⟨?_, ?_⟩
    · exact YieldsS.of_if (Or.inl ⟨by kernel_rfl, fun wS hSw => by subst hSw; (first | (go_simp; done) | (go_simp; with_reducible rfl))⟩)
    refine ⟨?_, ?_⟩
    · exact YieldsS.of_if (Or.inl ⟨by kernel_rfl, fun wS hSw => by subst hSw; (first | (go_simp; done) | (go_simp; with_reducible rfl))⟩)
    refine ⟨?_, ?_⟩
    · exact YieldsS.of_if (Or.inl ⟨by kernel_rfl, fun wS hSw => by subst hSw; (first | (go_simp; done) | (go_simp; with_reducible rfl))⟩)
    refine ⟨?_, ?_⟩
    · exact YieldsS.of_if (Or.inl ⟨by kernel_rfl, fun wS hSw => by subst hSw; (first | (go_simp; done) | (go_simp; with_reducible rfl))⟩)
    refine ⟨?_, ?_⟩
    · exact YieldsS.of_if (Or.inl ⟨by kernel_rfl, fun wS hSw => by subst hSw; (first | (go_simp; done) | (go_simp; with_reducible rfl))⟩)
    refine ⟨?_, ?_⟩
    · exact YieldsS.of_if (Or.inl ⟨by kernel_rfl, fun wS hSw => by subst hSw; (first | (go_simp; done) | (go_simp; with_reducible rfl))⟩)
    refine ⟨?_, ?_⟩
    · exact YieldsS.of_if (Or.inl ⟨by kernel_rfl, fun wS hSw => by subst hSw; (first | (go_simp; done) | (go_simp; with_reducible rfl))⟩)
    refine ⟨?_, ?_⟩
    · exact YieldsS.of_if (Or.inl ⟨by kernel_rfl, fun wS hSw => by subst hSw; (first | (go_simp; done) | (go_simp; with_reducible rfl))⟩)
    refine ⟨?_, ?_⟩
    · exact YieldsS.of_if (Or.inl ⟨by kernel_rfl, fun wS hSw => by subst hSw; (first | (go_simp; done) | (go_simp; with_reducible rfl))⟩)
    refine ⟨?_, ?_⟩
    · exact YieldsS.of_if (Or.inl ⟨by kernel_rfl, fun wS hSw => by subst hSw; (first | (go_simp; done) | (go_simp; with_reducible rfl))⟩)
    refine ⟨?_, ?_⟩
    · exact YieldsS.of_if (Or.inl ⟨by kernel_rfl, fun wS hSw => by subst hSw; (first | (go_simp; done) | (go_simp; with_reducible rfl))⟩)
    refine ⟨?_, ?_⟩
    · exact YieldsS.of_if (Or.inl ⟨by kernel_rfl, fun wS hSw => by subst hSw; (first | (go_simp; done) | (go_simp; with_reducible rfl))⟩)
    refine ⟨?_, ?_⟩
    · exact YieldsS.of_if (Or.inl ⟨by kernel_rfl, fun wS hSw => by subst hSw; (first | (go_simp; done) | (go_simp; with_reducible rfl))⟩)
    refine ⟨?_, ?_⟩
    · refine YieldsS.of_call (by kernel_rfl) (f := 12) (args := #[(.pointer (some ⟨r, 0, none⟩))]) (fun wS hSw => by first | rfl | (go_simp; done)) (fun wS hSw => ?_)
      subst hSw
      refine C6.out.mono ?_
      rintro e wn ⟨rfl, rfl⟩
      exact ⟨rfl, rfl, Below.refl _ _⟩
    refine ⟨?_, ?_⟩
    · exact YieldsS.of_if (Or.inl ⟨by kernel_rfl, fun wS hSw => by subst hSw; (first | (go_simp; done) | (go_simp; with_reducible rfl))⟩)
    refine ⟨?_, ?_⟩
    · exact YieldsS.of_if (Or.inl ⟨by kernel_rfl, fun wS hSw => by subst hSw; (first | (go_simp; done) | (go_simp; with_reducible rfl))⟩)
    refine ⟨?_, ?_⟩
    · exact YieldsS.of_if (Or.inl ⟨by kernel_rfl, fun wS hSw => by subst hSw; (first | (go_simp; done) | (go_simp; with_reducible rfl))⟩)
    refine ⟨?_, ?_⟩
    · exact YieldsS.of_if (Or.inl ⟨by kernel_rfl, fun wS hSw => by subst hSw; (first | (go_simp; done) | (go_simp; with_reducible rfl))⟩)
    refine ⟨?_, ?_⟩
    · exact YieldsS.of_if (Or.inl ⟨by kernel_rfl, fun wS hSw => by subst hSw; (first | (go_simp; done) | (go_simp; with_reducible rfl))⟩)
    refine ⟨?_, ?_⟩
    · exact YieldsS.of_if (Or.inl ⟨by kernel_rfl, fun wS hSw => by subst hSw; (first | (go_simp; done) | (go_simp; with_reducible rfl))⟩)
    refine ⟨?_, ?_⟩
    · exact YieldsS.of_if (Or.inl ⟨by kernel_rfl, fun wS hSw => by subst hSw; (first | (go_simp; done) | (go_simp; with_reducible rfl))⟩)
    refine ⟨?_, ?_⟩
    · exact YieldsS.of_if (Or.inl ⟨by kernel_rfl, fun wS hSw => by subst hSw; (first | (go_simp; done) | (go_simp; with_reducible rfl))⟩)
    refine ⟨?_, ?_⟩
    · exact YieldsS.of_if (Or.inl ⟨by kernel_rfl, fun wS hSw => by subst hSw; (first | (go_simp; done) | (go_simp; with_reducible rfl))⟩)
    refine ⟨?_, ?_⟩
    · exact YieldsS.of_if (Or.inl ⟨by kernel_rfl, fun wS hSw => by subst hSw; (first | (go_simp; done) | (go_simp; with_reducible rfl))⟩)
    refine ⟨?_, ?_⟩
    · exact YieldsS.of_if (Or.inl ⟨by kernel_rfl, fun wS hSw => by subst hSw; (first | (go_simp; done) | (go_simp; with_reducible rfl))⟩)
    refine ⟨?_, ?_⟩
    · exact YieldsS.of_if (Or.inl ⟨by kernel_rfl, fun wS hSw => by subst hSw; (first | (go_simp; done) | (go_simp; with_reducible rfl))⟩)
    refine ⟨?_, ?_⟩
    · exact YieldsS.of_if (Or.inl ⟨by kernel_rfl, fun wS hSw => by subst hSw; (first | (go_simp; done) | (go_simp; with_reducible rfl))⟩)
    refine ⟨?_, ?_⟩
    · exact YieldsS.of_if (Or.inl ⟨by kernel_rfl, fun wS hSw => by subst hSw; (first | (go_simp; done) | (go_simp; with_reducible rfl))⟩)
    refine ⟨?_, ?_⟩
    · refine YieldsS.of_call (by kernel_rfl) (f := 13) (args := #[(.pointer (some ⟨r, 0, none⟩))]) (fun wS hSw => by first | rfl | (go_simp; done)) (fun wS hSw => ?_)
      subst hSw
      refine C7.out.mono ?_
      rintro e wn ⟨rfl, rfl⟩
      exact ⟨rfl, rfl, Below.refl _ _⟩
    refine ⟨?_, ?_⟩
    · exact YieldsS.of_if (Or.inl ⟨by kernel_rfl, fun wS hSw => by subst hSw; (first | (go_simp; done) | (go_simp; with_reducible rfl))⟩)
    refine ⟨?_, ?_⟩
    · exact YieldsS.of_if (Or.inl ⟨by kernel_rfl, fun wS hSw => by subst hSw; (first | (go_simp; done) | (go_simp; with_reducible rfl))⟩)
    refine ⟨?_, ?_⟩
    · exact YieldsS.of_if (Or.inl ⟨by kernel_rfl, fun wS hSw => by subst hSw; (first | (go_simp; done) | (go_simp; with_reducible rfl))⟩)
    refine ⟨?_, ?_⟩
    · exact YieldsS.of_if (Or.inl ⟨by kernel_rfl, fun wS hSw => by subst hSw; (first | (go_simp; done) | (go_simp; with_reducible rfl))⟩)
    refine ⟨?_, ?_⟩
    · exact YieldsS.of_if (Or.inl ⟨by kernel_rfl, fun wS hSw => by subst hSw; (first | (go_simp; done) | (go_simp; with_reducible rfl))⟩)
    refine ⟨?_, ?_⟩
    · exact YieldsS.of_if (Or.inl ⟨by kernel_rfl, fun wS hSw => by subst hSw; (first | (go_simp; done) | (go_simp; with_reducible rfl))⟩)
    refine ⟨?_, ?_⟩
    · exact YieldsS.of_if (Or.inl ⟨by kernel_rfl, fun wS hSw => by subst hSw; (first | (go_simp; done) | (go_simp; with_reducible rfl))⟩)
    refine ⟨?_, ?_⟩
    · exact YieldsS.of_if (Or.inl ⟨by kernel_rfl, fun wS hSw => by subst hSw; (first | (go_simp; done) | (go_simp; with_reducible rfl))⟩)
    refine ⟨?_, ?_⟩
    · exact YieldsS.of_if (Or.inl ⟨by kernel_rfl, fun wS hSw => by subst hSw; (first | (go_simp; done) | (go_simp; with_reducible rfl))⟩)
    refine ⟨?_, ?_⟩
    · exact YieldsS.of_if (Or.inl ⟨by kernel_rfl, fun wS hSw => by subst hSw; (first | (go_simp; done) | (go_simp; with_reducible rfl))⟩)
    exact trivial
  · intro w7 hS7
    have hw7 : w2.drew = w3 := HW.out
    have o1 := QR.out.drew_
    have o2 := QX.out.drew_
    have o3 : ActAt w2.drew a r _ := QA.out
    have o4 : YOf w2.drew y K _ := QY.out
    have o5 := HKP.out.drew_
    rw [hw7] at o1 o2 o3 o4 o5
    subst hS7
    refine NoPanic.normal ?_
    go_wp2
    go_ret
    rw [HCc.out, HGg.out]
    exact ⟨rfl, o1, o2, o3, o4, o5⟩
end
end Go.Proofs.Ytbenpnecjmpcbaa
