/- A thread's act begins, on both sides. -/
import Derived.Test.YtbenpnecjmpcbaaRnx
import Derived.Test.YtbenpnecjmpcbaaUnj
import Derived.Test.YtbenpnecjmpcbaaRngc
namespace Go.Proofs.Ytbenpnecjmpcbaa
open Go.RowKit
set_option linter.unusedVariables false
set_option linter.unusedSimpArgs false
theorem one_op {P : Program} {ops : Array Oper} {Q : Exit → Act → World → Prop} {K : Act → World → Prop} {i : Nat} {o : Oper} {a : Act} {w : World} (hi : ops[i]? = some o) (hw : Region.wanted o (yielded ops a.tmps) = true) (h : o.wp P a w K Q) : wpOp P ops Q i K a w := by
  unfold Go.wpOp
  simp only [hi, hw, if_true]
  exact .inl h
/-- What a thread that begins has done: both acts, and where they are kept. -/
def Begun (w : World) (t r j : Nat) (cs : Array Value) (K : Int) (c : Ac) (w' : World) : Prop :=
  ∃ a y, w.heap.size ≤ a ∧ w.heap.size ≤ y ∧ a ≠ y ∧ ActAt w' a r c ∧ YOf w' y K c ∧ Blk w' t 44 ((cs.setIfInBounds (2 + j) (.pointer (some ⟨a, 0, none⟩))).setIfInBounds (8 + j) (.pointer (some ⟨y, 0, none⟩))) ∧ Kept (fun k => k = t) w w'
section
variable {r : Nat}
set_option maxRecDepth 100000 in
set_option maxHeartbeats 4000000 in
theorem tbegin_push {t j : Nat} {d v : Int} {va vb : Value} (w : World) (hj : j < 6) {cs : Array Value} (hT : Blk w t 44 cs) (t0 : cs[0]? = some (.pointer (some ⟨r, 0, none⟩))) (ta : cs[2 + j]? = some va) (tb : cs[8 + j]? = some vb) (hd : decide (d.tmod 4 < 2) = true) :
    Calls Try.prog 18 #[.pointer (some ⟨t, 0, none⟩), .int .i64 (j : Int), .int .u8 d, .int .u64 v] w fun e w' => e = .returned (.tuple #[]) ∧ Begun w t r j cs 0 ⟨2, 0, 0, v, 0, false, false⟩ w' := by
  have hi0 : (0 : Int) ≤ (j : Int) := by omega
  have hi6 : (j : Int) < 6 := by omega
  have H := Lib.hid hT
  have H0 := Lib.hid t0
  have HA := Lib.hid ta
  have HB := Lib.hid tb
  clear hT t0 ta tb
  go_enter Try.func18, Try.ntmps18
  go_upto_region 1 with fail
  obtain ⟨w2, hw2⟩ : ∃ x, w.drew = x := ⟨_, rfl⟩
  refine wp_region_noPanic ?_
  refine wp_region_UD (fun w' => w'.cell? ⟨t, 0, none⟩ = some (.pointer (some ⟨r, 0, none⟩))) (fun w' => Blk w' t 44 cs ∧ Kept (fun k => k = t) w w') [9, 11, 15, 19] [] (by kernel_rfl) (H.out.val H0.out) (⟨H.out.drew_, (Kept.refl _ _).drew_⟩) (fun x y hx hy => ⟨hx.1.below_ hy hx.1.size, hx.2.trans (Kept.of_below hy)⟩) ?_
  intro hsh0
  refine anyU_take 60 (i := 0) (v := ?_) rfl (by kernel_rfl) (by kernel_rfl) (by kernel_rfl) (by kernel_rfl) (fun _ _ _ h => h) (by assumption) (YieldsS.of_if (Or.inl ⟨by rfl, ?_⟩)) ?_
  rotate_left
  · (intro wS hSw; (try dsimp only at hSw); (first | (go_simp; done) | (go_simp; with_reducible rfl)))
  intro hsh1
  clear hsh0
  try simp only [Act.put, List.getElem_toArray, List.getElem_cons_zero, List.getElem_cons_succ, List.setIfInBounds_toArray, List.set_cons_zero, List.set_cons_succ]
  refine anyU_take 60 (i := 1) (v := ?_) rfl (by kernel_rfl) (by kernel_rfl) (by kernel_rfl) (by kernel_rfl) (fun _ _ _ h => h) (by assumption) (YieldsS.of_if (Or.inl ⟨by rfl, ?_⟩)) ?_
  rotate_left
  · (intro wS hSw; (try dsimp only at hSw); (first | (go_simp; done) | (go_simp; with_reducible rfl)))
  intro hsh2
  clear hsh1
  try simp only [Act.put, List.getElem_toArray, List.getElem_cons_zero, List.getElem_cons_succ, List.setIfInBounds_toArray, List.set_cons_zero, List.set_cons_succ]
  refine anyU_take 60 (i := 2) (v := ?_) rfl (by kernel_rfl) (by kernel_rfl) (by kernel_rfl) (by kernel_rfl) (fun _ _ _ h => h) (by assumption) (YieldsS.of_if (Or.inl ⟨by rfl, ?_⟩)) ?_
  rotate_left
  · (intro wS hSw; (try dsimp only at hSw); (first | (go_simp; done) | (go_simp; with_reducible rfl)))
  intro hsh3
  clear hsh2
  try simp only [Act.put, List.getElem_toArray, List.getElem_cons_zero, List.getElem_cons_succ, List.setIfInBounds_toArray, List.set_cons_zero, List.set_cons_succ]
  refine anyU_take 60 (i := 3) (v := ?_) rfl (by kernel_rfl) (by kernel_rfl) (by kernel_rfl) (by kernel_rfl) (fun _ _ _ h => h) (by assumption) (YieldsS.of_if (Or.inl ⟨by rfl, ?_⟩)) ?_
  rotate_left
  · (intro wS hSw; (try dsimp only at hSw); (first | (go_simp; done) | (go_simp; with_reducible rfl)))
  intro hsh4
  clear hsh3
  try simp only [Act.put, List.getElem_toArray, List.getElem_cons_zero, List.getElem_cons_succ, List.setIfInBounds_toArray, List.set_cons_zero, List.set_cons_succ]
  refine anyU_take 60 (i := 4) (v := ?_) rfl (by kernel_rfl) (by kernel_rfl) (by kernel_rfl) (by kernel_rfl) (fun _ _ _ h => h) (by assumption) (YieldsS.of_if (Or.inl ⟨by rfl, ?_⟩)) ?_
  rotate_left
  · (intro wS hSw; (try dsimp only at hSw); (first | (go_simp; done) | (go_simp; with_reducible rfl)))
  intro hsh5
  clear hsh4
  try simp only [Act.put, List.getElem_toArray, List.getElem_cons_zero, List.getElem_cons_succ, List.setIfInBounds_toArray, List.set_cons_zero, List.set_cons_succ]
  refine anyU_take 60 (i := 5) (v := ?_) rfl (by kernel_rfl) (by kernel_rfl) (by kernel_rfl) (by kernel_rfl) (fun _ _ _ h => h) (by assumption) (YieldsS.of_if (Or.inl ⟨by rfl, ?_⟩)) ?_
  rotate_left
  · (intro wS hSw; (try dsimp only at hSw); (first | (go_simp; done) | (go_simp; with_reducible rfl)))
  intro hsh6
  clear hsh5
  try simp only [Act.put, List.getElem_toArray, List.getElem_cons_zero, List.getElem_cons_succ, List.setIfInBounds_toArray, List.set_cons_zero, List.set_cons_succ]
  refine anyU_take 60 (i := 6) (v := ?_) rfl (by kernel_rfl) (by kernel_rfl) (by kernel_rfl) (by kernel_rfl) (fun _ _ _ h => h) (by assumption) (YieldsS.of_if (Or.inl ⟨by rfl, ?_⟩)) ?_
  rotate_left
  · (intro wS hSw; (try dsimp only at hSw); (first | (go_simp; done) | (go_simp; with_reducible rfl)))
  intro hsh7
  clear hsh6
  try simp only [Act.put, List.getElem_toArray, List.getElem_cons_zero, List.getElem_cons_succ, List.setIfInBounds_toArray, List.set_cons_zero, List.set_cons_succ]
  refine anyU_take 60 (i := 7) (v := ?_) rfl (by kernel_rfl) (by kernel_rfl) (by kernel_rfl) (by kernel_rfl) (fun _ _ _ h => h) (by assumption) (YieldsS.of_if (Or.inl ⟨by rfl, ?_⟩)) ?_
  rotate_left
  · (intro wS hSw; (try dsimp only at hSw); (first | (go_simp; done) | (go_simp; with_reducible rfl)))
  intro hsh8
  clear hsh7
  try simp only [Act.put, List.getElem_toArray, List.getElem_cons_zero, List.getElem_cons_succ, List.setIfInBounds_toArray, List.set_cons_zero, List.set_cons_succ]
  refine anyU_take 60 (i := 8) (v := ?_) rfl (by kernel_rfl) (by kernel_rfl) (by kernel_rfl) (by kernel_rfl) (fun _ _ _ h => h) (by assumption) (YieldsS.of_if (Or.inl ⟨by rfl, ?_⟩)) ?_
  rotate_left
  · (intro wS hSw; (try dsimp only at hSw); (first | (go_simp; done) | (go_simp; with_reducible rfl)))
  intro hsh9
  clear hsh8
  try simp only [Act.put, List.getElem_toArray, List.getElem_cons_zero, List.getElem_cons_succ, List.setIfInBounds_toArray, List.set_cons_zero, List.set_cons_succ]
  refine anyU_take 60 (i := 10) (v := ?_) rfl (by kernel_rfl) (by kernel_rfl) (by kernel_rfl) (by kernel_rfl) (fun _ _ _ h => h) (by assumption) (YieldsS.of_if (Or.inl ⟨by rfl, ?_⟩)) ?_
  rotate_left
  · (intro wS hSw; (try dsimp only at hSw); (first | (go_simp; done) | (go_simp; with_reducible rfl)))
  intro hsh10
  clear hsh9
  try simp only [Act.put, List.getElem_toArray, List.getElem_cons_zero, List.getElem_cons_succ, List.setIfInBounds_toArray, List.set_cons_zero, List.set_cons_succ]
  refine anyU_take 60 (i := 12) (v := ?_) rfl (by kernel_rfl) (by kernel_rfl) (by kernel_rfl) (by kernel_rfl) (fun _ _ _ h => h) (by assumption) (YieldsS.of_if (Or.inl ⟨by rfl, ?_⟩)) ?_
  rotate_left
  · (intro wS hSw; (try dsimp only at hSw); (first | (go_simp; done) | (go_simp; with_reducible rfl)))
  intro hsh11
  clear hsh10
  try simp only [Act.put, List.getElem_toArray, List.getElem_cons_zero, List.getElem_cons_succ, List.setIfInBounds_toArray, List.set_cons_zero, List.set_cons_succ]
  refine anyU_take 60 (i := 13) (v := ?_) rfl (by kernel_rfl) (by kernel_rfl) (by kernel_rfl) (by kernel_rfl) (fun _ _ _ h => h) (by assumption) (YieldsS.of_if (Or.inl ⟨by rfl, ?_⟩)) ?_
  rotate_left
  · (intro wS hSw; (try dsimp only at hSw); (first | (go_simp; done) | (go_simp; with_reducible rfl)))
  intro hsh12
  clear hsh11
  try simp only [Act.put, List.getElem_toArray, List.getElem_cons_zero, List.getElem_cons_succ, List.setIfInBounds_toArray, List.set_cons_zero, List.set_cons_succ]
  refine anyU_take 60 (i := 16) (v := ?_) rfl (by kernel_rfl) (by kernel_rfl) (by kernel_rfl) (by kernel_rfl) (fun _ _ _ h => h) (by assumption) (YieldsS.of_if (Or.inl ⟨by rfl, ?_⟩)) ?_
  rotate_left
  · (intro wS hSw; (try dsimp only at hSw); (first | (go_simp; done) | (go_simp; with_reducible rfl)))
  intro hsh13
  clear hsh12
  try simp only [Act.put, List.getElem_toArray, List.getElem_cons_zero, List.getElem_cons_succ, List.setIfInBounds_toArray, List.set_cons_zero, List.set_cons_succ]
  refine anyU_take 60 (i := 17) (v := ?_) rfl (by kernel_rfl) (by kernel_rfl) (by kernel_rfl) (by kernel_rfl) (fun _ _ _ h => h) (by assumption) (YieldsS.of_if (Or.inl ⟨by rfl, ?_⟩)) ?_
  rotate_left
  · (intro wS hSw; (try dsimp only at hSw); (first | (go_simp; done) | (go_simp; with_reducible rfl)))
  intro hsh14
  clear hsh13
  try simp only [Act.put, List.getElem_toArray, List.getElem_cons_zero, List.getElem_cons_succ, List.setIfInBounds_toArray, List.set_cons_zero, List.set_cons_succ]
  refine anyU_make (i := 9) (by kernel_rfl) (by kernel_rfl) (fun wS hSw hDw => one_op rfl (by rfl) ?_)
  unfold Oper.wp
  go_simp
  refine (rpush v wS).mono ?_
  rintro e wn ⟨rfl, h1, h2⟩
  obtain ⟨a, ha⟩ : ∃ x, wS.heap.size = x := ⟨_, rfl⟩
  rw [ha] at h1
  have hla : w.heap.size ≤ a := ha ▸ hDw.2.size
  have lt : t < w.heap.size := H.out.size
  have hta : t ≠ a := by omega
  refine ⟨(H.out.val H0.out : w.cell? ⟨t, 0, none⟩ = _) ▸ ?_, fun w' => (Blk w' t 44 cs ∧ Kept (fun k => k = t) w w') ∧ ActAt w' a r ⟨2, 0, 0, v, 0, false, false⟩, fun x y hx hy => ⟨⟨hx.1.1.below_ hy hx.1.1.size, hx.1.2.trans (Kept.of_below hy)⟩, Blk.below_ hx.2 hy hx.2.size⟩, ⟨⟨hDw.1.below_ h2 hDw.1.size, hDw.2.trans (Kept.of_below h2)⟩, h1⟩, ?_⟩
  · exact (hDw.1.below_ h2 hDw.1.size).val H0.out |>.trans (H.out.val H0.out).symm
  rw [ha]
  clear hSw hDw h1 h2 ha
  refine anyU_make (i := 11) (by kernel_rfl) (by kernel_rfl) (fun wS hSw hDw => one_op rfl (by rfl) ?_)
  unfold Oper.wp
  go_simp
  refine (ybegin 0 v wS).mono ?_
  rintro e wn ⟨rfl, h1, h2⟩
  obtain ⟨y, hy⟩ : ∃ x, wS.heap.size = x := ⟨_, rfl⟩
  rw [hy] at h1
  have hly : w.heap.size ≤ y := hy ▸ hDw.1.2.size
  have hay : a ≠ y := by have : a < wS.heap.size := hDw.2.size; omega
  have hty : t ≠ y := by omega
  refine ⟨(hDw.1.1.below_ h2 hDw.1.1.size).val H0.out, fun w' => ((Blk w' t 44 cs ∧ Kept (fun k => k = t) w w') ∧ ActAt w' a r ⟨2, 0, 0, v, 0, false, false⟩) ∧ YOf w' y 0 ⟨2, 0, 0, v, 0, false, false⟩, fun x y hx hy => ⟨⟨⟨hx.1.1.1.below_ hy hx.1.1.1.size, hx.1.1.2.trans (Kept.of_below hy)⟩, Blk.below_ hx.1.2 hy hx.1.2.size⟩, Blk.below_ hx.2 hy hx.2.size⟩, ⟨⟨⟨hDw.1.1.below_ h2 hDw.1.1.size, hDw.1.2.trans (Kept.of_below h2)⟩, Blk.below_ hDw.2 h2 hDw.2.size⟩, h1⟩, ?_⟩
  rw [hy]
  clear hSw hDw h1 h2 hy
  try simp only [Act.put, List.getElem_toArray, List.getElem_cons_zero, List.getElem_cons_succ, List.setIfInBounds_toArray, List.set_cons_zero, List.set_cons_succ]
  refine anyU_one (i := 14) (v := ?_) (by kernel_rfl) rfl (YieldsS.of_if (Or.inl ⟨by rfl, ?_⟩)) ?_
  rotate_left
  · (intro wS hSw; (try dsimp only at hSw); (first | (go_simp; done) | (go_simp; with_reducible rfl)))
  try simp only [Act.put, List.getElem_toArray, List.getElem_cons_zero, List.getElem_cons_succ, List.setIfInBounds_toArray, List.set_cons_zero, List.set_cons_succ]
  refine anyU_make (i := 15) (by kernel_rfl) (by kernel_rfl) (fun wS hSw hDw => one_op rfl (by rfl) ?_)
  have q0 := hDw.1.1.1.val HA.out
  have qf := hDw.1.1.1.free (2 + j)
  have HS := Lib.hid hSw
  have HD := Lib.hid hDw
  clear hSw hDw
  unfold Oper.wp
  go_simp
  have hSw := HS.out
  have hDw := HD.out
  clear HS HD
  refine ⟨hSw, fun w' => ((Blk w' t 44 (cs.setIfInBounds (2 + j) (.pointer (some ⟨a, 0, none⟩))) ∧ Kept (fun k => k = t) w w') ∧ ActAt w' a r ⟨2, 0, 0, v, 0, false, false⟩) ∧ YOf w' y 0 ⟨2, 0, 0, v, 0, false, false⟩, fun x y hx hy => ⟨⟨⟨hx.1.1.1.below_ hy hx.1.1.1.size, hx.1.1.2.trans (Kept.of_below hy)⟩, Blk.below_ hx.1.2 hy hx.1.2.size⟩, Blk.below_ hx.2 hy hx.2.size⟩, ⟨⟨⟨hDw.1.1.1.set_ _ _, hDw.1.1.2.set_ (Or.inl rfl) _⟩, Blk.far hDw.1.2 _ (fun e => hta e.symm)⟩, Blk.far hDw.2 _ (fun e => hty e.symm)⟩, ?_⟩
  clear hSw hDw q0 qf
  try simp only [Act.put, List.getElem_toArray, List.getElem_cons_zero, List.getElem_cons_succ, List.setIfInBounds_toArray, List.set_cons_zero, List.set_cons_succ]
  refine anyU_one (i := 18) (v := ?_) (by kernel_rfl) rfl (YieldsS.of_if (Or.inl ⟨by rfl, ?_⟩)) ?_
  rotate_left
  · (intro wS hSw; (try dsimp only at hSw); (first | (go_simp; done) | (go_simp; with_reducible rfl)))
  try simp only [Act.put, List.getElem_toArray, List.getElem_cons_zero, List.getElem_cons_succ, List.setIfInBounds_toArray, List.set_cons_zero, List.set_cons_succ]
  refine anyU_make (i := 19) (by kernel_rfl) (by kernel_rfl) (fun wS hSw hDw => one_op rfl (by rfl) ?_)
  have q0 := hDw.1.1.1.val ((get_set_far (by omega) _).trans HB.out)
  have qf := hDw.1.1.1.free (8 + j)
  have HS := Lib.hid hSw
  have HD := Lib.hid hDw
  clear hSw hDw
  unfold Oper.wp
  go_simp
  have hSw := HS.out
  have hDw := HD.out
  clear HS HD
  refine ⟨hSw, fun w' => ((Blk w' t 44 ((cs.setIfInBounds (2 + j) (.pointer (some ⟨a, 0, none⟩))).setIfInBounds (8 + j) (.pointer (some ⟨y, 0, none⟩))) ∧ Kept (fun k => k = t) w w') ∧ ActAt w' a r ⟨2, 0, 0, v, 0, false, false⟩) ∧ YOf w' y 0 ⟨2, 0, 0, v, 0, false, false⟩, fun x y hx hy => ⟨⟨⟨hx.1.1.1.below_ hy hx.1.1.1.size, hx.1.1.2.trans (Kept.of_below hy)⟩, Blk.below_ hx.1.2 hy hx.1.2.size⟩, Blk.below_ hx.2 hy hx.2.size⟩, ⟨⟨⟨hDw.1.1.1.set_ _ _, hDw.1.1.2.set_ (Or.inl rfl) _⟩, Blk.far hDw.1.2 _ (fun e => hta e.symm)⟩, Blk.far hDw.2 _ (fun e => hty e.symm)⟩, ?_⟩
  clear hSw hDw q0 qf
  try simp only [Act.put, List.getElem_toArray, List.getElem_cons_zero, List.getElem_cons_succ, List.setIfInBounds_toArray, List.set_cons_zero, List.set_cons_succ]
  refine anyU_done (by kernel_rfl) (fun w7 hS7 hD7 => ?_) _
  refine NoPanic.normal ?_
  go_wp2
  exact bodyPost_end (results_none rfl _ _ _) rfl ⟨rfl, a, y, hla, hly, hay, hD7.1.2, hD7.2, hD7.1.1.1, hD7.1.1.2⟩
set_option maxRecDepth 100000 in
set_option maxHeartbeats 4000000 in
theorem tbegin_pop {t j : Nat} {d v : Int} {va vb : Value} (w : World) (hj : j < 6) {cs : Array Value} (hT : Blk w t 44 cs) (t0 : cs[0]? = some (.pointer (some ⟨r, 0, none⟩))) (ta : cs[2 + j]? = some va) (tb : cs[8 + j]? = some vb) (hd : decide (d.tmod 4 < 2) = false) :
    Calls Try.prog 18 #[.pointer (some ⟨t, 0, none⟩), .int .i64 (j : Int), .int .u8 d, .int .u64 v] w fun e w' => e = .returned (.tuple #[]) ∧ Begun w t r j cs 2 ⟨7, 0, 0, 0, 0, false, false⟩ w' := by
  have hi0 : (0 : Int) ≤ (j : Int) := by omega
  have hi6 : (j : Int) < 6 := by omega
  have H := Lib.hid hT
  have H0 := Lib.hid t0
  have HA := Lib.hid ta
  have HB := Lib.hid tb
  clear hT t0 ta tb
  go_enter Try.func18, Try.ntmps18
  go_upto_region 2 with fail
  obtain ⟨w2, hw2⟩ : ∃ x, w.drew = x := ⟨_, rfl⟩
  refine wp_region_noPanic ?_
  refine wp_region_UD (fun w' => w'.cell? ⟨t, 0, none⟩ = some (.pointer (some ⟨r, 0, none⟩))) (fun w' => Blk w' t 44 cs ∧ Kept (fun k => k = t) w w') [8, 9, 13, 17] [] (by kernel_rfl) (H.out.val H0.out) (⟨H.out.drew_, (Kept.refl _ _).drew_⟩) (fun x y hx hy => ⟨hx.1.below_ hy hx.1.size, hx.2.trans (Kept.of_below hy)⟩) ?_
  intro hsh0
  refine anyU_take 60 (i := 0) (v := ?_) rfl (by kernel_rfl) (by kernel_rfl) (by kernel_rfl) (by kernel_rfl) (fun _ _ _ h => h) (by assumption) (YieldsS.of_if (Or.inl ⟨by rfl, ?_⟩)) ?_
  rotate_left
  · (intro wS hSw; (try dsimp only at hSw); (first | (go_simp; done) | (go_simp; with_reducible rfl)))
  intro hsh1
  clear hsh0
  try simp only [Act.put, List.getElem_toArray, List.getElem_cons_zero, List.getElem_cons_succ, List.setIfInBounds_toArray, List.set_cons_zero, List.set_cons_succ]
  refine anyU_take 60 (i := 1) (v := ?_) rfl (by kernel_rfl) (by kernel_rfl) (by kernel_rfl) (by kernel_rfl) (fun _ _ _ h => h) (by assumption) (YieldsS.of_if (Or.inl ⟨by rfl, ?_⟩)) ?_
  rotate_left
  · (intro wS hSw; (try dsimp only at hSw); (first | (go_simp; done) | (go_simp; with_reducible rfl)))
  intro hsh2
  clear hsh1
  try simp only [Act.put, List.getElem_toArray, List.getElem_cons_zero, List.getElem_cons_succ, List.setIfInBounds_toArray, List.set_cons_zero, List.set_cons_succ]
  refine anyU_take 60 (i := 2) (v := ?_) rfl (by kernel_rfl) (by kernel_rfl) (by kernel_rfl) (by kernel_rfl) (fun _ _ _ h => h) (by assumption) (YieldsS.of_if (Or.inl ⟨by rfl, ?_⟩)) ?_
  rotate_left
  · (intro wS hSw; (try dsimp only at hSw); (first | (go_simp; done) | (go_simp; with_reducible rfl)))
  intro hsh3
  clear hsh2
  try simp only [Act.put, List.getElem_toArray, List.getElem_cons_zero, List.getElem_cons_succ, List.setIfInBounds_toArray, List.set_cons_zero, List.set_cons_succ]
  refine anyU_take 60 (i := 3) (v := ?_) rfl (by kernel_rfl) (by kernel_rfl) (by kernel_rfl) (by kernel_rfl) (fun _ _ _ h => h) (by assumption) (YieldsS.of_if (Or.inl ⟨by rfl, ?_⟩)) ?_
  rotate_left
  · (intro wS hSw; (try dsimp only at hSw); (first | (go_simp; done) | (go_simp; with_reducible rfl)))
  intro hsh4
  clear hsh3
  try simp only [Act.put, List.getElem_toArray, List.getElem_cons_zero, List.getElem_cons_succ, List.setIfInBounds_toArray, List.set_cons_zero, List.set_cons_succ]
  refine anyU_take 60 (i := 4) (v := ?_) rfl (by kernel_rfl) (by kernel_rfl) (by kernel_rfl) (by kernel_rfl) (fun _ _ _ h => h) (by assumption) (YieldsS.of_if (Or.inl ⟨by rfl, ?_⟩)) ?_
  rotate_left
  · (intro wS hSw; (try dsimp only at hSw); (first | (go_simp; done) | (go_simp; with_reducible rfl)))
  intro hsh5
  clear hsh4
  try simp only [Act.put, List.getElem_toArray, List.getElem_cons_zero, List.getElem_cons_succ, List.setIfInBounds_toArray, List.set_cons_zero, List.set_cons_succ]
  refine anyU_take 60 (i := 5) (v := ?_) rfl (by kernel_rfl) (by kernel_rfl) (by kernel_rfl) (by kernel_rfl) (fun _ _ _ h => h) (by assumption) (YieldsS.of_if (Or.inl ⟨by rfl, ?_⟩)) ?_
  rotate_left
  · (intro wS hSw; (try dsimp only at hSw); (first | (go_simp; done) | (go_simp; with_reducible rfl)))
  intro hsh6
  clear hsh5
  try simp only [Act.put, List.getElem_toArray, List.getElem_cons_zero, List.getElem_cons_succ, List.setIfInBounds_toArray, List.set_cons_zero, List.set_cons_succ]
  refine anyU_take 60 (i := 6) (v := ?_) rfl (by kernel_rfl) (by kernel_rfl) (by kernel_rfl) (by kernel_rfl) (fun _ _ _ h => h) (by assumption) (YieldsS.of_if (Or.inl ⟨by rfl, ?_⟩)) ?_
  rotate_left
  · (intro wS hSw; (try dsimp only at hSw); (first | (go_simp; done) | (go_simp; with_reducible rfl)))
  intro hsh7
  clear hsh6
  try simp only [Act.put, List.getElem_toArray, List.getElem_cons_zero, List.getElem_cons_succ, List.setIfInBounds_toArray, List.set_cons_zero, List.set_cons_succ]
  refine anyU_take 60 (i := 7) (v := ?_) rfl (by kernel_rfl) (by kernel_rfl) (by kernel_rfl) (by kernel_rfl) (fun _ _ _ h => h) (by assumption) (YieldsS.of_if (Or.inl ⟨by rfl, ?_⟩)) ?_
  rotate_left
  · (intro wS hSw; (try dsimp only at hSw); (first | (go_simp; done) | (go_simp; with_reducible rfl)))
  intro hsh8
  clear hsh7
  try simp only [Act.put, List.getElem_toArray, List.getElem_cons_zero, List.getElem_cons_succ, List.setIfInBounds_toArray, List.set_cons_zero, List.set_cons_succ]
  refine anyU_take 60 (i := 10) (v := ?_) rfl (by kernel_rfl) (by kernel_rfl) (by kernel_rfl) (by kernel_rfl) (fun _ _ _ h => h) (by assumption) (YieldsS.of_if (Or.inl ⟨by rfl, ?_⟩)) ?_
  rotate_left
  · (intro wS hSw; (try dsimp only at hSw); (first | (go_simp; done) | (go_simp; with_reducible rfl)))
  intro hsh9
  clear hsh8
  try simp only [Act.put, List.getElem_toArray, List.getElem_cons_zero, List.getElem_cons_succ, List.setIfInBounds_toArray, List.set_cons_zero, List.set_cons_succ]
  refine anyU_take 60 (i := 11) (v := ?_) rfl (by kernel_rfl) (by kernel_rfl) (by kernel_rfl) (by kernel_rfl) (fun _ _ _ h => h) (by assumption) (YieldsS.of_if (Or.inl ⟨by rfl, ?_⟩)) ?_
  rotate_left
  · (intro wS hSw; (try dsimp only at hSw); (first | (go_simp; done) | (go_simp; with_reducible rfl)))
  intro hsh10
  clear hsh9
  try simp only [Act.put, List.getElem_toArray, List.getElem_cons_zero, List.getElem_cons_succ, List.setIfInBounds_toArray, List.set_cons_zero, List.set_cons_succ]
  refine anyU_take 60 (i := 14) (v := ?_) rfl (by kernel_rfl) (by kernel_rfl) (by kernel_rfl) (by kernel_rfl) (fun _ _ _ h => h) (by assumption) (YieldsS.of_if (Or.inl ⟨by rfl, ?_⟩)) ?_
  rotate_left
  · (intro wS hSw; (try dsimp only at hSw); (first | (go_simp; done) | (go_simp; with_reducible rfl)))
  intro hsh11
  clear hsh10
  try simp only [Act.put, List.getElem_toArray, List.getElem_cons_zero, List.getElem_cons_succ, List.setIfInBounds_toArray, List.set_cons_zero, List.set_cons_succ]
  refine anyU_take 60 (i := 15) (v := ?_) rfl (by kernel_rfl) (by kernel_rfl) (by kernel_rfl) (by kernel_rfl) (fun _ _ _ h => h) (by assumption) (YieldsS.of_if (Or.inl ⟨by rfl, ?_⟩)) ?_
  rotate_left
  · (intro wS hSw; (try dsimp only at hSw); (first | (go_simp; done) | (go_simp; with_reducible rfl)))
  intro hsh12
  clear hsh11
  try simp only [Act.put, List.getElem_toArray, List.getElem_cons_zero, List.getElem_cons_succ, List.setIfInBounds_toArray, List.set_cons_zero, List.set_cons_succ]
  refine anyU_make (i := 8) (by kernel_rfl) (by kernel_rfl) (fun wS hSw hDw => one_op rfl (by rfl) ?_)
  unfold Oper.wp
  go_simp
  refine (rpop wS).mono ?_
  rintro e wn ⟨rfl, h1, h2⟩
  obtain ⟨a, ha⟩ : ∃ x, wS.heap.size = x := ⟨_, rfl⟩
  rw [ha] at h1
  have hla : w.heap.size ≤ a := ha ▸ hDw.2.size
  have lt : t < w.heap.size := H.out.size
  have hta : t ≠ a := by omega
  refine ⟨(H.out.val H0.out : w.cell? ⟨t, 0, none⟩ = _) ▸ ?_, fun w' => (Blk w' t 44 cs ∧ Kept (fun k => k = t) w w') ∧ ActAt w' a r ⟨7, 0, 0, 0, 0, false, false⟩, fun x y hx hy => ⟨⟨hx.1.1.below_ hy hx.1.1.size, hx.1.2.trans (Kept.of_below hy)⟩, Blk.below_ hx.2 hy hx.2.size⟩, ⟨⟨hDw.1.below_ h2 hDw.1.size, hDw.2.trans (Kept.of_below h2)⟩, h1⟩, ?_⟩
  · exact (hDw.1.below_ h2 hDw.1.size).val H0.out |>.trans (H.out.val H0.out).symm
  rw [ha]
  clear hSw hDw h1 h2 ha
  refine anyU_make (i := 9) (by kernel_rfl) (by kernel_rfl) (fun wS hSw hDw => one_op rfl (by rfl) ?_)
  unfold Oper.wp
  go_simp
  refine (ybegin 2 0 wS).mono ?_
  rintro e wn ⟨rfl, h1, h2⟩
  obtain ⟨y, hy⟩ : ∃ x, wS.heap.size = x := ⟨_, rfl⟩
  rw [hy] at h1
  have hly : w.heap.size ≤ y := hy ▸ hDw.1.2.size
  have hay : a ≠ y := by have : a < wS.heap.size := hDw.2.size; omega
  have hty : t ≠ y := by omega
  refine ⟨(hDw.1.1.below_ h2 hDw.1.1.size).val H0.out, fun w' => ((Blk w' t 44 cs ∧ Kept (fun k => k = t) w w') ∧ ActAt w' a r ⟨7, 0, 0, 0, 0, false, false⟩) ∧ YOf w' y 2 ⟨7, 0, 0, 0, 0, false, false⟩, fun x y hx hy => ⟨⟨⟨hx.1.1.1.below_ hy hx.1.1.1.size, hx.1.1.2.trans (Kept.of_below hy)⟩, Blk.below_ hx.1.2 hy hx.1.2.size⟩, Blk.below_ hx.2 hy hx.2.size⟩, ⟨⟨⟨hDw.1.1.below_ h2 hDw.1.1.size, hDw.1.2.trans (Kept.of_below h2)⟩, Blk.below_ hDw.2 h2 hDw.2.size⟩, h1⟩, ?_⟩
  rw [hy]
  clear hSw hDw h1 h2 hy
  try simp only [Act.put, List.getElem_toArray, List.getElem_cons_zero, List.getElem_cons_succ, List.setIfInBounds_toArray, List.set_cons_zero, List.set_cons_succ]
  refine anyU_one (i := 12) (v := ?_) (by kernel_rfl) rfl (YieldsS.of_if (Or.inl ⟨by rfl, ?_⟩)) ?_
  rotate_left
  · (intro wS hSw; (try dsimp only at hSw); (first | (go_simp; done) | (go_simp; with_reducible rfl)))
  try simp only [Act.put, List.getElem_toArray, List.getElem_cons_zero, List.getElem_cons_succ, List.setIfInBounds_toArray, List.set_cons_zero, List.set_cons_succ]
  refine anyU_make (i := 13) (by kernel_rfl) (by kernel_rfl) (fun wS hSw hDw => one_op rfl (by rfl) ?_)
  have q0 := hDw.1.1.1.val HA.out
  have qf := hDw.1.1.1.free (2 + j)
  have HS := Lib.hid hSw
  have HD := Lib.hid hDw
  clear hSw hDw
  unfold Oper.wp
  go_simp
  have hSw := HS.out
  have hDw := HD.out
  clear HS HD
  refine ⟨hSw, fun w' => ((Blk w' t 44 (cs.setIfInBounds (2 + j) (.pointer (some ⟨a, 0, none⟩))) ∧ Kept (fun k => k = t) w w') ∧ ActAt w' a r ⟨7, 0, 0, 0, 0, false, false⟩) ∧ YOf w' y 2 ⟨7, 0, 0, 0, 0, false, false⟩, fun x y hx hy => ⟨⟨⟨hx.1.1.1.below_ hy hx.1.1.1.size, hx.1.1.2.trans (Kept.of_below hy)⟩, Blk.below_ hx.1.2 hy hx.1.2.size⟩, Blk.below_ hx.2 hy hx.2.size⟩, ⟨⟨⟨hDw.1.1.1.set_ _ _, hDw.1.1.2.set_ (Or.inl rfl) _⟩, Blk.far hDw.1.2 _ (fun e => hta e.symm)⟩, Blk.far hDw.2 _ (fun e => hty e.symm)⟩, ?_⟩
  clear hSw hDw q0 qf
  try simp only [Act.put, List.getElem_toArray, List.getElem_cons_zero, List.getElem_cons_succ, List.setIfInBounds_toArray, List.set_cons_zero, List.set_cons_succ]
  refine anyU_one (i := 16) (v := ?_) (by kernel_rfl) rfl (YieldsS.of_if (Or.inl ⟨by rfl, ?_⟩)) ?_
  rotate_left
  · (intro wS hSw; (try dsimp only at hSw); (first | (go_simp; done) | (go_simp; with_reducible rfl)))
  try simp only [Act.put, List.getElem_toArray, List.getElem_cons_zero, List.getElem_cons_succ, List.setIfInBounds_toArray, List.set_cons_zero, List.set_cons_succ]
  refine anyU_make (i := 17) (by kernel_rfl) (by kernel_rfl) (fun wS hSw hDw => one_op rfl (by rfl) ?_)
  have q0 := hDw.1.1.1.val ((get_set_far (by omega) _).trans HB.out)
  have qf := hDw.1.1.1.free (8 + j)
  have HS := Lib.hid hSw
  have HD := Lib.hid hDw
  clear hSw hDw
  unfold Oper.wp
  go_simp
  have hSw := HS.out
  have hDw := HD.out
  clear HS HD
  refine ⟨hSw, fun w' => ((Blk w' t 44 ((cs.setIfInBounds (2 + j) (.pointer (some ⟨a, 0, none⟩))).setIfInBounds (8 + j) (.pointer (some ⟨y, 0, none⟩))) ∧ Kept (fun k => k = t) w w') ∧ ActAt w' a r ⟨7, 0, 0, 0, 0, false, false⟩) ∧ YOf w' y 2 ⟨7, 0, 0, 0, 0, false, false⟩, fun x y hx hy => ⟨⟨⟨hx.1.1.1.below_ hy hx.1.1.1.size, hx.1.1.2.trans (Kept.of_below hy)⟩, Blk.below_ hx.1.2 hy hx.1.2.size⟩, Blk.below_ hx.2 hy hx.2.size⟩, ⟨⟨⟨hDw.1.1.1.set_ _ _, hDw.1.1.2.set_ (Or.inl rfl) _⟩, Blk.far hDw.1.2 _ (fun e => hta e.symm)⟩, Blk.far hDw.2 _ (fun e => hty e.symm)⟩, ?_⟩
  clear hSw hDw q0 qf
  try simp only [Act.put, List.getElem_toArray, List.getElem_cons_zero, List.getElem_cons_succ, List.setIfInBounds_toArray, List.set_cons_zero, List.set_cons_succ]
  refine anyU_done (by kernel_rfl) (fun w7 hS7 hD7 => ?_) _
  refine NoPanic.normal ?_
  go_wp2
  exact bodyPost_end (results_none rfl _ _ _) rfl ⟨rfl, a, y, hla, hly, hay, hD7.1.2, hD7.2, hD7.1.1.1, hD7.1.1.2⟩
end
end Go.Proofs.Ytbenpnecjmpcbaa
