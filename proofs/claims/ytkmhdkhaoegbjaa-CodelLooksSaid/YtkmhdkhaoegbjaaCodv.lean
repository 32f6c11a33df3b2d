/- The document's example of layer 8; what a look says, in plain words. -/
import Derived.Test.YtkmhdkhaoegbjaaCods
namespace Go.Proofs.Ytkmhdkhaoegbjaa
open Go.ChangeShapes Go.WideShapes Go.ChangeAt Go.RowKit Kn
set_option linter.unusedVariables false
theorem law_one (i : Int) (i0 : 0 ≤ i) : lawZ i 1 = i := by
  have h := lawZ_square i 1 i0 (by omega)
  simpa using h
theorem sat_small (x : Int) (h0 : -9223372036854775808 ≤ x) (h1 : x ≤ 9223372036854775807) : sat x = x := sat_id x h0 h1
theorem look_a : lookC ⟨false, 0, false, 0, 0, 0⟩ 100 0 true = (⟨true, 100, false, 0, 0, 0⟩, 0) := by
  unfold lookC mayC consC noteC mayC
  simp [sat]
theorem look_b : lookC ⟨true, 100, false, 0, 0, 0⟩ 100 100 true = (⟨true, 100, true, 200, 1, 1⟩, 2) := by
  have l := law_one 100 (by omega)
  have hn : beginN ⟨true, 100, false, 0, 0, 0⟩ 100 100 = 1 := by unfold beginN; simp
  unfold lookC mayC consC noteC mayC beginC
  simp [hn, l, sat]
theorem look_c : lookC ⟨true, 100, true, 200, 1, 1⟩ 100 200 true = (⟨true, 100, true, 200, 2, 1⟩, 1) := by
  unfold lookC mayC consC noteC mayC timeC upC
  simp
set_option maxHeartbeats 2000000 in
theorem awake8 (w : World) : Calls Try.prog 9 #[] w fun e w' => e = .returned (.bool true) ∧ Below w.heap.size w w' := by
  have h2 : highB 5 5 2 = true := by decide
  go_enter Try.func9, Try.ntmps9
  go_upto_region 2 with fail
  refine wp_worldc (fun wx => Blk wx w.heap.size 26 #[.int .i64 5, .int .i64 100] ∧ Below w.heap.size w wx) ⟨Blk.made w _ _, (Below.refl _ _).alloc (Nat.le_refl _) _⟩ ?_
  rintro w0 ⟨bp, hb⟩
  have p0 := bp.val (i := 0) rfl
  have p1 := bp.val (i := 1) rfl
  have p2 := bp.free
  go_wp2_with fail
  refine (clook_any ⟨false, 0, false, 0, 0, 0⟩ _ _ _ _ _ true h2 _ (by omega) (by omega) (by omega) (by omega) ⟨by decide, by decide, by decide, by decide, by decide, by decide, by decide, by decide⟩).mono ?_
  rw [look_a]
  rintro e w1 ⟨rfl, hb1⟩
  go_upto_region 3 with fail
  refine wp_worldc (fun wx => Blk wx w.heap.size 26 #[.int .i64 5, .int .i64 100] ∧ Stt wx w1.heap.size 24 ⟨true, 100, false, 0, 0, 0⟩ ∧ Below w.heap.size w wx) ⟨(bp.below_ hb1 bp.size).alloc_ _, Blk.made w1 _ _, (under0 hb hb1).alloc (under0 hb hb1).size _⟩ ?_
  have hle : w.heap.size ≤ w1.heap.size := (under0 hb hb1).size
  clear bp hb p0 p1 p2 hb1
  rintro w2 ⟨bp, bs, hb⟩
  have p0 := bp.val (i := 0) rfl
  have p1 := bp.val (i := 1) rfl
  have p2 := bp.free
  obtain ⟨s0, s1, s2, s3, s4, s5⟩ := six_cells (s := ⟨true, 100, false, 0, 0, 0⟩) bs
  have s6 := Blk.free bs
  go_wp2_with fail
  refine (clook_any ⟨true, 100, false, 0, 0, 0⟩ _ _ _ _ _ true h2 _ (by omega) (by omega) (by omega) (by omega) ⟨by decide, by decide, by decide, by decide, by decide, by decide, by decide, by decide⟩).mono ?_
  rw [look_b]
  rintro e w3 ⟨rfl, hb1⟩
  have bs1 := Blk.below_ bs hb1 (Blk.size bs)
  clear s0 s1 s2 s3 s4 s5 s6 p0 p1 p2
  have s6 := Blk.free bs1
  obtain ⟨s0, s1, s2, s3, s4, s5⟩ := six_cells (s := ⟨true, 100, false, 0, 0, 0⟩) bs1
  have hne : w.heap.size ≠ w1.heap.size := Blk.other bp bs (by decide)
  go_upto_region 5 with fail
  refine wp_worldc (fun wx => Blk wx w.heap.size 26 #[.int .i64 5, .int .i64 100] ∧ Stt wx w1.heap.size 24 ⟨true, 100, true, 200, 1, 1⟩ ∧ Below w.heap.size w wx) ⟨(bp.below_ hb1 bp.size).far6 hne _ _ _ _ _ _, (show Stt _ _ _ ⟨true, 100, false, 0, 0, 0⟩ from bs1).store _ _ _ _ _ _, below6 (under0 hb hb1) hle _ _ _ _ _ _⟩ ?_
  clear bp hb hb1 bs bs1 s0 s1 s2 s3 s4 s5 s6
  rintro w4 ⟨bp, bs, hb⟩
  have p0 := bp.val (i := 0) rfl
  have p1 := bp.val (i := 1) rfl
  have p2 := bp.free
  obtain ⟨s0, s1, s2, s3, s4, s5⟩ := six_cells (s := ⟨true, 100, true, 200, 1, 1⟩) bs
  have s6 := Blk.free bs
  go_wp2_with fail
  refine (clook_any ⟨true, 100, true, 200, 1, 1⟩ _ _ _ _ _ true h2 _ (by omega) (by omega) (by omega) (by omega) ⟨by decide, by decide, by decide, by decide, by decide, by decide, by decide, by decide⟩).mono ?_
  rw [look_c]
  rintro e w5 ⟨rfl, hb1⟩
  clear s0 s1 s2 s3 s4 s5 s6 p0 p1 p2
  go_wp2_with fail
  go_ret
  exact ⟨rfl, (under0 hb hb1).alloc (under0 hb hb1).size _⟩
end Go.Proofs.Ytkmhdkhaoegbjaa
