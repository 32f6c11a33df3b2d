/- Texts of this claim, one behind the other: Codp. -/
import Derived.Deep.DeepCutAuto
import Derived.BigQuiet
import Derived.Deep.QuietTactic
import Derived.Test.YtcffeokbipjaoaaGreatMtaa
import Derived.Test.YtcffeokbipjaoaaGreatMtav
namespace Go.Proofs.YtcffeokbipjaoaaGreat
open Go.ChangeShapes Go.WideShapes Go.ChangeAt Go.RowKit Kn
set_option linter.unusedVariables false
theorem chigh_any (t i j b : Int) (hb : Bool) (hH : highB t j b = hb) (w : World) :
   Calls Tryz.prog 218 #[.agg #[.int .i64 t, .int .i64 i], .int .i64 j, .int .i64 b] w fun e w' => e = .returned (.bool hb) ∧ Below w.heap.size w w' := by
 subst hH
 by_cases h1 : t ≤ j
 · have e : highB t j b = decide (1 < b) := by unfold highB; simp [h1]
   rw [e]; clear e
   go_enter Tryz.func218, Tryz.ntmps218
   go_wp2
   go_ret
   exact ⟨rfl, ((Below.refl _ _).alloc (Nat.le_refl _) _)⟩
 · have e : highB t j b = false := by unfold highB; simp [h1]
   rw [e]; clear e
   go_enter Tryz.func218, Tryz.ntmps218
   go_wp2
   go_ret
   exact ⟨rfl, ((Below.refl _ _).alloc (Nat.le_refl _) _)⟩
set_option maxHeartbeats 1000000 in
theorem cempty_any (s : Cst) (w : World) :
   Calls Tryz.prog 174 #[s.v] w fun e w' => e = .returned (emptyC s).v ∧ Below w.heap.size w w' := by
 obtain ⟨ab, fi, dr, ne, co, la⟩ := s
 go_enter Tryz.func174, Tryz.ntmps174
 go_wp2
 refine bodyPost_ret (v := (emptyC ⟨ab, fi, dr, ne, co, la⟩).v) (by simp [results, Tryz.results174, go_sem, emptyC]) rfl ⟨rfl, ?_⟩
 repeat (first | with_reducible exact Below.refl _ _ | refine Below.setCell ?_ (by simp) _ | refine Below.alloc ?_ (by simp) _ )
theorem six_cells {w : World} {g : Nat} {t : TypeId} {s : Cst} (h : Blk w g t #[.bool s.ab, .int .i64 s.fi, .bool s.dr, .int .i64 s.ne, .int .u64 s.co, .int .u64 s.la]) :
   w.cell? ⟨g, 0, none⟩ = some (.bool s.ab) ∧ w.cell? ⟨g, 1, none⟩ = some (.int .i64 s.fi) ∧ w.cell? ⟨g, 2, none⟩ = some (.bool s.dr) ∧ w.cell? ⟨g, 3, none⟩ = some (.int .i64 s.ne) ∧ w.cell? ⟨g, 4, none⟩ = some (.int .u64 s.co) ∧ w.cell? ⟨g, 5, none⟩ = some (.int .u64 s.la) :=
 ⟨h.val (i := 0) rfl, h.val (i := 1) rfl, h.val (i := 2) rfl, h.val (i := 3) rfl, h.val (i := 4) rfl, h.val (i := 5) rfl⟩
theorem after3 {w w1 : World} {s z : Cst} {t i : Int} {T U : TypeId}
   (hb : Below (((w.alloc (.cells #[.bool s.ab, .int .i64 s.fi, .bool s.dr, .int .i64 s.ne, .int .u64 s.co, .int .u64 s.la] T)).alloc (.cells #[.int .i64 t, .int .i64 i] U)).alloc (.cells #[.bool z.ab, .int .i64 z.fi, .bool z.dr, .int .i64 z.ne, .int .u64 z.co, .int .u64 z.la] T)).heap.size
     (((w.alloc (.cells #[.bool s.ab, .int .i64 s.fi, .bool s.dr, .int .i64 s.ne, .int .u64 s.co, .int .u64 s.la] T)).alloc (.cells #[.int .i64 t, .int .i64 i] U)).alloc (.cells #[.bool z.ab, .int .i64 z.fi, .bool z.dr, .int .i64 z.ne, .int .u64 z.co, .int .u64 z.la] T)) w1) :
   (w1.cell? ⟨w.heap.size, 0, none⟩ = some (.bool s.ab) ∧ w1.cell? ⟨w.heap.size, 1, none⟩ = some (.int .i64 s.fi) ∧ w1.cell? ⟨w.heap.size, 2, none⟩ = some (.bool s.dr) ∧ w1.cell? ⟨w.heap.size, 3, none⟩ = some (.int .i64 s.ne) ∧ w1.cell? ⟨w.heap.size, 4, none⟩ = some (.int .u64 s.co) ∧ w1.cell? ⟨w.heap.size, 5, none⟩ = some (.int .u64 s.la)) ∧
   (∀ k, w1.frozen? ⟨w.heap.size, k, none⟩ = false) ∧ (w1.cell? ⟨w.heap.size + 1, 0, none⟩ = some (.int .i64 t) ∧ w1.cell? ⟨w.heap.size + 1, 1, none⟩ = some (.int .i64 i)) ∧ (∀ k, w1.frozen? ⟨w.heap.size + 1, k, none⟩ = false) ∧
   (w1.cell? ⟨w.heap.size + 1 + 1, 0, none⟩ = some (.bool z.ab) ∧ w1.cell? ⟨w.heap.size + 1 + 1, 1, none⟩ = some (.int .i64 z.fi) ∧ w1.cell? ⟨w.heap.size + 1 + 1, 2, none⟩ = some (.bool z.dr) ∧ w1.cell? ⟨w.heap.size + 1 + 1, 3, none⟩ = some (.int .i64 z.ne) ∧ w1.cell? ⟨w.heap.size + 1 + 1, 4, none⟩ = some (.int .u64 z.co) ∧ w1.cell? ⟨w.heap.size + 1 + 1, 5, none⟩ = some (.int .u64 z.la)) ∧
   (∀ k, w1.frozen? ⟨w.heap.size + 1 + 1, k, none⟩ = false) ∧ w.heap.size + 1 + 1 < w1.heap.size := by
 have a := (((Blk.made w T #[.bool s.ab, .int .i64 s.fi, .bool s.dr, .int .i64 s.ne, .int .u64 s.co, .int .u64 s.la]).alloc_ (.cells #[.int .i64 t, .int .i64 i] U)).alloc_ (.cells #[.bool z.ab, .int .i64 z.fi, .bool z.dr, .int .i64 z.ne, .int .u64 z.co, .int .u64 z.la] T)).below_ hb (by simp; omega)
 have b := ((Blk.new_ (w := w.alloc (.cells #[.bool s.ab, .int .i64 s.fi, .bool s.dr, .int .i64 s.ne, .int .u64 s.co, .int .u64 s.la] T)) (g := w.heap.size + 1) (t := U) (cs := #[.int .i64 t, .int .i64 i]) (by simp)).alloc_ (.cells #[.bool z.ab, .int .i64 z.fi, .bool z.dr, .int .i64 z.ne, .int .u64 z.co, .int .u64 z.la] T)).below_ hb (by simp)
 have c := (Blk.new_ (w := (w.alloc (.cells #[.bool s.ab, .int .i64 s.fi, .bool s.dr, .int .i64 s.ne, .int .u64 s.co, .int .u64 s.la] T)).alloc (.cells #[.int .i64 t, .int .i64 i] U)) (g := w.heap.size + 1 + 1) (t := T) (cs := #[.bool z.ab, .int .i64 z.fi, .bool z.dr, .int .i64 z.ne, .int .u64 z.co, .int .u64 z.la]) (by simp)).below_ hb (by simp)
 have hz := hb.size
 simp at hz
 exact ⟨six_cells (s := s) a, a.free, ⟨b.val (i := 0) rfl, b.val (i := 1) rfl⟩, b.free, six_cells (s := z) c, c.free, by omega⟩
set_option maxHeartbeats 1000000 in
theorem cnote_tt (fi : Int) (dr : Bool) (ne co la : Int) (t i now j b : Int) (hH : highB t j b = true) (w : World) (now0 : -9223372036854775808 ≤ now) (now1 : now ≤ 9223372036854775807) (i0 : -9223372036854775808 ≤ i) (i1 : i ≤ 9223372036854775807) :
   Calls Tryz.prog 180 #[.agg #[.bool true, .int .i64 fi, .bool dr, .int .i64 ne, .int .u64 co, .int .u64 la], .agg #[.int .i64 t, .int .i64 i], .int .i64 now, .int .i64 j, .int .i64 b] w fun e w' => e = .returned (noteC ⟨true, fi, dr, ne, co, la⟩ i now true).v ∧ Below w.heap.size w w' := by
 have HH := Lib.hid hH; clear hH
 have hb := Below.refl w.heap.size w
 go_enter Tryz.func180, Tryz.ntmps180
 go_wp2_with (first
   | (go_at_call 218; refine (chigh_any _ _ _ _ _ HH.out _).mono ?_; rintro e w1 ⟨rfl, hb1⟩; obtain ⟨⟨p0, p1, p2, p3, p4, p5⟩, p6, ⟨q0, q1⟩, q2, ⟨r0, r1, r2, r3, r4, r5⟩, r6, hz⟩ := after3 (s := ⟨_, _, _, _, _, _⟩) (z := ⟨_, _, _, _, _, _⟩) hb1; replace hb := Below.trans (show Below w.heap.size w _ from (by (repeat (first | with_reducible exact Below.refl _ _ | with_reducible exact hb | refine Below.setCell ?_ (by have := hb.size; (try simp at this); (try simp); (try omega)) _ | refine Below.alloc ?_ (by have := hb.size; (try simp at this); (try simp); (try omega)) _ | with_reducible refine Below.drewN ?_ _ | with_reducible refine Below.drew ?_)))) (hb1.mono (by simp; try omega)); clear hb1)
   | (go_at_call 55; refine (fadd_any _ _ _ now0 now1 i0 i1).mono ?_; rintro e w2 ⟨rfl, rfl⟩))
 refine bodyPost_ret (v := (noteC ⟨true, fi, dr, ne, co, la⟩ i now true).v) (by simp [results, Tryz.results180, go_sem, noteC, *]) rfl ⟨rfl, ?_⟩
 exact (by (repeat (first | with_reducible exact Below.refl _ _ | with_reducible exact hb | refine Below.setCell ?_ (by have := hb.size; (try simp at this); (try simp); (try omega)) _ | refine Below.alloc ?_ (by have := hb.size; (try simp at this); (try simp); (try omega)) _ | with_reducible refine Below.drewN ?_ _ | with_reducible refine Below.drew ?_)))
set_option maxHeartbeats 1000000 in
theorem cnote_ft (fi : Int) (dr : Bool) (ne co la : Int) (t i now j b : Int) (hH : highB t j b = true) (w : World) (now0 : -9223372036854775808 ≤ now) (now1 : now ≤ 9223372036854775807) (i0 : -9223372036854775808 ≤ i) (i1 : i ≤ 9223372036854775807) :
   Calls Tryz.prog 180 #[.agg #[.bool false, .int .i64 fi, .bool dr, .int .i64 ne, .int .u64 co, .int .u64 la], .agg #[.int .i64 t, .int .i64 i], .int .i64 now, .int .i64 j, .int .i64 b] w fun e w' => e = .returned (noteC ⟨false, fi, dr, ne, co, la⟩ i now true).v ∧ Below w.heap.size w w' := by
 have HH := Lib.hid hH; clear hH
 have hb := Below.refl w.heap.size w
 go_enter Tryz.func180, Tryz.ntmps180
 go_wp2_with (first
   | (go_at_call 218; refine (chigh_any _ _ _ _ _ HH.out _).mono ?_; rintro e w1 ⟨rfl, hb1⟩; obtain ⟨⟨p0, p1, p2, p3, p4, p5⟩, p6, ⟨q0, q1⟩, q2, ⟨r0, r1, r2, r3, r4, r5⟩, r6, hz⟩ := after3 (s := ⟨_, _, _, _, _, _⟩) (z := ⟨_, _, _, _, _, _⟩) hb1; replace hb := Below.trans (show Below w.heap.size w _ from (by (repeat (first | with_reducible exact Below.refl _ _ | with_reducible exact hb | refine Below.setCell ?_ (by have := hb.size; (try simp at this); (try simp); (try omega)) _ | refine Below.alloc ?_ (by have := hb.size; (try simp at this); (try simp); (try omega)) _ | with_reducible refine Below.drewN ?_ _ | with_reducible refine Below.drew ?_)))) (hb1.mono (by simp; try omega)); clear hb1)
   | (go_at_call 55; refine (fadd_any _ _ _ now0 now1 i0 i1).mono ?_; rintro e w2 ⟨rfl, rfl⟩))
 refine bodyPost_ret (v := (noteC ⟨false, fi, dr, ne, co, la⟩ i now true).v) (by simp [results, Tryz.results180, go_sem, noteC, *]) rfl ⟨rfl, ?_⟩
 exact (by (repeat (first | with_reducible exact Below.refl _ _ | with_reducible exact hb | refine Below.setCell ?_ (by have := hb.size; (try simp at this); (try simp); (try omega)) _ | refine Below.alloc ?_ (by have := hb.size; (try simp at this); (try simp); (try omega)) _ | with_reducible refine Below.drewN ?_ _ | with_reducible refine Below.drew ?_)))
set_option maxHeartbeats 1000000 in
theorem cnote_tf (fi : Int) (dr : Bool) (ne co la : Int) (t i now j b : Int) (hH : highB t j b = false) (w : World) (now0 : -9223372036854775808 ≤ now) (now1 : now ≤ 9223372036854775807) (i0 : -9223372036854775808 ≤ i) (i1 : i ≤ 9223372036854775807) :
   Calls Tryz.prog 180 #[.agg #[.bool true, .int .i64 fi, .bool dr, .int .i64 ne, .int .u64 co, .int .u64 la], .agg #[.int .i64 t, .int .i64 i], .int .i64 now, .int .i64 j, .int .i64 b] w fun e w' => e = .returned (noteC ⟨true, fi, dr, ne, co, la⟩ i now false).v ∧ Below w.heap.size w w' := by
 have HH := Lib.hid hH; clear hH
 have hb := Below.refl w.heap.size w
 go_enter Tryz.func180, Tryz.ntmps180
 go_wp2_with (first
   | (go_at_call 218; refine (chigh_any _ _ _ _ _ HH.out _).mono ?_; rintro e w1 ⟨rfl, hb1⟩; obtain ⟨⟨p0, p1, p2, p3, p4, p5⟩, p6, ⟨q0, q1⟩, q2, ⟨r0, r1, r2, r3, r4, r5⟩, r6, hz⟩ := after3 (s := ⟨_, _, _, _, _, _⟩) (z := ⟨_, _, _, _, _, _⟩) hb1; replace hb := Below.trans (show Below w.heap.size w _ from (by (repeat (first | with_reducible exact Below.refl _ _ | with_reducible exact hb | refine Below.setCell ?_ (by have := hb.size; (try simp at this); (try simp); (try omega)) _ | refine Below.alloc ?_ (by have := hb.size; (try simp at this); (try simp); (try omega)) _ | with_reducible refine Below.drewN ?_ _ | with_reducible refine Below.drew ?_)))) (hb1.mono (by simp; try omega)); clear hb1)
   | (go_at_call 55; refine (fadd_any _ _ _ now0 now1 i0 i1).mono ?_; rintro e w2 ⟨rfl, rfl⟩))
 refine bodyPost_ret (v := (noteC ⟨true, fi, dr, ne, co, la⟩ i now false).v) (by simp [results, Tryz.results180, go_sem, noteC, *]) rfl ⟨rfl, ?_⟩
 exact (by (repeat (first | with_reducible exact Below.refl _ _ | with_reducible exact hb | refine Below.setCell ?_ (by have := hb.size; (try simp at this); (try simp); (try omega)) _ | refine Below.alloc ?_ (by have := hb.size; (try simp at this); (try simp); (try omega)) _ | with_reducible refine Below.drewN ?_ _ | with_reducible refine Below.drew ?_)))
set_option maxHeartbeats 1000000 in
theorem cnote_ff (fi : Int) (dr : Bool) (ne co la : Int) (t i now j b : Int) (hH : highB t j b = false) (w : World) (now0 : -9223372036854775808 ≤ now) (now1 : now ≤ 9223372036854775807) (i0 : -9223372036854775808 ≤ i) (i1 : i ≤ 9223372036854775807) :
   Calls Tryz.prog 180 #[.agg #[.bool false, .int .i64 fi, .bool dr, .int .i64 ne, .int .u64 co, .int .u64 la], .agg #[.int .i64 t, .int .i64 i], .int .i64 now, .int .i64 j, .int .i64 b] w fun e w' => e = .returned (noteC ⟨false, fi, dr, ne, co, la⟩ i now false).v ∧ Below w.heap.size w w' := by
 have HH := Lib.hid hH; clear hH
 have hb := Below.refl w.heap.size w
 go_enter Tryz.func180, Tryz.ntmps180
 go_wp2_with (first
   | (go_at_call 218; refine (chigh_any _ _ _ _ _ HH.out _).mono ?_; rintro e w1 ⟨rfl, hb1⟩; obtain ⟨⟨p0, p1, p2, p3, p4, p5⟩, p6, ⟨q0, q1⟩, q2, ⟨r0, r1, r2, r3, r4, r5⟩, r6, hz⟩ := after3 (s := ⟨_, _, _, _, _, _⟩) (z := ⟨_, _, _, _, _, _⟩) hb1; replace hb := Below.trans (show Below w.heap.size w _ from (by (repeat (first | with_reducible exact Below.refl _ _ | with_reducible exact hb | refine Below.setCell ?_ (by have := hb.size; (try simp at this); (try simp); (try omega)) _ | refine Below.alloc ?_ (by have := hb.size; (try simp at this); (try simp); (try omega)) _ | with_reducible refine Below.drewN ?_ _ | with_reducible refine Below.drew ?_)))) (hb1.mono (by simp; try omega)); clear hb1)
   | (go_at_call 55; refine (fadd_any _ _ _ now0 now1 i0 i1).mono ?_; rintro e w2 ⟨rfl, rfl⟩))
 refine bodyPost_ret (v := (noteC ⟨false, fi, dr, ne, co, la⟩ i now false).v) (by simp [results, Tryz.results180, go_sem, noteC, *]) rfl ⟨rfl, ?_⟩
 exact (by (repeat (first | with_reducible exact Below.refl _ _ | with_reducible exact hb | refine Below.setCell ?_ (by have := hb.size; (try simp at this); (try simp); (try omega)) _ | refine Below.alloc ?_ (by have := hb.size; (try simp at this); (try simp); (try omega)) _ | with_reducible refine Below.drewN ?_ _ | with_reducible refine Below.drew ?_)))
theorem cnote_any (s : Cst) (t i now j b : Int) (hb : Bool) (hH : highB t j b = hb) (w : World) (now0 : -9223372036854775808 ≤ now) (now1 : now ≤ 9223372036854775807) (i0 : -9223372036854775808 ≤ i) (i1 : i ≤ 9223372036854775807) :
   Calls Tryz.prog 180 #[s.v, .agg #[.int .i64 t, .int .i64 i], .int .i64 now, .int .i64 j, .int .i64 b] w fun e w' => e = .returned (noteC s i now hb).v ∧ Below w.heap.size w w' := by
 obtain ⟨ab, fi, dr, ne, co, la⟩ := s
 cases hb <;> cases ab
 · exact cnote_ff _ _ _ _ _ _ _ _ _ _ hH w now0 now1 i0 i1
 · exact cnote_tf _ _ _ _ _ _ _ _ _ _ hH w now0 now1 i0 i1
 · exact cnote_ft _ _ _ _ _ _ _ _ _ _ hH w now0 now1 i0 i1
 · exact cnote_tt _ _ _ _ _ _ _ _ _ _ hH w now0 now1 i0 i1
end Go.Proofs.YtcffeokbipjaoaaGreat
