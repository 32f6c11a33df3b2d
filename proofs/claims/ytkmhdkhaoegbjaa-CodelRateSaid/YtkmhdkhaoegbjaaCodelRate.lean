/- CodelRate is true of every interval's number and every start, and changes nothing that it was given. -/
import Derived.Test.YtkmhdkhaoegbjaaCodw
import Derived.Test.YtkmhdkhaoegbjaaRow
import Derived.Test.YtkmhdkhaoegbjaaRowb
import Derived.Test.YtkmhdkhaoegbjaaRows
import Derived.WalkKit
import Derived.ProofKit
import Derived.OpenShut
import Derived.Deep.DeepCutAuto
import Derived.Deep.CutBlock
namespace Go.Proofs.Ytkmhdkhaoegbjaa.codelRate
open Go.ChangeShapes Go.WideShapes Go.ChangeAt Go.RowKit Kn
set_option linter.unusedVariables false
theorem own : ownKnob Try.prog.godebug = none := by kernel_rfl
theorem laidOut : laidOutB Try.prog = true := by kernel_rfl
theorem reads : (Try.f6.params.toList.all fun t => Try.prog.readableRec t && decide (t < Try.prog.types.size)) = true := by kernel_rfl
theorem rate0 (i now : Int) (h0 : -9223372036854775808 ≤ now + i) (h1 : now + i ≤ 9223372036854775807) : lookC ⟨false, 0, false, 0, 0, 0⟩ i now true = (⟨true, now + i, false, 0, 0, 0⟩, 0) := by
  have hm : mayC ⟨false, 0, false, 0, 0, 0⟩ now true = false := by unfold mayC; rfl
  unfold lookC consC
  rw [hm]
  simp [noteC, sat_id _ h0 h1]
theorem rateA (fi i now : Int) (h : now < fi) : lookC ⟨true, fi, false, 0, 0, 0⟩ i now true = (⟨true, fi, false, 0, 0, 0⟩, 0) := by
  have hm : mayC ⟨true, fi, false, 0, 0, 0⟩ now true = false := by unfold mayC; simp; omega
  unfold lookC consC
  rw [hm, noteC_ab _ _ _ rfl]
  rfl
theorem rateB (fi i now : Int) (h : fi ≤ now) (h0 : -9223372036854775808 ≤ now + lawZ i 1) (h1 : now + lawZ i 1 ≤ 9223372036854775807) : lookC ⟨true, fi, false, 0, 0, 0⟩ i now true = (⟨true, fi, true, now + lawZ i 1, 1, 1⟩, 2) := by
  have hm : mayC ⟨true, fi, false, 0, 0, 0⟩ now true = true := by unfold mayC; simp; omega
  have hc : consC ⟨true, fi, false, 0, 0, 0⟩ i now true = ⟨true, fi, false, 0, 0, 0⟩ := by unfold consC; rw [noteC_ab _ _ _ rfl]; rfl
  have hn : beginN ⟨true, fi, false, 0, 0, 0⟩ i now = 1 := by unfold beginN; simp
  unfold lookC
  rw [hm, hc]
  show (beginC _ _ _, (2 : Int)) = _
  unfold beginC
  rw [hn, sat_id _ h0 h1]
theorem rateC (fi ne co la i now : Int) (h : fi ≤ now) (h2 : now < ne) : lookC ⟨true, fi, true, ne, co, la⟩ i now true = (⟨true, fi, true, ne, co, la⟩, 0) := by
  have hm : mayC ⟨true, fi, true, ne, co, la⟩ now true = true := by unfold mayC; simp; omega
  have hc : consC ⟨true, fi, true, ne, co, la⟩ i now true = ⟨true, fi, true, ne, co, la⟩ := by unfold consC; rw [noteC_ab _ _ _ rfl, hm]; rfl
  unfold lookC
  rw [hm, hc]
  show timeC _ _ = _
  unfold timeC
  rw [if_pos h2]
theorem rateD (fi ne co la i now : Int) (h : fi ≤ now) (h2 : ¬ now < ne) (h3 : co < 18446744073709551615) : lookC ⟨true, fi, true, ne, co, la⟩ i now true = (⟨true, fi, true, ne, co + 1, la⟩, 1) := by
  have hm : mayC ⟨true, fi, true, ne, co, la⟩ now true = true := by unfold mayC; simp; omega
  have hc : consC ⟨true, fi, true, ne, co, la⟩ i now true = ⟨true, fi, true, ne, co, la⟩ := by unfold consC; rw [noteC_ab _ _ _ rfl, hm]; rfl
  unfold lookC
  rw [hm, hc]
  show timeC _ _ = _
  unfold timeC upC
  rw [if_neg h2, if_pos h3]
theorem rateE (fi ne co la i now : Int) (h : fi ≤ now) (h0 : -9223372036854775808 ≤ ne + lawZ i co) (h1 : ne + lawZ i co ≤ 9223372036854775807) (h2 : now < ne + lawZ i co) : moreC ⟨true, fi, true, ne, co, la⟩ i now true = (⟨true, fi, true, ne + lawZ i co, co, la⟩, 0) := by
  have hm : mayC ⟨true, fi, true, ne, co, la⟩ now true = true := by unfold mayC; simp; omega
  have hc : consC ⟨true, fi, true, ne, co, la⟩ i now true = ⟨true, fi, true, ne, co, la⟩ := by unfold consC; rw [noteC_ab _ _ _ rfl, hm]; rfl
  unfold moreC
  rw [hm, hc]
  show timeC ⟨true, fi, true, sat (ne + lawZ i co), co, la⟩ now = _
  unfold timeC
  rw [sat_id _ h0 h1, if_pos h2]
theorem ok_of {ab dr : Bool} {fi ne co la : Int} (f0 : -9223372036854775808 ≤ fi) (f1 : fi ≤ 9223372036854775807) (n0 : -9223372036854775808 ≤ ne) (n1 : ne ≤ 9223372036854775807) (c0 : 0 ≤ co) (c1 : co ≤ 18446744073709551615) (l0 : 0 ≤ la) (l1 : la ≤ 18446744073709551615) : (⟨ab, fi, dr, ne, co, la⟩ : Cst).ok := ⟨f0, f1, n0, n1, c0, c1, l0, l1⟩
theorem law_zero (i : Int) (i0 : 0 ≤ i) : lawZ i 0 = i := by
  have h : lawZ i 0 = lawZ i 1 := by unfold lawZ lawN; rfl
  rw [h]; exact law_one i i0
theorem law_top (i n : Int) (i0 : 0 ≤ i) : lawZ i n ≤ i := by
  unfold lawZ; rw [if_neg (by omega)]; exact law_le i n i0
theorem law_next (i n : Int) (i0 : 0 ≤ i) (n0 : 1 ≤ n) (h : 2 ≤ lawZ i n) : 1 ≤ lawZ i (n + 1) := by
  unfold lawZ at h ⊢
  rw [if_neg (by omega)] at h ⊢
  unfold lawN at h ⊢
  have hm : max n 1 = n := by omega
  have hm2 : max (n + 1) 1 = n + 1 := by omega
  rw [hm] at h
  rw [hm2]
  have k0 : 0 ≤ i * i := Int.mul_nonneg i0 i0
  have a := root_le (i * i / n) (Int.ediv_nonneg k0 (by omega))
  have b : 4 ≤ i * i / n := by
    have : 2 * 2 ≤ rootN (i * i / n) * rootN (i * i / n) := Int.mul_le_mul h h (by omega) (by omega)
    omega
  have c : 4 * n ≤ i * i := by
    have := Int.mul_le_of_le_ediv (by omega) b
    omega
  have d : 1 ≤ i * i / (n + 1) := Int.le_ediv_of_mul_le (by omega) (by omega)
  have e := root_lt (i * i / (n + 1)) (by omega)
  have f := root0 (i * i / (n + 1))
  rcases Int.lt_or_le (rootN (i * i / (n + 1))) 1 with hlt | hle
  · have g : rootN (i * i / (n + 1)) = 0 := by omega
    rw [g] at e
    omega
  · exact hle
/-- The params' block and the state's. -/
structure Lr (v w : World) (p q : Nat) (i : Int) (s : Cst) : Prop where
  b : Blk w p 26 #[.int .i64 1, .int .i64 i]
  a : Stt w q 24 s
  hp : v.heap.size ≤ p
  hq : v.heap.size ≤ q
  ne : p ≠ q
  be : Below v.heap.size v w
section
variable {v w w' : World} {s : Cst} {i : Int} {p q : Nat}
theorem Lr.below (h : Lr v w p q i s) (hb : Below w.heap.size w w') : Lr v w' p q i s := ⟨h.b.below_ hb h.b.size, Blk.below_ h.a hb (Blk.size h.a), h.hp, h.hq, h.ne, under0 h.be hb⟩
theorem Lr.store (h : Lr v w p q i s) (a : Bool) (f : Int) (d : Bool) (n c l : Int) : Lr v ((((((w.setCell ⟨q, 0, none⟩ (.bool a)).setCell ⟨q, 1, none⟩ (.int .i64 f)).setCell ⟨q, 2, none⟩ (.bool d)).setCell ⟨q, 3, none⟩ (.int .i64 n)).setCell ⟨q, 4, none⟩ (.int .u64 c)).setCell ⟨q, 5, none⟩ (.int .u64 l)) p q i ⟨a, f, d, n, c, l⟩ :=
  ⟨h.b.far6 h.ne a f d n c l, h.a.store a f d n c l, h.hp, h.hq, h.ne, below6 h.be h.hq a f d n c l⟩
theorem Lr.facts (h : Lr v w p q i s) :
    (w.cell? ⟨q, 0, none⟩ = some (.bool s.ab) ∧ w.cell? ⟨q, 1, none⟩ = some (.int .i64 s.fi) ∧ w.cell? ⟨q, 2, none⟩ = some (.bool s.dr) ∧ w.cell? ⟨q, 3, none⟩ = some (.int .i64 s.ne) ∧ w.cell? ⟨q, 4, none⟩ = some (.int .u64 s.co) ∧ w.cell? ⟨q, 5, none⟩ = some (.int .u64 s.la)) ∧
    (∀ k, w.frozen? ⟨q, k, none⟩ = false) ∧ (w.cell? ⟨p, 0, none⟩ = some (.int .i64 1) ∧ w.cell? ⟨p, 1, none⟩ = some (.int .i64 i)) ∧ (∀ k, w.frozen? ⟨p, k, none⟩ = false) ∧ p < w.heap.size ∧ q < w.heap.size :=
  ⟨six_cells (s := s) h.a, Blk.free h.a, ⟨h.b.val (i := 0) rfl, h.b.val (i := 1) rfl⟩, h.b.free, h.b.size, Blk.size h.a⟩
end
theorem wrapS (x : Int) (h0 : -9223372036854775808 ≤ x) (h1 : x ≤ 9223372036854775807) : IntKind.i64.wrap x = x := by rw [IntKind.wrap_i64]; omega
theorem wrapU (x : Int) (h0 : 0 ≤ x) (h1 : x ≤ 18446744073709551615) : IntKind.u64.wrap x = x := by simp only [IntKind.wrap, IntKind.bits, IntKind.signed]; simp; omega
theorem tmod_in (x : Int) : -1099511627776 < x.tmod 1099511627776 ∧ x.tmod 1099511627776 < 1099511627776 := by
  constructor
  · have := Int.lt_tmod_of_pos x (b := 1099511627776) (by omega); omega
  · exact Int.tmod_lt_of_pos x (by omega)
set_option linter.unusedSimpArgs false
set_option maxRecDepth 100000 in
set_option maxHeartbeats 4000000 in
theorem walk (n start : Int) (w : World) (n0 : 0 ≤ n) (n1 : n ≤ 65535) (st0 : -9223372036854775808 ≤ start) (st1 : start ≤ 9223372036854775807) :
    Calls Try.prog 6 #[.int .u16 n, .int .i64 start] w fun e w' => e = .returned (.bool true) ∧ Below w.heap.size w w' := by
  obtain ⟨m, hm⟩ : ∃ m, n.tmod 60 = m := ⟨_, rfl⟩
  have hm2 : 0 ≤ m ∧ m ≤ 59 := by rw [← hm]; exact ⟨Int.tmod_nonneg _ n0, by have := Int.tmod_lt_of_pos n (b := 60) (by omega); omega⟩
  obtain ⟨I, hI⟩ : ∃ I, 1 + m = I := ⟨_, rfl⟩
  have I0 : 1 ≤ I := by omega
  have I1 : I ≤ 60 := by omega
  obtain ⟨N, hN⟩ : ∃ N, start.tmod 1099511627776 = N := ⟨_, rfl⟩
  have hn2 := tmod_in start
  rw [hN] at hn2
  obtain ⟨F, hF⟩ : ∃ F, N + I = F := ⟨_, rfl⟩
  have ww0 : IntKind.u16.wrap m = m := by simp only [IntKind.wrap, IntKind.bits, IntKind.signed]; simp; omega
  have ww1 : IntKind.i64.wrap m = m := wrapS _ (by omega) (by omega)
  have ww2 : IntKind.i64.wrap I = I := wrapS _ (by omega) (by omega)
  have ww3 : IntKind.i64.wrap N = N := wrapS _ (by omega) (by omega)
  have ww4 : IntKind.i64.wrap F = F := wrapS _ (by omega) (by omega)
  have ww5 : IntKind.i64.wrap (6 * I) = 6 * I := wrapS _ (by omega) (by omega)
  have ww6 : IntKind.i64.wrap (F + 6 * I) = F + 6 * I := wrapS _ (by omega) (by omega)
  have hh : highB 1 1 2 = true := by decide
  have hr0 := rate0 I N (by omega) (by omega)
  rw [hF] at hr0
  have HR := Lib.hid hr0
  clear hr0
  go_enter Try.func6, Try.ntmps6
  go_wp2_with fail
  refine (awake8 _).mono ?_
  rintro e w1 ⟨rfl, hb1⟩
  go_upto_region 4 with fail
  refine wp_worldc (fun wx => Blk wx w1.heap.size 26 #[.int .i64 1, .int .i64 I] ∧ Below w.heap.size w wx) ⟨Blk.made _ _ _, hb1.alloc hb1.size _⟩ ?_
  have hw1 := hb1.size
  clear hb1
  rintro w0 ⟨bp, hb0⟩
  have m0 := bp.val (i := 0) rfl
  have m1 := bp.val (i := 1) rfl
  have m2 := bp.free
  go_wp2_with fail
  refine (clook_any ⟨false, 0, false, 0, 0, 0⟩ _ _ _ _ _ true hh _ (by omega) (by omega) (by omega) (by omega) ⟨by decide, by decide, by decide, by decide, by decide, by decide, by decide, by decide⟩).mono ?_
  rw [HR.out]
  rintro e w2 ⟨rfl, hb2⟩
  go_upto_region 6 with fail
  refine wp_worldc (fun wx => Lr w wx w1.heap.size w2.heap.size I ⟨true, F, false, 0, 0, 0⟩) ⟨(bp.below_ hb2 bp.size).alloc_ _, Blk.made w2 _ _, hw1, (under0 hb0 hb2).size, Nat.ne_of_lt (Blk.size (bp.below_ hb2 bp.size)), (under0 hb0 hb2).alloc (under0 hb0 hb2).size _⟩ ?_
  clear bp hb0 m0 m1 m2 hb2
  rintro w3 lr
  obtain ⟨⟨p0, p1, p2, p3, p4, p5⟩, p6, ⟨m0, m1⟩, m2, z1, z2⟩ := lr.facts
  go_wp2_with fail
  go_loopw [6, 8, 10, 11] (fun s6 s8 s10 s11 wr => ∃ (now nx c : Int) (dr : Bool) (sn sl v : Int), s6 = .int .i64 now ∧ s8 = .int .i64 v ∧ s10 = .int .i64 nx ∧ s11 = .int .u64 c ∧ F - 60 ≤ now ∧ now ≤ F + 6 * I ∧ now < nx ∧ nx ≤ F + c * I ∧ 0 ≤ c ∧ (dr = false → c = 0 ∧ nx = F ∧ sn = 0 ∧ sl = 0) ∧ (dr = true → 1 ≤ c ∧ c ≤ now - F + 1 ∧ sn = nx ∧ sl = 1 ∧ 2 ≤ lawZ I c) ∧ Lr w wr w1.heap.size w2.heap.size I ⟨true, F, dr, sn, c, sl⟩) (fun a _ _ _ _ => (F + 6 * I - intOf a).toNat)
  case atStart => exact ⟨N, F, 0, false, 0, 0, 0, rfl, rfl, rfl, rfl, by omega, by omega, by omega, by omega, by omega, fun _ => ⟨rfl, rfl, rfl, rfl⟩, (fun h => by cases h), lr⟩
  case round =>
    clear p0 p1 p2 p3 p4 p5 p6 m0 m1 m2 z1 z2
    clear lr
    obtain ⟨now, nx, c, dr, sn, sl, v, rfl, rfl, rfl, rfl, a0, a1, a2, a3, a4, hA, hB, lr⟩ := hrel
    have hfi : (fun x : Int => x) F = F := rfl
    clear hfi
    have wn : IntKind.i64.wrap (now + 1) = now + 1 := wrapS _ (by omega) (by omega)
    obtain ⟨⟨p0, p1, p2, p3, p4, p5⟩, p6, ⟨m0, m1⟩, m2, z1, z2⟩ := lr.facts
    by_cases hlt : now < F + 6 * I
    · cases dr
      · obtain ⟨rfl, rfl, rfl, rfl⟩ := hA rfl
        clear hA hB
        by_cases hf : now + 1 < nx
        · go_wp2_with fail
          refine (clook_any ⟨true, nx, false, 0, 0, 0⟩ _ _ _ _ _ true hh _ (by omega) (by omega) (by omega) (by omega) (show (⟨true, nx, false, 0, 0, 0⟩ : Cst).ok from ok_of (by omega) (by omega) (by omega) (by omega) (by omega) (by omega) (by omega) (by omega))).mono ?_
          rw [rateA nx I (now + 1) hf]
          rintro e w4 ⟨rfl, hb4⟩
          replace lr := lr.below hb4
          clear hb4
          clear p0 p1 p2 p3 p4 p5 p6 m0 m1 m2 z1 z2
          obtain ⟨⟨p0, p1, p2, p3, p4, p5⟩, p6, ⟨m0, m1⟩, m2, z1, z2⟩ := lr.facts
          go_upto_region 13 with fail
          refine wp_worldc (fun wx => Lr w wx w1.heap.size w2.heap.size I ⟨true, nx, false, 0, 0, 0⟩) (lr.store _ _ _ _ _ _) ?_
          clear p0 p1 p2 p3 p4 p5 p6 m0 m1 m2 z1 z2
          clear lr
          rintro w5 lr
          obtain ⟨⟨p0, p1, p2, p3, p4, p5⟩, p6, ⟨m0, m1⟩, m2, z1, z2⟩ := lr.facts
          go_wp2_with fail
          refine (rrlaw_z _ _ _ (by omega) (by omega) (by omega)).mono ?_
          rintro e w6 ⟨rfl, hbx⟩
          replace lr := lr.below hbx
          clear hbx
          clear p0 p1 p2 p3 p4 p5 p6 m0 m1 m2 z1 z2
          obtain ⟨⟨p0, p1, p2, p3, p4, p5⟩, p6, ⟨m0, m1⟩, m2, z1, z2⟩ := lr.facts
          by_cases hl2 : lawZ I 0 < 2
          · go_wp2_with fail
            go_ret
            exact ⟨rfl, lr.be⟩
          · go_wp2_with fail
            go_roundw
            case rel => exact ⟨now + 1, nx, 0, false, 0, 0, 0, rfl, rfl, rfl, rfl, by omega, by omega, by omega, by omega, by omega, fun _ => ⟨rfl, rfl, rfl, rfl⟩, (fun h => by cases h), lr⟩
            case measure => simp [intOf]; omega
        · have e1 : now + 1 = nx := by omega
          have q1 := law_one I (by omega)
          have wc1 : IntKind.i64.wrap (nx + I) = nx + I := wrapS _ (by omega) (by omega)
          have hr1 := rateB nx I nx (by omega) (by omega) (by omega)
          rw [q1] at hr1
          go_wp2_with fail
          refine (clook_any ⟨true, nx, false, 0, 0, 0⟩ _ _ _ _ _ true hh _ (by omega) (by omega) (by omega) (by omega) (show (⟨true, nx, false, 0, 0, 0⟩ : Cst).ok from ok_of (by omega) (by omega) (by omega) (by omega) (by omega) (by omega) (by omega) (by omega))).mono ?_
          rw [hr1]
          rintro e w4 ⟨rfl, hb4⟩
          replace lr := lr.below hb4
          clear hb4
          clear p0 p1 p2 p3 p4 p5 p6 m0 m1 m2 z1 z2
          obtain ⟨⟨p0, p1, p2, p3, p4, p5⟩, p6, ⟨m0, m1⟩, m2, z1, z2⟩ := lr.facts
          go_upto_region 13 with fail
          refine wp_worldc (fun wx => Lr w wx w1.heap.size w2.heap.size I ⟨true, nx, true, nx + I, 1, 1⟩) (lr.store _ _ _ _ _ _) ?_
          clear p0 p1 p2 p3 p4 p5 p6 m0 m1 m2 z1 z2
          clear lr
          rintro w5 lr
          obtain ⟨⟨p0, p1, p2, p3, p4, p5⟩, p6, ⟨m0, m1⟩, m2, z1, z2⟩ := lr.facts
          go_wp2_with fail
          refine (rrlaw_z _ _ _ (by omega) (by omega) (by omega)).mono ?_
          rw [q1]
          rintro e w7 ⟨rfl, hbx⟩
          replace lr := lr.below hbx
          clear hbx
          clear p0 p1 p2 p3 p4 p5 p6 m0 m1 m2 z1 z2
          obtain ⟨⟨p0, p1, p2, p3, p4, p5⟩, p6, ⟨m0, m1⟩, m2, z1, z2⟩ := lr.facts
          go_wp2_with fail
          refine (rrlaw_z _ _ _ (by omega) (by omega) (by omega)).mono ?_
          rintro e w6 ⟨rfl, hbx⟩
          replace lr := lr.below hbx
          clear hbx
          clear p0 p1 p2 p3 p4 p5 p6 m0 m1 m2 z1 z2
          obtain ⟨⟨p0, p1, p2, p3, p4, p5⟩, p6, ⟨m0, m1⟩, m2, z1, z2⟩ := lr.facts
          by_cases hl2 : lawZ I 1 < 2
          · go_wp2_with fail
            go_ret
            exact ⟨rfl, lr.be⟩
          · go_wp2_with fail
            go_roundw
            case rel => exact ⟨nx, nx + I, 1, true, nx + I, 1, 2, rfl, rfl, rfl, rfl, by omega, by omega, by omega, by omega, by omega, (fun h => by cases h), fun _ => ⟨by omega, by omega, by omega, rfl, by omega⟩, lr⟩
            case measure => simp [intOf]; omega
      · obtain ⟨b0, b1, rfl, rfl, b2⟩ := hB rfl
        clear hA hB
        have hl0 := lawZ_0 I c
        have ht0 := law_top I c (by omega)
        have c9 : c ≤ 1000 := by omega
        have hcI : c * I ≤ 1000 * 60 := Int.mul_le_mul c9 I1 (by omega) (by omega)
        by_cases hf : now + 1 < sn
        · go_wp2_with fail
          refine (clook_any ⟨true, F, true, sn, c, 1⟩ _ _ _ _ _ true hh _ (by omega) (by omega) (by omega) (by omega) (show (⟨true, F, true, sn, c, 1⟩ : Cst).ok from ok_of (by omega) (by omega) (by omega) (by omega) (by omega) (by omega) (by omega) (by omega))).mono ?_
          rw [rateC F sn c 1 I (now + 1) (by omega) hf]
          rintro e w4 ⟨rfl, hb4⟩
          replace lr := lr.below hb4
          clear hb4
          clear p0 p1 p2 p3 p4 p5 p6 m0 m1 m2 z1 z2
          obtain ⟨⟨p0, p1, p2, p3, p4, p5⟩, p6, ⟨m0, m1⟩, m2, z1, z2⟩ := lr.facts
          go_upto_region 13 with fail
          refine wp_worldc (fun wx => Lr w wx w1.heap.size w2.heap.size I ⟨true, F, true, sn, c, 1⟩) (lr.store _ _ _ _ _ _) ?_
          clear p0 p1 p2 p3 p4 p5 p6 m0 m1 m2 z1 z2
          clear lr
          rintro w5 lr
          obtain ⟨⟨p0, p1, p2, p3, p4, p5⟩, p6, ⟨m0, m1⟩, m2, z1, z2⟩ := lr.facts
          go_wp2_with fail
          refine (rrlaw_z _ _ _ (by omega) (by omega) (by omega)).mono ?_
          rintro e w6 ⟨rfl, hbx⟩
          replace lr := lr.below hbx
          clear hbx
          clear p0 p1 p2 p3 p4 p5 p6 m0 m1 m2 z1 z2
          obtain ⟨⟨p0, p1, p2, p3, p4, p5⟩, p6, ⟨m0, m1⟩, m2, z1, z2⟩ := lr.facts
          by_cases hl2 : lawZ I c < 2
          · go_wp2_with fail
            go_ret
            exact ⟨rfl, lr.be⟩
          · go_wp2_with fail
            go_roundw
            case rel => exact ⟨now + 1, sn, c, true, sn, 1, 0, rfl, rfl, rfl, rfl, by omega, by omega, by omega, by omega, by omega, (fun h => by cases h), fun _ => ⟨by omega, by omega, rfl, rfl, by omega⟩, lr⟩
            case measure => simp [intOf]; omega
        · have e1 : now + 1 = sn := by omega
          have g1 := law_next I c (by omega) b0 b2
          have g2 := law_top I (c + 1) (by omega)
          have wc1 : IntKind.i64.wrap (sn + lawZ I (c + 1)) = sn + lawZ I (c + 1) := wrapS _ (by omega) (by omega)
          have wc2 : IntKind.u64.wrap (c + 1) = c + 1 := wrapU _ (by omega) (by omega)
          have hmul : (c + 1) * I = c * I + I := by rw [Int.add_mul, Int.one_mul]
          have hr1 := rateD F sn c 1 I sn (by omega) (by omega) (by omega)
          have hr2 := rateE F sn (c + 1) 1 I sn (by omega) (by omega) (by omega) (by omega)
          have HM := Lib.hid hr2
          clear hr2
          go_wp2_with fail
          refine (clook_any ⟨true, F, true, sn, c, 1⟩ _ _ _ _ _ true hh _ (by omega) (by omega) (by omega) (by omega) (show (⟨true, F, true, sn, c, 1⟩ : Cst).ok from ok_of (by omega) (by omega) (by omega) (by omega) (by omega) (by omega) (by omega) (by omega))).mono ?_
          rw [hr1]
          rintro e w4 ⟨rfl, hb4⟩
          replace lr := lr.below hb4
          clear hb4
          clear p0 p1 p2 p3 p4 p5 p6 m0 m1 m2 z1 z2
          obtain ⟨⟨p0, p1, p2, p3, p4, p5⟩, p6, ⟨m0, m1⟩, m2, z1, z2⟩ := lr.facts
          go_upto_region 13 with fail
          refine wp_worldc (fun wx => Lr w wx w1.heap.size w2.heap.size I ⟨true, F, true, sn, c + 1, 1⟩) (lr.store _ _ _ _ _ _) ?_
          clear p0 p1 p2 p3 p4 p5 p6 m0 m1 m2 z1 z2
          clear lr
          rintro w5 lr
          obtain ⟨⟨p0, p1, p2, p3, p4, p5⟩, p6, ⟨m0, m1⟩, m2, z1, z2⟩ := lr.facts
          clear hr1
          go_wp2_with fail
          refine (cmore_any ⟨true, F, true, sn, c + 1, 1⟩ _ _ _ _ _ true hh _ (by omega) (by omega) (by omega) (by omega) (show (⟨true, F, true, sn, c + 1, 1⟩ : Cst).ok from ok_of (by omega) (by omega) (by omega) (by omega) (by omega) (by omega) (by omega) (by omega))).mono ?_
          rw [HM.out]
          rintro e w8 ⟨rfl, hb8⟩
          replace lr := lr.below hb8
          clear hb8
          clear p0 p1 p2 p3 p4 p5 p6 m0 m1 m2 z1 z2
          obtain ⟨⟨p0, p1, p2, p3, p4, p5⟩, p6, ⟨m0, m1⟩, m2, z1, z2⟩ := lr.facts
          go_upto_region 16 with fail
          refine wp_worldc (fun wx => Lr w wx w1.heap.size w2.heap.size I ⟨true, F, true, sn + lawZ I (c + 1), c + 1, 1⟩) (lr.store _ _ _ _ _ _) ?_
          clear p0 p1 p2 p3 p4 p5 p6 m0 m1 m2 z1 z2
          clear lr
          rintro w9 lr
          obtain ⟨⟨p0, p1, p2, p3, p4, p5⟩, p6, ⟨m0, m1⟩, m2, z1, z2⟩ := lr.facts
          obtain ⟨wo, rfl⟩ : ∃ wo, wo = wr := ⟨wr, rfl⟩
          go_wp2_with fail
          go_loopw [10, 11, 12, 13] (fun s10 s11 s12 s13 wr => s10 = .int .i64 sn ∧ s11 = .int .u64 c ∧ s12 = .int .i64 0 ∧ s13 = .int .i64 0 ∧ wr = w9) (fun _ _ _ _ _ => 0)
          case atStart => exact ⟨rfl, rfl, rfl, rfl, rfl⟩
          case round =>
            obtain ⟨rfl, rfl, rfl, rfl, rfl⟩ := hrel
            go_wp2_with fail
            refine (rrlaw_z _ _ _ (by omega) (by omega) (by omega)).mono ?_
            rintro e wa ⟨rfl, hbx⟩
            replace lr := lr.below hbx
            clear hbx
            clear p0 p1 p2 p3 p4 p5 p6 m0 m1 m2 z1 z2
            obtain ⟨⟨p0, p1, p2, p3, p4, p5⟩, p6, ⟨m0, m1⟩, m2, z1, z2⟩ := lr.facts
            go_wp2_with fail
            refine (rrlaw_z _ _ _ (by omega) (by omega) (by omega)).mono ?_
            rintro e wb ⟨rfl, hbx⟩
            replace lr := lr.below hbx
            clear hbx
            clear p0 p1 p2 p3 p4 p5 p6 m0 m1 m2 z1 z2
            obtain ⟨⟨p0, p1, p2, p3, p4, p5⟩, p6, ⟨m0, m1⟩, m2, z1, z2⟩ := lr.facts
            by_cases hl2 : lawZ I (c + 1) < 2
            · go_wp2_with fail
              go_ret
              exact ⟨rfl, lr.be⟩
            · go_wp2_with fail
              go_roundw
              case rel => exact ⟨sn, sn + lawZ I (c + 1), c + 1, true, sn + lawZ I (c + 1), 1, 1, rfl, rfl, rfl, rfl, by omega, by omega, by omega, by rw [hmul]; omega, by omega, (fun h => by cases h), fun _ => ⟨by omega, by omega, rfl, rfl, by omega⟩, lr⟩
              case measure => simp [intOf]; omega
    · have hc6 : 6 ≤ c := by
        have : 6 * I < c * I := by omega
        have := Int.lt_of_mul_lt_mul_right this (by omega : (0 : Int) ≤ I)
        omega
      go_wp2_with fail
      go_ret
      exact ⟨rfl, lr.be⟩
set_option maxRecDepth 100000 in
theorem lifted (os : Os) (started : os.Started) (H : Type) (enc : TypeId × Value → H) :
    ReturnsInHanded {} Try.checked os 6 .any (Rows.codelRateSpec.pre6 enc Try.prog Try.f6 Rows.codelRateRow.domain false) (Rows.codelRateSpec.post enc Try.prog Try.f6 false true false false) := by
  refine returnsInHanded_of_change (C := Try.checked) own started (by kernel_rfl) Try.func6
    (ChangeSpec.witness6 (enc := enc) (C := Try.checked) false ⟨#[], #[.int .u16 0, .int .i64 0], []⟩ 8 (by kernel_rfl) (by kernel_rfl) (by kernel_rfl) (by kernel_rfl)) ?_
  intro W base args ds gs before hval0 hW hcnd _
  have hval : ∀ (j : Nat) t v, Try.f6.params[j]? = some t → args[j]? = some v → Value.okWide Try.prog W .any base t v := hval0
  have hW' := hW
  obtain ⟨p, q, hA0, hV, rfl, hfz, hnd⟩ := hW
  have hA : DataW.TrodAll enc Try.prog W 0 (fun _ => true) true Try.f6.params.toList args.toList ds p := hA0
  rw [Try.params6] at hA hval
  obtain ⟨v0, vs0, d0, ds0, p0, q0, hargs, rfl, rfl, h0, r0⟩ := trodAll_cons hA
  obtain ⟨v1, vs1, d1, ds1, p1, q1, rfl, rfl, rfl, h1, r1⟩ := trodAll_cons r0
  obtain ⟨rfl, rfl, rfl⟩ := trodAll_nil r1
  obtain rfl : args = #[v0, v1] := by cases args; simp_all
  obtain ⟨rfl, rfl⟩ := trodVars_none hV
  obtain ⟨a0, rfl, rfl, rfl, w0⟩ := open_int Try.underlying44 (hval 0 _ v0 rfl rfl) h0
  obtain ⟨a1, rfl, rfl, rfl, w1⟩ := open_int Try.underlying2 (hval 1 _ v1 rfl rfl) h1
  clear hA0 hval0
  obtain ⟨l0, m0⟩ := wf_u16 w0
  obtain ⟨l1, m1⟩ := wf_i64 w1
  refine (walk a0 a1 W l0 m0 l1 m1).mono fun e W' ⟨he, hg⟩ => ?_
  subst he
  exact ⟨_, rfl, post_of_law hW' rfl laidOut reads rfl Try.underlying4 rfl rfl rfl hg⟩
theorem over : Rows.codelRateRow.holds Try.pinned (OpenSpec.ofChange Rows.codelRateSpec) :=
  OpenClaim.holds_of_wide 6 Try.f6 rfl rfl rfl rfl rfl rfl rfl ⟨rfl, rfl, rfl, rfl, rfl⟩ rfl rfl rfl rfl rfl (by kernel_rfl) Try.func6 (by kernel_rfl)
    (of_decide_eq_true (by kernel_rfl)) (by unfold Func.isWrapper; first | (rw [if_pos (by decide +kernel)]; kernel_rfl) | (rw [if_neg (by decide +kernel)]; exact ⟨rfl, rfl⟩))
    (fun os started H enc _ => lifted os started H enc)
theorem proved : Rows.CodelRateSaid := over
end Go.Proofs.Ytkmhdkhaoegbjaa.codelRate
