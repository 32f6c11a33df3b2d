/- Texts of this claim, one behind the other: Codq. -/
import Derived.Test.YtcffeokbipjaoaaGreatMtaw
namespace Go.Proofs.YtcffeokbipjaoaaGreat
open Go.ChangeShapes Go.WideShapes Go.ChangeAt Go.RowKit Kn
set_option linter.unusedVariables false
def Stt (w : World) (g : Nat) (T : TypeId) (s : Cst) : Prop := Blk w g T #[.bool s.ab, .int .i64 s.fi, .bool s.dr, .int .i64 s.ne, .int .u64 s.co, .int .u64 s.la]
theorem Stt.store {w : World} {g : Nat} {T : TypeId} {s : Cst} (h : Stt w g T s) (a : Bool) (f : Int) (d : Bool) (n c l : Int) : Stt ((((((w.setCell ⟨g, 0, none⟩ (.bool a)).setCell ⟨g, 1, none⟩ (.int .i64 f)).setCell ⟨g, 2, none⟩ (.bool d)).setCell ⟨g, 3, none⟩ (.int .i64 n)).setCell ⟨g, 4, none⟩ (.int .u64 c)).setCell ⟨g, 5, none⟩ (.int .u64 l)) g T ⟨a, f, d, n, c, l⟩ := by
 have h' := ((((((show Blk _ _ _ _ from h).set_ 0 (.bool a)).set_ 1 (.int .i64 f)).set_ 2 (.bool d)).set_ 3 (.int .i64 n)).set_ 4 (.int .u64 c)).set_ 5 (.int .u64 l)
 simpa [Stt] using h'
theorem Blk.far6 {w : World} {g k : Nat} {t : TypeId} {cs : Array Value} (h : Blk w k t cs) (hk : k ≠ g) (a : Bool) (f : Int) (d : Bool) (n c l : Int) : Blk ((((((w.setCell ⟨g, 0, none⟩ (.bool a)).setCell ⟨g, 1, none⟩ (.int .i64 f)).setCell ⟨g, 2, none⟩ (.bool d)).setCell ⟨g, 3, none⟩ (.int .i64 n)).setCell ⟨g, 4, none⟩ (.int .u64 c)).setCell ⟨g, 5, none⟩ (.int .u64 l)) k t cs :=
 (((((h.far _ hk).far _ hk).far _ hk).far _ hk).far _ hk).far _ hk
theorem below6 {v w : World} {g B : Nat} (h : Below B v w) (hg : B ≤ g) (a : Bool) (f : Int) (d : Bool) (n c l : Int) : Below B v ((((((w.setCell ⟨g, 0, none⟩ (.bool a)).setCell ⟨g, 1, none⟩ (.int .i64 f)).setCell ⟨g, 2, none⟩ (.bool d)).setCell ⟨g, 3, none⟩ (.int .i64 n)).setCell ⟨g, 4, none⟩ (.int .u64 c)).setCell ⟨g, 5, none⟩ (.int .u64 l)) :=
 (((((h.setCell hg _).setCell hg _).setCell hg _).setCell hg _).setCell hg _).setCell hg _
structure Bx (v w : World) (T : TypeId) (r : Nat) (s z : Cst) (pr : Option (Int × Int)) : Prop where
 a : Stt w v.heap.size T s
 c : Stt w r T z
 hr : v.heap.size < r
 b : ∀ x, pr = some x → v.heap.size + 1 ≠ r ∧ Blk w (v.heap.size + 1) 286 #[.int .i64 x.1, .int .i64 x.2]
 be : Below v.heap.size v w
section
variable {v w w' : World} {T : TypeId} {r : Nat} {s z : Cst} {pr : Option (Int × Int)} {t i : Int}
theorem Bx.made3 (w : World) (T : TypeId) (a : Bool) (f : Int) (d : Bool) (n c l : Int) (a' : Bool) (f' : Int) (d' : Bool) (n' c' l' : Int) (t i : Int) : Bx w (((w.alloc (.cells #[.bool a, .int .i64 f, .bool d, .int .i64 n, .int .u64 c, .int .u64 l] T)).alloc (.cells #[.int .i64 t, .int .i64 i] 286)).alloc (.cells #[.bool a', .int .i64 f', .bool d', .int .i64 n', .int .u64 c', .int .u64 l'] T)) T (w.heap.size + 1 + 1) ⟨a, f, d, n, c, l⟩ ⟨a', f', d', n', c', l'⟩ (some (t, i)) :=
 ⟨((Blk.made w T _).alloc_ _).alloc_ _, Blk.new_ (by simp), by omega, by
   rintro x hx
   injection hx with hx
   subst hx
   exact ⟨by omega, (Blk.new_ (by simp)).alloc_ _⟩, (((Below.refl _ _).alloc (Nat.le_refl _) _).alloc (by simp) _).alloc (by simp; omega) _⟩
theorem Bx.made2 (w : World) (T : TypeId) (a : Bool) (f : Int) (d : Bool) (n c l : Int) (a' : Bool) (f' : Int) (d' : Bool) (n' c' l' : Int) : Bx w ((w.alloc (.cells #[.bool a, .int .i64 f, .bool d, .int .i64 n, .int .u64 c, .int .u64 l] T)).alloc (.cells #[.bool a', .int .i64 f', .bool d', .int .i64 n', .int .u64 c', .int .u64 l'] T)) T (w.heap.size + 1) ⟨a, f, d, n, c, l⟩ ⟨a', f', d', n', c', l'⟩ none :=
 ⟨(Blk.made w T _).alloc_ _, Blk.new_ (by simp), by omega, (by rintro x hx; cases hx), ((Below.refl _ _).alloc (Nat.le_refl _) _).alloc (by simp) _⟩
theorem Bx.below (h : Bx v w T r s z pr) (hb : Below w.heap.size w w') : Bx v w' T r s z pr :=
 ⟨Blk.below_ h.a hb (Blk.size h.a), Blk.below_ h.c hb (Blk.size h.c), h.hr, fun x hx => ⟨(h.b x hx).1, (h.b x hx).2.below_ hb (h.b x hx).2.size⟩, under0 h.be hb⟩
theorem Bx.drew (h : Bx v w T r s z pr) : Bx v w.drew T r s z pr := ⟨h.a, h.c, h.hr, h.b, h.be.drew⟩
theorem Bx.drewN (h : Bx v w T r s z pr) (n : Nat) : Bx v (w.drewN n) T r s z pr := ⟨h.a, h.c, h.hr, h.b, below_drewN h.be n⟩
theorem Bx.store (h : Bx v w T r s z pr) (a : Bool) (f : Int) (d : Bool) (n c l : Int) : Bx v ((((((w.setCell ⟨v.heap.size, 0, none⟩ (.bool a)).setCell ⟨v.heap.size, 1, none⟩ (.int .i64 f)).setCell ⟨v.heap.size, 2, none⟩ (.bool d)).setCell ⟨v.heap.size, 3, none⟩ (.int .i64 n)).setCell ⟨v.heap.size, 4, none⟩ (.int .u64 c)).setCell ⟨v.heap.size, 5, none⟩ (.int .u64 l)) T r ⟨a, f, d, n, c, l⟩ z pr :=
 ⟨h.a.store a f d n c l, Blk.far6 h.c (Nat.ne_of_gt h.hr) a f d n c l, h.hr, fun x hx => ⟨(h.b x hx).1, (h.b x hx).2.far6 (by omega) a f d n c l⟩, below6 h.be (Nat.le_refl _) a f d n c l⟩
theorem Bx.storeC (h : Bx v w T r s z pr) (a : Bool) (f : Int) (d : Bool) (n c l : Int) : Bx v ((((((w.setCell ⟨r, 0, none⟩ (.bool a)).setCell ⟨r, 1, none⟩ (.int .i64 f)).setCell ⟨r, 2, none⟩ (.bool d)).setCell ⟨r, 3, none⟩ (.int .i64 n)).setCell ⟨r, 4, none⟩ (.int .u64 c)).setCell ⟨r, 5, none⟩ (.int .u64 l)) T r s ⟨a, f, d, n, c, l⟩ pr :=
 ⟨Blk.far6 h.a (Nat.ne_of_lt h.hr) a f d n c l, h.c.store a f d n c l, h.hr, fun x hx => ⟨(h.b x hx).1, (h.b x hx).2.far6 (h.b x hx).1 a f d n c l⟩, below6 h.be (Nat.le_of_lt h.hr) a f d n c l⟩
theorem Bx.one {z' : Cst} (h : Bx v w T r s z pr) (k : Nat) (u : Value) (hs : (#[.bool s.ab, .int .i64 s.fi, .bool s.dr, .int .i64 s.ne, .int .u64 s.co, .int .u64 s.la] : Array Value).setIfInBounds k u = #[.bool z'.ab, .int .i64 z'.fi, .bool z'.dr, .int .i64 z'.ne, .int .u64 z'.co, .int .u64 z'.la]) : Bx v (w.setCell ⟨v.heap.size, k, none⟩ u) T r z' z pr :=
 ⟨by have h' := (show Blk _ _ _ _ from h.a).set_ k u; rw [hs] at h'; exact h', Blk.far h.c u (Nat.ne_of_gt h.hr), h.hr, fun x hx => ⟨(h.b x hx).1, (h.b x hx).2.far u (by simp)⟩, h.be.setCell (Nat.le_refl _) _⟩
theorem Bx.facts (h : Bx v w T r s z pr) :
   (w.cell? ⟨v.heap.size, 0, none⟩ = some (.bool s.ab) ∧ w.cell? ⟨v.heap.size, 1, none⟩ = some (.int .i64 s.fi) ∧ w.cell? ⟨v.heap.size, 2, none⟩ = some (.bool s.dr) ∧ w.cell? ⟨v.heap.size, 3, none⟩ = some (.int .i64 s.ne) ∧ w.cell? ⟨v.heap.size, 4, none⟩ = some (.int .u64 s.co) ∧ w.cell? ⟨v.heap.size, 5, none⟩ = some (.int .u64 s.la)) ∧
   (∀ k, w.frozen? ⟨v.heap.size, k, none⟩ = false) ∧
   (w.cell? ⟨r, 0, none⟩ = some (.bool z.ab) ∧ w.cell? ⟨r, 1, none⟩ = some (.int .i64 z.fi) ∧ w.cell? ⟨r, 2, none⟩ = some (.bool z.dr) ∧ w.cell? ⟨r, 3, none⟩ = some (.int .i64 z.ne) ∧ w.cell? ⟨r, 4, none⟩ = some (.int .u64 z.co) ∧ w.cell? ⟨r, 5, none⟩ = some (.int .u64 z.la)) ∧
   (∀ k, w.frozen? ⟨r, k, none⟩ = false) ∧ v.heap.size < w.heap.size ∧ r < w.heap.size :=
 ⟨six_cells (s := s) h.a, Blk.free h.a, six_cells (s := z) h.c, Blk.free h.c, Blk.size h.a, Blk.size h.c⟩
theorem Bx.pfacts (h : Bx v w T r s z (some (t, i))) : (w.cell? ⟨v.heap.size + 1, 0, none⟩ = some (.int .i64 t) ∧ w.cell? ⟨v.heap.size + 1, 1, none⟩ = some (.int .i64 i)) ∧ (∀ k, w.frozen? ⟨v.heap.size + 1, k, none⟩ = false) :=
 ⟨⟨(h.b _ rfl).2.val (i := 0) rfl, (h.b _ rfl).2.val (i := 1) rfl⟩, (h.b _ rfl).2.free⟩
end
theorem wp_worldc {P : Program} {code : Code} {Q : Exit → Act → World → Prop} {a : Act} {w : World} (φ : World → Prop) (h : φ w) (k : ∀ wx, φ wx → Code.wp P code Q a wx) : Code.wp P code Q a w := k w h
set_option maxHeartbeats 2000000 in
theorem ccons_tA (fi ne co la : Int) (na : Bool) (nf nn nc nl t i now j b : Int) (hb : Bool) (HH : Hid (highB t j b = hb)) (HN : Hid (noteC ⟨false, fi, true, ne, co, la⟩ i now hb = ⟨na, nf, true, nn, nc, nl⟩)) (w : World) (now0 : -9223372036854775808 ≤ now) (now1 : now ≤ 9223372036854775807) (i0 : -9223372036854775808 ≤ i) (i1 : i ≤ 9223372036854775807) :
   Calls Tryz.prog 215 #[.agg #[.bool false, .int .i64 fi, .bool true, .int .i64 ne, .int .u64 co, .int .u64 la], .agg #[.int .i64 t, .int .i64 i], .int .i64 now, .int .i64 j, .int .i64 b] w fun e w' => e = .returned (.tuple #[.agg #[.bool na, .int .i64 nf, .bool false, .int .i64 nn, .int .u64 nc, .int .u64 nl], .bool false]) ∧ Below w.heap.size w w' := by
 go_enter Tryz.func215, Tryz.ntmps215
 go_upto_region 1 with fail
 refine wp_worldc (fun wx => Bx w wx 280 (w.heap.size + 1 + 1) ⟨false, fi, true, ne, co, la⟩ ⟨false, 0, false, 0, 0, 0⟩ (some (t, i))) (Bx.made3 _ _ _ _ _ _ _ _ _ _ _ _ _ _ _ _) ?_
 rintro wx1 bx
 have BX := Lib.hid bx
 clear bx
 obtain ⟨⟨p0, p1, p2, p3, p4, p5⟩, p6, ⟨r0, r1, r2, r3, r4, r5⟩, r6, hz1, hz2⟩ := BX.out.facts
 obtain ⟨⟨q0, q1⟩, q2⟩ := BX.out.pfacts
 go_wp2_with fail
 refine (cnote_any ⟨false, fi, true, ne, co, la⟩ _ _ _ _ _ _ HH.out _ now0 now1 i0 i1).mono ?_
 rw [HN.out]
 rintro e wx2 ⟨rfl, hb⟩
 have bx := BX.out.below hb
 clear hb
 clear p0 p1 p2 p3 p4 p5 p6 r0 r1 r2 r3 r4 r5 r6 hz1 hz2
 clear q0 q1 q2
 clear BX
 have BX := Lib.hid bx
 clear bx
 obtain ⟨⟨p0, p1, p2, p3, p4, p5⟩, p6, ⟨r0, r1, r2, r3, r4, r5⟩, r6, hz1, hz2⟩ := BX.out.facts
 obtain ⟨⟨q0, q1⟩, q2⟩ := BX.out.pfacts
 go_upto_region 3 with fail
 clear p0 p1 p2 p3 p4 p5 p6 r0 r1 r2 r3 r4 r5 r6 hz1 hz2
 clear q0 q1 q2
 refine wp_worldc (fun wx => Bx w wx 280 (w.heap.size + 1 + 1) ⟨na, nf, true, nn, nc, nl⟩ ⟨false, 0, false, 0, 0, 0⟩ (some (t, i))) (BX.out.store _ _ _ _ _ _) ?_
 clear BX
 rintro wx3 bx
 have BX := Lib.hid bx
 clear bx
 obtain ⟨⟨p0, p1, p2, p3, p4, p5⟩, p6, ⟨r0, r1, r2, r3, r4, r5⟩, r6, hz1, hz2⟩ := BX.out.facts
 obtain ⟨⟨q0, q1⟩, q2⟩ := BX.out.pfacts
 go_wp2_with fail
 refine bodyPost_ret (v := .tuple #[.agg #[.bool na, .int .i64 nf, .bool false, .int .i64 nn, .int .u64 nc, .int .u64 nl], .bool false]) (by simp [results, Tryz.results215, go_sem, *]) rfl ⟨rfl, ?_⟩
 exact ((Bx.one BX.out 2 _ rfl : Bx w _ 280 _ ⟨na, nf, false, nn, nc, nl⟩ _ _).storeC _ _ _ _ _ _).be
set_option maxHeartbeats 2000000 in
theorem ccons_tB (fi ne co la : Int) (na : Bool) (nf nn nc nl t i now j b : Int) (hb : Bool) (HH : Hid (highB t j b = hb)) (hf : now < fi) (HN : Hid (noteC ⟨true, fi, true, ne, co, la⟩ i now hb = ⟨na, nf, true, nn, nc, nl⟩)) (w : World) (now0 : -9223372036854775808 ≤ now) (now1 : now ≤ 9223372036854775807) (i0 : -9223372036854775808 ≤ i) (i1 : i ≤ 9223372036854775807) :
   Calls Tryz.prog 215 #[.agg #[.bool true, .int .i64 fi, .bool true, .int .i64 ne, .int .u64 co, .int .u64 la], .agg #[.int .i64 t, .int .i64 i], .int .i64 now, .int .i64 j, .int .i64 b] w fun e w' => e = .returned (.tuple #[.agg #[.bool na, .int .i64 nf, .bool false, .int .i64 nn, .int .u64 nc, .int .u64 nl], .bool false]) ∧ Below w.heap.size w w' := by
 go_enter Tryz.func215, Tryz.ntmps215
 go_upto_region 1 with fail
 refine wp_worldc (fun wx => Bx w wx 280 (w.heap.size + 1 + 1) ⟨true, fi, true, ne, co, la⟩ ⟨false, 0, false, 0, 0, 0⟩ (some (t, i))) (Bx.made3 _ _ _ _ _ _ _ _ _ _ _ _ _ _ _ _) ?_
 rintro wx1 bx
 have BX := Lib.hid bx
 clear bx
 obtain ⟨⟨p0, p1, p2, p3, p4, p5⟩, p6, ⟨r0, r1, r2, r3, r4, r5⟩, r6, hz1, hz2⟩ := BX.out.facts
 obtain ⟨⟨q0, q1⟩, q2⟩ := BX.out.pfacts
 go_wp2_with fail
 refine (cnote_any ⟨true, fi, true, ne, co, la⟩ _ _ _ _ _ _ HH.out _ now0 now1 i0 i1).mono ?_
 rw [HN.out]
 rintro e wx2 ⟨rfl, hb⟩
 have bx := BX.out.below hb
 clear hb
 clear p0 p1 p2 p3 p4 p5 p6 r0 r1 r2 r3 r4 r5 r6 hz1 hz2
 clear q0 q1 q2
 clear BX
 have BX := Lib.hid bx
 clear bx
 obtain ⟨⟨p0, p1, p2, p3, p4, p5⟩, p6, ⟨r0, r1, r2, r3, r4, r5⟩, r6, hz1, hz2⟩ := BX.out.facts
 obtain ⟨⟨q0, q1⟩, q2⟩ := BX.out.pfacts
 go_upto_region 3 with fail
 clear p0 p1 p2 p3 p4 p5 p6 r0 r1 r2 r3 r4 r5 r6 hz1 hz2
 clear q0 q1 q2
 refine wp_worldc (fun wx => Bx w wx 280 (w.heap.size + 1 + 1) ⟨na, nf, true, nn, nc, nl⟩ ⟨false, 0, false, 0, 0, 0⟩ (some (t, i))) (BX.out.store _ _ _ _ _ _) ?_
 clear BX
 rintro wx3 bx
 have BX := Lib.hid bx
 clear bx
 obtain ⟨⟨p0, p1, p2, p3, p4, p5⟩, p6, ⟨r0, r1, r2, r3, r4, r5⟩, r6, hz1, hz2⟩ := BX.out.facts
 obtain ⟨⟨q0, q1⟩, q2⟩ := BX.out.pfacts
 go_wp2_with fail
 refine bodyPost_ret (v := .tuple #[.agg #[.bool na, .int .i64 nf, .bool false, .int .i64 nn, .int .u64 nc, .int .u64 nl], .bool false]) (by simp [results, Tryz.results215, go_sem, *]) rfl ⟨rfl, ?_⟩
 exact ((Bx.one BX.out 2 _ rfl : Bx w _ 280 _ ⟨na, nf, false, nn, nc, nl⟩ _ _).storeC _ _ _ _ _ _).be
set_option maxHeartbeats 2000000 in
theorem ccons_tC (fi ne co la : Int) (na : Bool) (nf nn nc nl t i now j b : Int) (hb : Bool) (HH : Hid (highB t j b = hb)) (hf : fi ≤ now) (HN : Hid (noteC ⟨true, fi, true, ne, co, la⟩ i now hb = ⟨na, nf, true, nn, nc, nl⟩)) (w : World) (now0 : -9223372036854775808 ≤ now) (now1 : now ≤ 9223372036854775807) (i0 : -9223372036854775808 ≤ i) (i1 : i ≤ 9223372036854775807) :
   Calls Tryz.prog 215 #[.agg #[.bool true, .int .i64 fi, .bool true, .int .i64 ne, .int .u64 co, .int .u64 la], .agg #[.int .i64 t, .int .i64 i], .int .i64 now, .int .i64 j, .int .i64 b] w fun e w' => e = .returned (.tuple #[.agg #[.bool na, .int .i64 nf, .bool hb, .int .i64 nn, .int .u64 nc, .int .u64 nl], .bool hb]) ∧ Below w.heap.size w w' := by
 go_enter Tryz.func215, Tryz.ntmps215
 go_upto_region 1 with fail
 refine wp_worldc (fun wx => Bx w wx 280 (w.heap.size + 1 + 1) ⟨true, fi, true, ne, co, la⟩ ⟨false, 0, false, 0, 0, 0⟩ (some (t, i))) (Bx.made3 _ _ _ _ _ _ _ _ _ _ _ _ _ _ _ _) ?_
 rintro wx1 bx
 have BX := Lib.hid bx
 clear bx
 obtain ⟨⟨p0, p1, p2, p3, p4, p5⟩, p6, ⟨r0, r1, r2, r3, r4, r5⟩, r6, hz1, hz2⟩ := BX.out.facts
 obtain ⟨⟨q0, q1⟩, q2⟩ := BX.out.pfacts
 go_wp2_with fail
 refine (chigh_any _ _ _ _ _ HH.out _).mono ?_
 rintro e wx2 ⟨rfl, hb⟩
 have bx := BX.out.below hb
 clear hb
 clear p0 p1 p2 p3 p4 p5 p6 r0 r1 r2 r3 r4 r5 r6 hz1 hz2
 clear q0 q1 q2
 clear BX
 have BX := Lib.hid bx
 clear bx
 obtain ⟨⟨p0, p1, p2, p3, p4, p5⟩, p6, ⟨r0, r1, r2, r3, r4, r5⟩, r6, hz1, hz2⟩ := BX.out.facts
 obtain ⟨⟨q0, q1⟩, q2⟩ := BX.out.pfacts
 go_wp2_with fail
 refine (cnote_any ⟨true, fi, true, ne, co, la⟩ _ _ _ _ _ _ HH.out _ now0 now1 i0 i1).mono ?_
 rw [HN.out]
 rintro e wx3 ⟨rfl, hb⟩
 have bx := BX.out.below hb
 clear hb
 clear p0 p1 p2 p3 p4 p5 p6 r0 r1 r2 r3 r4 r5 r6 hz1 hz2
 clear q0 q1 q2
 clear BX
 have BX := Lib.hid bx
 clear bx
 obtain ⟨⟨p0, p1, p2, p3, p4, p5⟩, p6, ⟨r0, r1, r2, r3, r4, r5⟩, r6, hz1, hz2⟩ := BX.out.facts
 obtain ⟨⟨q0, q1⟩, q2⟩ := BX.out.pfacts
 go_upto_region 3 with fail
 clear p0 p1 p2 p3 p4 p5 p6 r0 r1 r2 r3 r4 r5 r6 hz1 hz2
 clear q0 q1 q2
 refine wp_worldc (fun wx => Bx w wx 280 (w.heap.size + 1 + 1) ⟨na, nf, true, nn, nc, nl⟩ ⟨false, 0, false, 0, 0, 0⟩ (some (t, i))) (BX.out.store _ _ _ _ _ _) ?_
 clear BX
 rintro wx4 bx
 have BX := Lib.hid bx
 clear bx
 obtain ⟨⟨p0, p1, p2, p3, p4, p5⟩, p6, ⟨r0, r1, r2, r3, r4, r5⟩, r6, hz1, hz2⟩ := BX.out.facts
 obtain ⟨⟨q0, q1⟩, q2⟩ := BX.out.pfacts
 go_wp2_with fail
 refine bodyPost_ret (v := .tuple #[.agg #[.bool na, .int .i64 nf, .bool hb, .int .i64 nn, .int .u64 nc, .int .u64 nl], .bool hb]) (by simp [results, Tryz.results215, go_sem, *]) rfl ⟨rfl, ?_⟩
 exact ((Bx.one BX.out 2 _ rfl : Bx w _ 280 _ ⟨na, nf, hb, nn, nc, nl⟩ _ _).storeC _ _ _ _ _ _).be
set_option maxHeartbeats 2000000 in
theorem ccons_fA (fi ne co la : Int) (na : Bool) (nf nn nc nl t i now j b : Int) (hb : Bool) (HH : Hid (highB t j b = hb)) (HN : Hid (noteC ⟨false, fi, false, ne, co, la⟩ i now hb = ⟨na, nf, false, nn, nc, nl⟩)) (w : World) (now0 : -9223372036854775808 ≤ now) (now1 : now ≤ 9223372036854775807) (i0 : -9223372036854775808 ≤ i) (i1 : i ≤ 9223372036854775807) :
   Calls Tryz.prog 215 #[.agg #[.bool false, .int .i64 fi, .bool false, .int .i64 ne, .int .u64 co, .int .u64 la], .agg #[.int .i64 t, .int .i64 i], .int .i64 now, .int .i64 j, .int .i64 b] w fun e w' => e = .returned (.tuple #[.agg #[.bool na, .int .i64 nf, .bool false, .int .i64 nn, .int .u64 nc, .int .u64 nl], .bool false]) ∧ Below w.heap.size w w' := by
 go_enter Tryz.func215, Tryz.ntmps215
 go_upto_region 1 with fail
 refine wp_worldc (fun wx => Bx w wx 280 (w.heap.size + 1 + 1) ⟨false, fi, false, ne, co, la⟩ ⟨false, 0, false, 0, 0, 0⟩ (some (t, i))) (Bx.made3 _ _ _ _ _ _ _ _ _ _ _ _ _ _ _ _) ?_
 rintro wx1 bx
 have BX := Lib.hid bx
 clear bx
 obtain ⟨⟨p0, p1, p2, p3, p4, p5⟩, p6, ⟨r0, r1, r2, r3, r4, r5⟩, r6, hz1, hz2⟩ := BX.out.facts
 obtain ⟨⟨q0, q1⟩, q2⟩ := BX.out.pfacts
 go_wp2_with fail
 refine (cnote_any ⟨false, fi, false, ne, co, la⟩ _ _ _ _ _ _ HH.out _ now0 now1 i0 i1).mono ?_
 rw [HN.out]
 rintro e wx2 ⟨rfl, hb⟩
 have bx := BX.out.below hb
 clear hb
 clear p0 p1 p2 p3 p4 p5 p6 r0 r1 r2 r3 r4 r5 r6 hz1 hz2
 clear q0 q1 q2
 clear BX
 have BX := Lib.hid bx
 clear bx
 obtain ⟨⟨p0, p1, p2, p3, p4, p5⟩, p6, ⟨r0, r1, r2, r3, r4, r5⟩, r6, hz1, hz2⟩ := BX.out.facts
 obtain ⟨⟨q0, q1⟩, q2⟩ := BX.out.pfacts
 go_upto_region 3 with fail
 clear p0 p1 p2 p3 p4 p5 p6 r0 r1 r2 r3 r4 r5 r6 hz1 hz2
 clear q0 q1 q2
 refine wp_worldc (fun wx => Bx w wx 280 (w.heap.size + 1 + 1) ⟨na, nf, false, nn, nc, nl⟩ ⟨false, 0, false, 0, 0, 0⟩ (some (t, i))) (BX.out.store _ _ _ _ _ _) ?_
 clear BX
 rintro wx3 bx
 have BX := Lib.hid bx
 clear bx
 obtain ⟨⟨p0, p1, p2, p3, p4, p5⟩, p6, ⟨r0, r1, r2, r3, r4, r5⟩, r6, hz1, hz2⟩ := BX.out.facts
 obtain ⟨⟨q0, q1⟩, q2⟩ := BX.out.pfacts
 go_wp2_with fail
 refine bodyPost_ret (v := .tuple #[.agg #[.bool na, .int .i64 nf, .bool false, .int .i64 nn, .int .u64 nc, .int .u64 nl], .bool false]) (by simp [results, Tryz.results215, go_sem, *]) rfl ⟨rfl, ?_⟩
 exact ((Bx.one BX.out 2 _ rfl : Bx w _ 280 _ ⟨na, nf, false, nn, nc, nl⟩ _ _).storeC _ _ _ _ _ _).be
set_option maxHeartbeats 2000000 in
theorem ccons_fB (fi ne co la : Int) (na : Bool) (nf nn nc nl t i now j b : Int) (hb : Bool) (HH : Hid (highB t j b = hb)) (hf : now < fi) (HN : Hid (noteC ⟨true, fi, false, ne, co, la⟩ i now hb = ⟨na, nf, false, nn, nc, nl⟩)) (w : World) (now0 : -9223372036854775808 ≤ now) (now1 : now ≤ 9223372036854775807) (i0 : -9223372036854775808 ≤ i) (i1 : i ≤ 9223372036854775807) :
   Calls Tryz.prog 215 #[.agg #[.bool true, .int .i64 fi, .bool false, .int .i64 ne, .int .u64 co, .int .u64 la], .agg #[.int .i64 t, .int .i64 i], .int .i64 now, .int .i64 j, .int .i64 b] w fun e w' => e = .returned (.tuple #[.agg #[.bool na, .int .i64 nf, .bool false, .int .i64 nn, .int .u64 nc, .int .u64 nl], .bool false]) ∧ Below w.heap.size w w' := by
 go_enter Tryz.func215, Tryz.ntmps215
 go_upto_region 1 with fail
 refine wp_worldc (fun wx => Bx w wx 280 (w.heap.size + 1 + 1) ⟨true, fi, false, ne, co, la⟩ ⟨false, 0, false, 0, 0, 0⟩ (some (t, i))) (Bx.made3 _ _ _ _ _ _ _ _ _ _ _ _ _ _ _ _) ?_
 rintro wx1 bx
 have BX := Lib.hid bx
 clear bx
 obtain ⟨⟨p0, p1, p2, p3, p4, p5⟩, p6, ⟨r0, r1, r2, r3, r4, r5⟩, r6, hz1, hz2⟩ := BX.out.facts
 obtain ⟨⟨q0, q1⟩, q2⟩ := BX.out.pfacts
 go_wp2_with fail
 refine (cnote_any ⟨true, fi, false, ne, co, la⟩ _ _ _ _ _ _ HH.out _ now0 now1 i0 i1).mono ?_
 rw [HN.out]
 rintro e wx2 ⟨rfl, hb⟩
 have bx := BX.out.below hb
 clear hb
 clear p0 p1 p2 p3 p4 p5 p6 r0 r1 r2 r3 r4 r5 r6 hz1 hz2
 clear q0 q1 q2
 clear BX
 have BX := Lib.hid bx
 clear bx
 obtain ⟨⟨p0, p1, p2, p3, p4, p5⟩, p6, ⟨r0, r1, r2, r3, r4, r5⟩, r6, hz1, hz2⟩ := BX.out.facts
 obtain ⟨⟨q0, q1⟩, q2⟩ := BX.out.pfacts
 go_upto_region 3 with fail
 clear p0 p1 p2 p3 p4 p5 p6 r0 r1 r2 r3 r4 r5 r6 hz1 hz2
 clear q0 q1 q2
 refine wp_worldc (fun wx => Bx w wx 280 (w.heap.size + 1 + 1) ⟨na, nf, false, nn, nc, nl⟩ ⟨false, 0, false, 0, 0, 0⟩ (some (t, i))) (BX.out.store _ _ _ _ _ _) ?_
 clear BX
 rintro wx3 bx
 have BX := Lib.hid bx
 clear bx
 obtain ⟨⟨p0, p1, p2, p3, p4, p5⟩, p6, ⟨r0, r1, r2, r3, r4, r5⟩, r6, hz1, hz2⟩ := BX.out.facts
 obtain ⟨⟨q0, q1⟩, q2⟩ := BX.out.pfacts
 go_wp2_with fail
 refine bodyPost_ret (v := .tuple #[.agg #[.bool na, .int .i64 nf, .bool false, .int .i64 nn, .int .u64 nc, .int .u64 nl], .bool false]) (by simp [results, Tryz.results215, go_sem, *]) rfl ⟨rfl, ?_⟩
 exact ((Bx.one BX.out 2 _ rfl : Bx w _ 280 _ ⟨na, nf, false, nn, nc, nl⟩ _ _).storeC _ _ _ _ _ _).be
set_option maxHeartbeats 2000000 in
theorem ccons_fC (fi ne co la : Int) (na : Bool) (nf nn nc nl t i now j b : Int) (hb : Bool) (HH : Hid (highB t j b = hb)) (hf : fi ≤ now) (HN : Hid (noteC ⟨true, fi, false, ne, co, la⟩ i now hb = ⟨na, nf, false, nn, nc, nl⟩)) (w : World) (now0 : -9223372036854775808 ≤ now) (now1 : now ≤ 9223372036854775807) (i0 : -9223372036854775808 ≤ i) (i1 : i ≤ 9223372036854775807) :
   Calls Tryz.prog 215 #[.agg #[.bool true, .int .i64 fi, .bool false, .int .i64 ne, .int .u64 co, .int .u64 la], .agg #[.int .i64 t, .int .i64 i], .int .i64 now, .int .i64 j, .int .i64 b] w fun e w' => e = .returned (.tuple #[.agg #[.bool na, .int .i64 nf, .bool false, .int .i64 nn, .int .u64 nc, .int .u64 nl], .bool hb]) ∧ Below w.heap.size w w' := by
 go_enter Tryz.func215, Tryz.ntmps215
 go_upto_region 1 with fail
 refine wp_worldc (fun wx => Bx w wx 280 (w.heap.size + 1 + 1) ⟨true, fi, false, ne, co, la⟩ ⟨false, 0, false, 0, 0, 0⟩ (some (t, i))) (Bx.made3 _ _ _ _ _ _ _ _ _ _ _ _ _ _ _ _) ?_
 rintro wx1 bx
 have BX := Lib.hid bx
 clear bx
 obtain ⟨⟨p0, p1, p2, p3, p4, p5⟩, p6, ⟨r0, r1, r2, r3, r4, r5⟩, r6, hz1, hz2⟩ := BX.out.facts
 obtain ⟨⟨q0, q1⟩, q2⟩ := BX.out.pfacts
 go_wp2_with fail
 refine (chigh_any _ _ _ _ _ HH.out _).mono ?_
 rintro e wx2 ⟨rfl, hb⟩
 have bx := BX.out.below hb
 clear hb
 clear p0 p1 p2 p3 p4 p5 p6 r0 r1 r2 r3 r4 r5 r6 hz1 hz2
 clear q0 q1 q2
 clear BX
 have BX := Lib.hid bx
 clear bx
 obtain ⟨⟨p0, p1, p2, p3, p4, p5⟩, p6, ⟨r0, r1, r2, r3, r4, r5⟩, r6, hz1, hz2⟩ := BX.out.facts
 obtain ⟨⟨q0, q1⟩, q2⟩ := BX.out.pfacts
 go_wp2_with fail
 refine (cnote_any ⟨true, fi, false, ne, co, la⟩ _ _ _ _ _ _ HH.out _ now0 now1 i0 i1).mono ?_
 rw [HN.out]
 rintro e wx3 ⟨rfl, hb⟩
 have bx := BX.out.below hb
 clear hb
 clear p0 p1 p2 p3 p4 p5 p6 r0 r1 r2 r3 r4 r5 r6 hz1 hz2
 clear q0 q1 q2
 clear BX
 have BX := Lib.hid bx
 clear bx
 obtain ⟨⟨p0, p1, p2, p3, p4, p5⟩, p6, ⟨r0, r1, r2, r3, r4, r5⟩, r6, hz1, hz2⟩ := BX.out.facts
 obtain ⟨⟨q0, q1⟩, q2⟩ := BX.out.pfacts
 go_upto_region 3 with fail
 clear p0 p1 p2 p3 p4 p5 p6 r0 r1 r2 r3 r4 r5 r6 hz1 hz2
 clear q0 q1 q2
 refine wp_worldc (fun wx => Bx w wx 280 (w.heap.size + 1 + 1) ⟨na, nf, false, nn, nc, nl⟩ ⟨false, 0, false, 0, 0, 0⟩ (some (t, i))) (BX.out.store _ _ _ _ _ _) ?_
 clear BX
 rintro wx4 bx
 have BX := Lib.hid bx
 clear bx
 obtain ⟨⟨p0, p1, p2, p3, p4, p5⟩, p6, ⟨r0, r1, r2, r3, r4, r5⟩, r6, hz1, hz2⟩ := BX.out.facts
 obtain ⟨⟨q0, q1⟩, q2⟩ := BX.out.pfacts
 go_wp2_with fail
 refine bodyPost_ret (v := .tuple #[.agg #[.bool na, .int .i64 nf, .bool false, .int .i64 nn, .int .u64 nc, .int .u64 nl], .bool hb]) (by simp [results, Tryz.results215, go_sem, *]) rfl ⟨rfl, ?_⟩
 exact ((Bx.one BX.out 2 _ rfl : Bx w _ 280 _ ⟨na, nf, false, nn, nc, nl⟩ _ _).storeC _ _ _ _ _ _).be
end Go.Proofs.YtcffeokbipjaoaaGreat
