/- Texts of this claim, one behind the other: Tqd. -/
import Derived.Laws.OwnMore
import Derived.Test.YtcffeokbipjaoaaGreatMuaa
import Derived.Test.YtcffeokbipjaoaaGreatMual
namespace Go.Proofs.YtcffeokbipjaoaaGreat
open Go.ChangeShapes Go.WideShapes Go.RowKit
set_option linter.unusedVariables false
set_option linter.unusedSimpArgs false
section
variable {q hs sp sc sf rp ra rb hp hb : Nat} {A : Option Addr} {N n m : Nat} {V H : Nat → Int} {T : Nat → Bool} {R : Nat → Rq} {F : Nat → Nat} {L : Nat → List Nat} {ub : Int} {D : List En}
end
end Go.Proofs.YtcffeokbipjaoaaGreat
namespace Go.Proofs.YtcffeokbipjaoaaGreat
open Go.ChangeShapes Go.WideShapes Go.RowKit
set_option linter.unusedVariables false
set_option linter.unusedSimpArgs false
section
variable {q hs sp sc sf rp ra rb hp hb : Nat} {A : Option Addr} {N n m : Nat} {V H : Nat → Int} {T : Nat → Bool} {R : Nat → Rq} {F : Nat → Nat} {L : Nat → List Nat} {ub : Int} {D : List En}
structure Mid2 (w x : World) (B : Nat) (cs : Array Value) (C : Nat) (ds : Array Value) (q hs sp sc sf rp ra rb hp hb : Nat) (A0 A : Option Addr) (N n : Nat) (V H : Nat → Int) (T : Nat → Bool) (R : Nat → Rq) (m : Nat) (F : Nat → Nat) (L : Nat → List Nat) (ub : Int) (D : List En) : Prop where
 one : Mid w x B cs q hs sp sc sf rp ra rb hp hb A0 A N n V H T R m F L ub D
 two : Mid w x C ds q hs sp sc sf rp ra rb hp hb A0 A N n V H T R m F L ub D
 ne : B ≠ C
 lo : w.heap.size ≤ B
section
variable {w x y : World} {B C : Nat} {cs ds : Array Value} {m' : Nat} {H' : Nat → Int} {T' : Nat → Bool} {R' : Nat → Rq} {F' : Nat → Nat} {L' : Nat → List Nat} {ub' : Int} {D' : List En} {A' A0 : Option Addr}
theorem Mid2.quiet (h : Mid2 w x B cs C ds q hs sp sc sf rp ra rb hp hb A0 A N n V H T R m F L ub D) (hb' : Below x.heap.size x y) : Mid2 w y B cs C ds q hs sp sc sf rp ra rb hp hb A0 A N n V H T R m F L ub D := ⟨h.one.quiet hb', h.two.quiet hb', h.ne, h.lo⟩
theorem Mid2.drewN_ (h : Mid2 w x B cs C ds q hs sp sc sf rp ra rb hp hb A0 A N n V H T R m F L ub D) (j : Nat) : Mid2 w (x.drewN j) B cs C ds q hs sp sc sf rp ra rb hp hb A0 A N n V H T R m F L ub D := h.quiet (below_drewN_ (Below.refl _ _) j)
theorem Mid2.drew_ (h : Mid2 w x B cs C ds q hs sp sc sf rp ra rb hp hb A0 A N n V H T R m F L ub D) : Mid2 w x.drew B cs C ds q hs sp sc sf rp ra rb hp hb A0 A N n V H T R m F L ub D := h.quiet (Below.drew (Below.refl _ _))
theorem Mid2.took (h : Mid2 w x B cs C ds q hs sp sc sf rp ra rb hp hb A0 A N n V H T R m F L ub D) (hk : Kept (fun g => g = sp ∨ g = sc ∨ g = sf) x y) (hn : SlabAt y sp sc sf n H' T' R' m' F') : Mid2 w y B cs C ds q hs sp sc sf rp ra rb hp hb A0 A N n V H' T' R' m' F' L ub D := ⟨h.one.took hk hn, h.two.took hk hn, h.ne, h.lo⟩
theorem Mid2.rowed (h : Mid2 w x B cs C ds q hs sp sc sf rp ra rb hp hb A0 A N n V H T R m F L ub D) (hk : Kept (fun g => g = ra ∨ g = rb) x y) (hn : RowsL y rp ra rb N n L' ub') : Mid2 w y B cs C ds q hs sp sc sf rp ra rb hp hb A0 A N n V H T R m F L' ub' D := ⟨h.one.rowed hk hn, h.two.rowed hk hn, h.ne, h.lo⟩
theorem Mid2.heaped (h : Mid2 w x B cs C ds q hs sp sc sf rp ra rb hp hb A A N n V H T R m F L ub D) (hk : Kept (hOwnP hp hb A) x y) (hn : HeapB y hp hb n A' D') : Mid2 w y B cs C ds q hs sp sc sf rp ra rb hp hb A A' N n V H T R m F L ub D' := ⟨h.one.heaped hk hn, h.two.heaped hk hn, h.ne, h.lo⟩
theorem TqAt.boxed {g i : Nat} {u : Value} (h : TqAt x q hs sp sc sf rp ra rb hp hb A N n V H T R m F L ub D) (hb' : Blk x g 107 cs) : TqAt (x.setCell ⟨g, i, none⟩ u) q hs sp sc sf rp ra rb hp hb A N n V H T R m F L ub D := by
 obtain ⟨hd, h1, h2, h3, ⟨cs', bc, cz, cc⟩, h5⟩ := h
 obtain ⟨⟨c1, t1⟩, ⟨c2, t2⟩, ⟨c3, t3⟩⟩ := h2.types
 obtain ⟨_, ⟨c4, t4⟩, _⟩ := h3.types
 obtain ⟨cs1, bc1, _, _⟩ := h1.rows
 obtain ⟨cs2, bc2, _, _⟩ := h1.frees
 have hk : Kept (fun k => k = g) x (x.setCell ⟨g, i, none⟩ u) := Kept.set_ (own := fun k => k = g) (Kept.refl _ _) (p := ⟨g, i, none⟩) (.inl rfl) _
 exact ⟨hd.kept hk (hd.other hb' (by decide)), h1.kept hk (h1.head.other hb' (by decide)) (bc1.other hb' (by decide)) (bc2.other hb' (by decide)), RowsAt.kept h2 hk (t1.other hb' (by decide)) (t2.other hb' (by decide)) (t3.other hb' (by decide)),
   h3.kept hk (fun g c hg => hg.other hb' (by decide)) (fun g c hg => hg.other hb' (by decide)) (t4.other hb' (by decide)), ⟨cs', bc.kept hk (bc.other hb' (by decide)), cz, cc⟩, h5⟩
theorem Mid2.done (h : Mid2 w x B cs C ds q hs sp sc sf rp ra rb hp hb A0 A N n V H T R m F L ub D) (i : Nat) (u : Value) : Mid2 w (x.setCell ⟨B, i, none⟩ u) B (cs.setIfInBounds i u) C ds q hs sp sc sf rp ra rb hp hb A0 A N n V H T R m F L ub D :=
 ⟨⟨h.one.tq.boxed h.one.bk, h.one.bk.set_ i u, h.one.kp.set_ (.inr h.lo) u⟩, ⟨h.two.tq.boxed h.one.bk, h.two.bk.far u (Ne.symm h.ne), h.two.kp.set_ (.inr h.lo) u⟩, h.ne, h.lo⟩
end
set_option maxHeartbeats 4000000 in
set_option maxRecDepth 100000 in
theorem ttake_yes (g : Int) (w : World) (h : TqAt w q hs sp sc sf rp ra rb hp hb A N n V H T R m F L ub D) (h0 : 0 ≤ g) (h1 : g ≤ 18446744073709551615) (ha : aliveB n H T g = true) {i : Nat} (hi : (g % 4294967296).toNat = i) (hm : m < n) (hR : remE N n L i = 0) (hD : hasE (i : Int) D = true) :
   Calls Tryz.prog 120 #[.pointer (some ⟨q, 0, none⟩), .int .u64 g] w fun x w' => x = .returned (.tuple #[rqv (R i), .int .i64 0]) ∧
     TqAt w' q hs sp sc sf rp ra rb hp hb A N n V H (fun j => if j = i then false else T j) (fun j => if j = i then ⟨0, 0, 0, 0, 0⟩ else R j) (m + 1) (fun j => if j = m then i else F j) (remQ N n L i) ub (remK (i : Int) D) ∧ Kept (tOwn hs sp sc sf ra rb hp hb A) w w' := by
 have n0 := h.slab.n0
 have hl : i < n := by unfold aliveB at ha; rw [hi] at ha; simp at ha; exact ha.1.1
 have he : g % 4294967296 = (i : Int) := by omega
 obtain ⟨⟨r0, r1, r2, r3, r4⟩, hr⟩ : ∃ r, R i = r := ⟨_, rfl⟩
 have HQ := Lib.hid h
 have HA := Lib.hid ha
 have HI := Lib.hid hi
 have HE := Lib.hid he
 have HR := Lib.hid hR
 have HD := Lib.hid hD
 have HRI := Lib.hid hr
 clear h ha hi he hR hD
 rw [hr]
 clear hr
 go_enter Tryz.func120, Tryz.ntmps120
 go_upto_region 1 with fail
 refine wp_worldx (fun wx => Bxs w wx [(w.heap.size, 107, [.int .u64 0, .int .i64 0, .int .i64 0, .int .i64 0, .int .i64 0])]) ((Bxs.nil_ w).alloc_ _ _ (by simp)) ?_
 rintro x1 bx
 have BX := Lib.hid bx
 clear bx
 go_upto_region 2 with (go_at_call 162; refine (tget_yes _ _ (HQ.out.below BX.out.be) h0 h1 HA.out HI.out).mono ?_; rw [HRI.out]; rintro e w1 ⟨he, hbw⟩; have he : e = .returned (.tuple #[.agg #[.int .u64 r0, .int .i64 r1, .int .i64 r2, .int .i64 r3, .int .i64 r4], .int .i64 0]) := he; subst he; have BY := Lib.hid (BX.out.below hbw); clear hbw)
 have bz := (BY.out.bl 0 _ _ _ rfl).size
 refine wp_worldx (fun wx => ∃ C, Mid2 w wx w.heap.size (rqL 0 0 0 0 0) C (rqL r0 r1 r2 r3 r4) q hs sp sc sf rp ra rb hp hb A A N n V H T R m F L ub D ∧ C = w1.heap.size) ⟨w1.heap.size, ⟨⟨HQ.out.below (BY.out.be.alloc BY.out.be.size _), (BY.out.bl 0 _ _ _ rfl).alloc_ _, Kept.of_below (BY.out.be.alloc BY.out.be.size _)⟩, ⟨HQ.out.below (BY.out.be.alloc BY.out.be.size _), Blk.made w1 _ _, Kept.of_below (BY.out.be.alloc BY.out.be.size _)⟩, by omega, Nat.le_refl _⟩, rfl⟩ ?_
 clear BX BY bz
 rintro x2 ⟨C, hx, rfl⟩
 have q1 := hx.one.tq.q1
 have zb := hx.two.bk.size
 have HX := Lib.hid hx
 clear hx
 go_upto_region 5 with (go_at_call 164; refine (slfree_yes _ _ HX.out.one.tq.slab h0 h1 HA.out HI.out hm).mono ?_; rintro e w2 ⟨rfl, hsl, hkn⟩; have HY := Lib.hid (HX.out.took hkn hsl); clear hsl hkn)
 have hx := HY.out
 clear HX q1 zb
 have q2 := hx.one.tq.q2
 have zb := hx.two.bk.size
 have HX := Lib.hid hx
 clear hx HY
 go_cut [] (fun wx => Mid2 w wx w.heap.size (rqL 0 0 0 0 0) w1.heap.size (rqL r0 r1 r2 r3 r4) q hs sp sc sf rp ra rb hp hb A A N n V H (fun j => if j = i then false else T j) (fun j => if j = i then ⟨0, 0, 0, 0, 0⟩ else R j) (m + 1) (fun j => if j = m then i else F j) (remQ N n L i) ub D)
 case first =>
   go_region_with (first | (go_at_call 166; refine (slcell_any _ _ (by omega) (by omega)).mono ?_; rintro x wn ⟨rfl, rfl⟩; rw [HE.out]) | (go_at_call 165; refine (rem_any i _ (Mid.tq (Mid2.one (by first | exact HX.out | exact HX.out.drew_ | exact HX.out.drewN_ _))).rows n0).mono ?_; rintro x wn ⟨rfl, hsl, hkn⟩))
   all_goals (go_wp2_with fail; go_meet; exact (show Mid2 w _ w.heap.size (rqL 0 0 0 0 0) w1.heap.size (rqL r0 r1 r2 r3 r4) q hs sp sc sf rp ra rb hp hb A A N n V H (fun j => if j = i then false else T j) (fun j => if j = i then ⟨0, 0, 0, 0, 0⟩ else R j) (m + 1) (fun j => if j = m then i else F j) L ub D from (by first | exact HX.out | exact HX.out.drew_ | exact HX.out.drewN_ _)).rowed hkn hsl)
 case rest =>
   clear HX q2 zb
   have hx := hcut
   clear hcut
   go_upto_region 6 with fail
   have q3 := hx.one.tq.q3
   have zb := hx.two.bk.size
   have HX := Lib.hid hx
   clear hx
   go_cut [] (fun wx => Mid2 w wx w.heap.size (rqL 0 0 0 0 0) w1.heap.size (rqL r0 r1 r2 r3 r4) q hs sp sc sf rp ra rb hp hb A A N n V H (fun j => if j = i then false else T j) (fun j => if j = i then ⟨0, 0, 0, 0, 0⟩ else R j) (m + 1) (fun j => if j = m then i else F j) (remQ N n L i) ub (remK (i : Int) D))
   case first =>
     go_region_with (first | (go_at_call 166; refine (slcell_any _ _ (by omega) (by omega)).mono ?_; rintro x wn ⟨rfl, rfl⟩; rw [HE.out]) | (go_at_call 167; refine (brem_yes hl HD.out _ (Mid.tq (Mid2.one (by first | exact HX.out | exact HX.out.drew_ | exact HX.out.drewN_ _))).heap).mono ?_; rintro x wn ⟨rfl, hsl, hkn⟩))
     all_goals (go_wp2_with fail; go_meet; exact (show Mid2 w _ w.heap.size (rqL 0 0 0 0 0) w1.heap.size (rqL r0 r1 r2 r3 r4) q hs sp sc sf rp ra rb hp hb A A N n V H (fun j => if j = i then false else T j) (fun j => if j = i then ⟨0, 0, 0, 0, 0⟩ else R j) (m + 1) (fun j => if j = m then i else F j) (remQ N n L i) ub D from (by first | exact HX.out | exact HX.out.drew_ | exact HX.out.drewN_ _)).heaped hkn hsl)
   case rest =>
     clear HX q3 zb
     have hx := hcut
     clear hcut
     go_upto_region 7 with fail
     have p0 := hx.two.bk.val (i := 0) rfl
     have p1 := hx.two.bk.val (i := 1) rfl
     have p2 := hx.two.bk.val (i := 2) rfl
     have p3 := hx.two.bk.val (i := 3) rfl
     have p4 := hx.two.bk.val (i := 4) rfl
     have o0 := hx.one.bk.val (i := 0) rfl
     have o1 := hx.one.bk.val (i := 1) rfl
     have o2 := hx.one.bk.val (i := 2) rfl
     have o3 := hx.one.bk.val (i := 3) rfl
     have o4 := hx.one.bk.val (i := 4) rfl
     have zf := hx.one.bk.free
     have zb := hx.one.bk.size
     have HX := Lib.hid hx
     clear hx
     go_wp2_with fail
     have HZ := Lib.hid (((((HX.out.done 0 (.int .u64 r0)).done 1 (.int .i64 r1)).done 2 (.int .i64 r2)).done 3 (.int .i64 r3)).done 4 (.int .i64 r4))
     refine bodyPost_ret (v := .tuple #[rqv ⟨r0, r1, r2, r3, r4⟩, .int .i64 0]) (by simp [results, Tryz.results120, go_sem, rqv, *]) rfl ⟨rfl, HZ.out.one.tq, HZ.out.one.kp⟩
end
end Go.Proofs.YtcffeokbipjaoaaGreat
namespace Go.Proofs.YtcffeokbipjaoaaGreat
open Go.ChangeShapes Go.WideShapes Go.RowKit
set_option linter.unusedVariables false
set_option linter.unusedSimpArgs false
section
variable {q hs sp sc sf rp ra rb hp hb : Nat} {A : Option Addr} {N n m : Nat} {V H : Nat → Int} {T : Nat → Bool} {R : Nat → Rq} {F : Nat → Nat} {L : Nat → List Nat} {ub : Int} {D : List En}
theorem rowE_at {k : Nat} (h : k < N) : rowE N L (k : Int) = L k := by unfold rowE; rw [if_neg (by omega), Int.toNat_natCast]
set_option maxHeartbeats 1000000 in
theorem tlast_some {t : Nat} (ht : t < N) (hn : 0 < (L t).length) (hz : ∀ r, t < r → r < N → (L r).length = 0) (w : World) (h : TqAt w q hs sp sc sf rp ra rb hp hb A N n V H T R m F L ub D) (hN : N ≤ 1000) :
   Calls Tryz.prog 168 #[.pointer (some ⟨q, 0, none⟩)] w fun e w' => e = .returned (.tuple #[.int .i64 (t : Int), .bool true]) ∧ w = w' := by
 have HQ := Lib.hid h
 clear h
 go_enter Tryz.func168, Tryz.ntmps168
 go_wp2_with (go_at_call 90; refine (ttier _ HQ.out).mono ?_; rintro e w1 ⟨rfl, rfl⟩)
 go_loopw [4, 5, 6, 9] (fun s4 s5 s6 s9 wr => ∃ k : Nat, k ≤ N ∧ s9 = .int .i64 k ∧ (t < k → s4 = .int .i64 (t : Int) ∧ s5 = .bool true) ∧ w = wr) (fun _ _ _ i _ => N - (intOf i).toNat)
 case atStart => exact ⟨0, Nat.zero_le _, rfl, fun c => by omega, rfl⟩
 case round =>
   obtain ⟨k, hk, rfl, hs, rfl⟩ := hrel
   by_cases hlt : k < N
   · by_cases h0 : (L k).length = 0
     · have hkt : k ≠ t := fun c => by subst c; omega
       go_wp2_with (go_at_call 173; refine (tcount _ _ HQ.out).mono ?_; rw [rowE_at hlt, h0]; rintro e w1 ⟨rfl, rfl⟩)
       go_roundw
       case rel => exact ⟨k + 1, by omega, by go_num, fun c => hs (by omega), trivial⟩
       case measure => simp [intOf]; omega
     · have hkt : k ≤ t := by
         rcases Nat.lt_or_ge t k with c | c
         · exact absurd (hz k c hlt) h0
         · exact c
       obtain ⟨z, hzz⟩ : ∃ z, (L k).length = z := ⟨_, rfl⟩
       have hz0 : decide ((0 : Int) < (z : Int)) = true := by simp; omega
       clear hs
       go_wp2_with (go_at_call 173; refine (tcount _ _ HQ.out).mono ?_; rw [rowE_at hlt, hzz]; rintro e w1 ⟨rfl, rfl⟩)
       go_roundw
       case rel => exact ⟨k + 1, by omega, by go_num, fun c => by obtain rfl : k = t := by omega
                                                                  exact ⟨rfl, rfl⟩, trivial⟩
       case measure => simp [intOf]; omega
   · obtain rfl : k = N := by omega
     obtain ⟨rfl, rfl⟩ := hs ht
     go_wp2_with fail
     go_ret2
     exact ⟨rfl, rfl⟩
end
end Go.Proofs.YtcffeokbipjaoaaGreat
namespace Go.Proofs.YtcffeokbipjaoaaGreat
open Go.ChangeShapes Go.WideShapes Go.RowKit
set_option linter.unusedVariables false
set_option linter.unusedSimpArgs false
theorem hdinfo : (Tryz.prog.info? 105).map (fun i => (i.zero, i.size, i.bytes)) = some (some (.int .u64 0), 1, 8) := by kernel_rfl
theorem run_hands (n : Nat) (hn : n ≤ 4096) (w : World) :
   (Instr.makeSlice 157 (.int .i64 (n : Int)) (.int .i64 (n : Int))).run Tryz.prog w = .ok (.slice (some ⟨w.heap.size, 0, none⟩) n n) (w.alloc (.cells (madeCells #[.int .u64 0] n) 105)) := by
 obtain ⟨i, hi, hzz⟩ := Option.map_eq_some_iff.1 hdinfo
 simp only [Prod.mk.injEq] at hzz
 obtain ⟨hz, hs, hb⟩ := hzz
 have h := run_make (P := Tryz.prog) w 157 105 i _ Tryz.underlying157 hi hz .i64 .i64 n n (by omega) (Int.le_refl _) (by rw [hb]; omega) (by omega)
 simp only [Int.toNat_natCast, hs, Nat.mul_one] at h
 exact h
def hdL (K : Nat → Int) (n : Nat) : List Value := (List.range n).map fun i => .int .u64 (K i)
theorem hdL_len (K : Nat → Int) (n : Nat) : (hdL K n).length = n := by simp [hdL]
theorem hdL_get (K : Nat → Int) {n i : Nat} (h : i < n) : (hdL K n)[i]? = some (.int .u64 (K i)) := by
 unfold hdL; rw [List.getElem?_map, List.getElem?_range h]; rfl
theorem hdL_congr {K K' : Nat → Int} {n : Nat} (h : ∀ i, i < n → K i = K' i) : hdL K n = hdL K' n := by
 unfold hdL
 refine List.map_congr_left fun i hi => ?_
 rw [h i (List.mem_range.1 hi)]
def upH (K : Nat → Int) (j : Nat) (x : Int) (i : Nat) : Int := if i = j then x else K i
theorem hdL_set (K : Nat → Int) (n j : Nat) (x : Int) : (hdL K n).set j (.int .u64 x) = hdL (upH K j x) n := by
 refine List.ext_getElem? fun i => ?_
 by_cases hi : i < n
 · rw [List.getElem?_set, hdL_len, hdL_get _ hi, hdL_get _ hi]
   by_cases e : j = i
   · subst e; simp [upH, hi]
   · simp [upH, e, Ne.symm e]
 · rw [List.getElem?_eq_none (by simp [hdL_len]; omega), List.getElem?_eq_none (by rw [hdL_len]; omega)]
def OwH (w : World) (base : Nat) (v : Value) (n : Nat) (K : Nat → Int) : Prop := w.ownsRow base 105 1 v n (hdL K n)
section
variable {w w' : World} {base n g c : Nat} {v : Value} {K K' : Nat → Int}
theorem OwH.below (h : OwH w base v n K) (hb : Below w.heap.size w w') : OwH w' base v n K := own_kept h (Kept.of_below (own := fun _ => False) hb) (fun _ _ _ h => h)
theorem OwH.congr_ (h : OwH w base v n K) (hc : ∀ i, i < n → K i = K' i) : OwH w base v n K' := by
 unfold OwH; rw [← hdL_congr hc]; exact h
theorem OwH.at_ (h : OwH w base (.slice (some ⟨g, 0, none⟩) n c) n K) {i : Nat} (hi : i < n) : w.cell? ⟨g, i, none⟩ = some (.int .u64 (K i)) := by
 have e := World.ownsRow.cellAt (size := 1) h i (by omega)
 rw [e]; exact hdL_get K hi
theorem OwH.free (h : OwH w base (.slice (some ⟨g, 0, none⟩) n c) n K) (i : Nat) : w.frozen? ⟨g, i, none⟩ = false := World.ownsRow.frozenAt (size := 1) h i
theorem OwH.set_ (h : OwH w base (.slice (some ⟨g, 0, none⟩) n c) n K) (j : Nat) (x : Int) : OwH (w.setCell ⟨g, j, none⟩ (.int .u64 x)) base (.slice (some ⟨g, 0, none⟩) n c) n (upH K j x) := by
 have := (World.ownsRow.stored (size := 1) h j (.int .u64 x)).1
 rw [hdL_set] at this
 exact this
theorem OwH.lo (h : OwH w base (.slice (some ⟨g, 0, none⟩) n c) n K) : base ≤ g ∧ g < w.heap.size := by
 rcases h.2 with ⟨e, _⟩ | ⟨g', cap, cur, e, hb, hg, _⟩
 · cases e
 · injection e with e _ _; injection e with e; injection e with e; subst e
   exact ⟨hb, Blk.size (cs := cur) hg⟩
theorem madeH (w : World) (n : Nat) (hn : n ≤ 4096) (hb : base ≤ w.heap.size) : OwH (w.alloc (.cells (madeCells #[.int .u64 0] n) 105)) base (.slice (some ⟨w.heap.size, 0, none⟩) n n) n (fun _ => 0) := by
 have h := World.ownsRow_lit (e := 105) (base := base) (size := 1) w (madeCells #[.int .u64 0] n) n hb (by unfold maxLen; omega) (by rw [size_madeCells]; omega)
 have e : (madeCells #[.int .u64 0] n).toList = hdL (fun _ => 0) n := by
   refine List.ext_getElem? fun i => ?_
   by_cases hi : i < n
   · rw [hdL_get _ hi]; simp [madeCells, hi, Nat.mod_one]
   · rw [List.getElem?_eq_none (by simp [size_madeCells]; omega), List.getElem?_eq_none (by rw [hdL_len]; omega)]
 unfold OwH
 rw [← e]
 exact h
end
section
variable {q hs sp sc sf rp ra rb hp hb : Nat} {A : Option Addr} {N n m : Nat} {V H : Nat → Int} {T : Nat → Bool} {R : Nat → Rq} {F : Nat → Nat} {L : Nat → List Nat} {ub : Int} {D : List En}
def memE (D : List En) (i : Nat) : Nat := ((D[i]?).map fun e => e.m.toNat).getD 0
set_option maxHeartbeats 2000000 in
theorem tdue (now : Int) (w : World) (h : TqAt w q hs sp sc sf rp ra rb hp hb A N n V H T R m F L ub D) :
   Calls Tryz.prog 81 #[.pointer (some ⟨q, 0, none⟩), .int .i64 now] w fun e w' => ∃ g, e = .returned (.slice (some ⟨g, 0, none⟩) (dueE now D).length (dueE now D).length) ∧ OwH w' w.heap.size (.slice (some ⟨g, 0, none⟩) (dueE now D).length (dueE now D).length) (dueE now D).length (fun i => V (memE (dueE now D) i)) ∧ Below w.heap.size w w' := by
 have hL := h.heap.heapL
 have hlen := hL.len
 have hran := hL.range
 have q3 := h.q3
 have HQ := Lib.hid h
 have HL := Lib.hid hL
 clear h hL
 obtain ⟨D', hD'⟩ : ∃ D', dueE now D = D' := ⟨_, rfl⟩
 have hdl : D'.length ≤ n := by rw [← hD']; exact Nat.le_trans (List.length_filter_le _ _) hlen.1
 have hdr : ∀ e ∈ D', 0 ≤ e.m ∧ e.m < (n : Int) := fun e he => hran e (List.mem_filter.1 (show e ∈ dueE now D from by rw [hD']; exact he)).1
 have HDR := Lib.hid hdr
 have hmk := run_hands D'.length (by omega)
 have hdu := fun W hW => ldue (base := 0) (p := hp) (n := n) (L := D) now W hW
 rw [hD'] at hdu ⊢
 have HDU := Lib.hid hdu
 clear hD' hran hdr hdu
 have hsz := hlen.2
 go_enter Tryz.func81, Tryz.ntmps81
 go_upto_region 4 with (go_at_call 118; refine (HDU.out _ HL.out).mono ?_; rintro e w1 ⟨gd, rfl, ho1, hb1⟩; have HO1 := Lib.hid ho1; have HB1 := Lib.hid hb1; clear ho1 hb1)
 have s1 := HB1.out.size
 go_wp2_with fail
 go_loopw [7, 8, 22] (fun s7 s8 s22 wr => ∃ (k : Nat) (K : Nat → Int), k ≤ D'.length ∧ s22 = .int .i64 k ∧ OwH wr w.heap.size (.slice (some ⟨w1.heap.size, 0, none⟩) D'.length D'.length) D'.length K ∧ (∀ i, i < k → K i = V (memE D' i)) ∧ Below w1.heap.size w1 wr) (fun _ _ i _ => D'.length - (intOf i).toNat)
 case atStart => exact ⟨0, fun _ => 0, Nat.zero_le _, rfl, madeH w1 _ (by omega) s1, fun i hi => absurd hi (Nat.not_lt_zero i), (Below.refl _ _).alloc (Nat.le_refl _) _⟩
 case round =>
   obtain ⟨k, K, hk, rfl, ho, hK, hbr⟩ := hrel
   have HO := Lib.hid ho
   have HKK := Lib.hid hK
   have HBR := Lib.hid hbr
   by_cases hlt : k < D'.length
   · obtain ⟨e, he⟩ : ∃ e, D'[k]? = some e := ⟨D'[k], List.getElem?_eq_getElem hlt⟩
     have her := HDR.out e (List.mem_of_getElem? he)
     obtain ⟨em, hem⟩ : ∃ em : Nat, e.m = (em : Int) := ⟨e.m.toNat, by omega⟩
     have hmem : memE D' k = em := by unfold memE; rw [he]; simp [hem]
     have hx := HQ.out.below (HB1.out.trans (hbr.mono s1))
     have q4 := hx.q4
     have v4 := hx.h0 (i := em) (by omega)
     have c0 : w1.cell? ⟨gd, k, none⟩ = some (.int .i64 (em : Int)) := by
       have e1 := World.ownsRow.cellAt (size := 1) HO1.out k (by omega)
       rw [e1, List.getElem?_map, he]; simp [hem]
     have c1 : wr.cell? ⟨gd, k, none⟩ = some (.int .i64 (em : Int)) := (hbr.cell (p := ⟨gd, k, none⟩) (klt c0)).trans c0
     have z0 := ho.free
     have d0 := ho.at_ hlt
     have e0 : (0 : Int) ≤ (em : Int) := by omega
     have e1 : (em : Int) < (n : Int) := by omega
     have e2 : em < n := by omega
     have zg := klt c1
     have zw := ho.lo.2
     have HM := Lib.hid hmem
     clear ho hK hbr hx her he hmem c0
     go_wp2_with fail
     go_roundw
     case rel =>
       refine ⟨k + 1, upH K k (V em), by omega, by go_num, HO.out.set_ k (V em), fun i hi => ?_, HBR.out.setCell (p := ⟨w1.heap.size, k, none⟩) (Nat.le_refl _) _⟩
       unfold upH
       by_cases c : i = k
       · rw [if_pos c, c, HM.out]
       · rw [if_neg c]; exact HKK.out i (by omega)
     case measure => simp [intOf]; omega
   · obtain rfl : k = D'.length := by omega
     clear ho hK hbr
     go_wp2_with fail
     go_ret
     exact ⟨_, rfl, HO.out.congr_ HKK.out, HB1.out.trans (HBR.out.mono s1)⟩
end
end Go.Proofs.YtcffeokbipjaoaaGreat
namespace Go.Proofs.YtcffeokbipjaoaaGreat
open Go.ChangeShapes Go.WideShapes Go.RowKit
set_option linter.unusedVariables false
set_option linter.unusedSimpArgs false
theorem HeapB.alloc {w : World} {p b n : Nat} {A : Option Addr} {L : List En} (h : HeapB w p b n A L) (o : Obj) : HeapB (w.alloc o) p b n A L := h.below ((Below.refl _ _).alloc (Nat.le_refl _) _)
theorem RowsL.lts {w : World} {p a b N M : Nat} {L : Nat → List Nat} {ub : Int} (h : RowsL w p a b N M L ub) : p < w.heap.size ∧ a < w.heap.size ∧ b < w.heap.size := RowsAt.lts h
set_option maxHeartbeats 4000000 in
set_option maxRecDepth 100000 in
theorem tnew_yes (N n : Nat) (w : World) (n0 : 1 ≤ N) (n1 : N ≤ 8) (m0 : 1 ≤ n) (m1 : n ≤ 1024) :
   Calls Tryz.prog 37 #[.int .i64 (N : Int), .int .i64 (n : Int)] w fun e w' => ∃ q hs sp sc sf rp ra rb hp hb : Nat, e = .returned (.tuple #[.pointer (some ⟨q, 0, none⟩), .int .i64 0]) ∧
     (w.heap.size ≤ q ∧ w.heap.size ≤ hs ∧ (w.heap.size ≤ sp ∧ w.heap.size ≤ sc ∧ w.heap.size ≤ sf) ∧ (w.heap.size ≤ ra ∧ w.heap.size ≤ rb) ∧ w.heap.size ≤ hp ∧ w.heap.size ≤ hb) ∧
     TqAt w' q hs sp sc sf rp ra rb hp hb none N n (fun _ => 0) (fun i => i) (fun _ => false) (fun _ => ⟨0, 0, 0, 0, 0⟩) n (fun j => n - 1 - j) (fun _ => []) 0 [] ∧ Below w.heap.size w w' := by
 have hmk := run_hands n (by omega)
 go_enter Tryz.func37, Tryz.ntmps37
 go_upto_region 4 with (go_at_call 75; refine (dnew_yes N n _ n0 n1 m0 m1).mono ?_; rintro e w1 ⟨rp, ra, rb, rfl, h1, h2, h3, hd, hb1⟩; have HD : Hid (RowsL w1 rp ra rb N n (fun _ => []) 0) := Lib.hid ⟨_, _, _, _, _, _, _, hd, Rep.start N n, fun _ => ⟨by simp, by simp⟩⟩; have HB1 := Lib.hid hb1; have s1 := hb1.size; clear hd hb1)
 go_upto_region 5 with (go_at_call 76; refine (slnew_yes n _ m0 m1).mono ?_; rintro e w2 ⟨sp, sc, sf, rfl, h4, h5, h6, hd, hb2⟩; have HS := Lib.hid hd; have HB2 := Lib.hid hb2; have s2 := hb2.size; clear hd hb2)
 go_upto_region 6 with (go_at_call 77; refine (bnew_yes n m0 m1 _).mono ?_; rintro e w3 ⟨hp, hb, rfl, h7, h8, hd, hb3⟩; have HH := Lib.hid hd; have HB3 := Lib.hid hb3; have s3 := hb3.size; clear hd hb3)
 go_wp2_with fail
 go_ret2
 have hr := RowsL.lts HD.out
 have hs := HS.out.lts
 have B13 := HB2.out.trans (HB3.out.mono s2)
 have B3e : Below w3.heap.size w3 ((w3.alloc (.cells (madeCells #[.int .u64 0] n) 105)).alloc (.cells #[.int .i64 (N : Int), .pointer (some ⟨sp, 0, none⟩), .pointer (some ⟨rp, 0, none⟩), .pointer (some ⟨hp, 0, none⟩), .slice (some ⟨w3.heap.size, 0, none⟩) n n] 159)) := ((Below.refl _ _).alloc (Nat.le_refl _) _).alloc (by simp) _
 refine ⟨w3.heap.size + 1, w3.heap.size, sp, sc, sf, rp, ra, rb, hp, hb, by simp, ⟨by omega, by omega, ⟨by omega, by omega, by omega⟩, ⟨by omega, by omega⟩, by omega, by omega⟩, ⟨Blk.new_ (by simp), ?_, ?_, HH.out.below B3e, ?_, by omega⟩, ?_⟩
 · exact (HS.out.below HB3.out (by omega) (by omega) (by omega)).below B3e (by omega) (by omega) (by omega)
 · exact RowsAt.below (RowsAt.below HD.out B13 hr.1 hr.2.1 hr.2.2) B3e (by omega) (by omega) (by omega)
 · refine ⟨madeCells #[.int .u64 0] n, (Blk.made w3 _ _).alloc_ _, size_madeCells _ _, fun i hi => ?_⟩
   simp [madeCells, hi, Nat.mod_one]
 · exact (HB1.out.trans (B13.mono s1)).trans (B3e.mono (by omega))
end Go.Proofs.YtcffeokbipjaoaaGreat
