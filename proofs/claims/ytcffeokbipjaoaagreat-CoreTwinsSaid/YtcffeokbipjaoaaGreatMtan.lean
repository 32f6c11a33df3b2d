/- Texts of this claim, one behind the other: Tqc. -/
import Derived.Deep.RegionWith
import Derived.Deep.DeepCutAuto
import Derived.BigQuiet
import Derived.Deep.QuietTactic
import Derived.Test.YtcffeokbipjaoaaGreatMtaa
import Derived.Test.YtcffeokbipjaoaaGreatMtam
namespace Go.Proofs.YtcffeokbipjaoaaGreat
open Go.ChangeShapes Go.WideShapes Go.RowKit
set_option linter.unusedVariables false
set_option linter.unusedSimpArgs false
def tOwn (hs sp sc sf ra rb hp hb : Nat) (A : Option Addr) : Nat → Prop := fun g => g = hs ∨ (g = sp ∨ g = sc ∨ g = sf) ∨ (g = ra ∨ g = rb) ∨ hOwnP hp hb A g
section
variable {q hs sp sc sf rp ra rb hp hb : Nat} {A : Option Addr} {N n m : Nat} {V H : Nat → Int} {T : Nat → Bool} {R : Nat → Rq} {F : Nat → Nat} {L : Nat → List Nat} {ub : Int} {D : List En}
abbrev rqL (a b c d e : Int) : Array Value := #[.int .u64 a, .int .i64 b, .int .i64 c, .int .i64 d, .int .i64 e]
section
variable {w x y : World} {B : Nat} {cs : Array Value} {m' : Nat} {H' : Nat → Int} {T' : Nat → Bool} {R' : Nat → Rq} {F' : Nat → Nat} {L' : Nat → List Nat} {ub' : Int} {D' : List En} {A' A0 : Option Addr}
structure Mid (w x : World) (B : Nat) (cs : Array Value) (q hs sp sc sf rp ra rb hp hb : Nat) (A0 A : Option Addr) (N n : Nat) (V H : Nat → Int) (T : Nat → Bool) (R : Nat → Rq) (m : Nat) (F : Nat → Nat) (L : Nat → List Nat) (ub : Int) (D : List En) : Prop where
 tq : TqAt x q hs sp sc sf rp ra rb hp hb A N n V H T R m F L ub D
 bk : Blk x B 107 cs
 kp : Kept (tOwn hs sp sc sf ra rb hp hb A0) w x
theorem Mid.quiet (h : Mid w x B cs q hs sp sc sf rp ra rb hp hb A0 A N n V H T R m F L ub D) (hb' : Below x.heap.size x y) : Mid w y B cs q hs sp sc sf rp ra rb hp hb A0 A N n V H T R m F L ub D :=
 ⟨h.tq.below hb', h.bk.below_ hb' h.bk.size, h.kp.trans (Kept.of_below hb')⟩
theorem Mid.drewN_ (h : Mid w x B cs q hs sp sc sf rp ra rb hp hb A0 A N n V H T R m F L ub D) (j : Nat) : Mid w (x.drewN j) B cs q hs sp sc sf rp ra rb hp hb A0 A N n V H T R m F L ub D := h.quiet (below_drewN_ (Below.refl _ _) j)
theorem Mid.drew_ (h : Mid w x B cs q hs sp sc sf rp ra rb hp hb A0 A N n V H T R m F L ub D) : Mid w x.drew B cs q hs sp sc sf rp ra rb hp hb A0 A N n V H T R m F L ub D := h.quiet (Below.drew (Below.refl _ _))
theorem Mid.took (h : Mid w x B cs q hs sp sc sf rp ra rb hp hb A0 A N n V H T R m F L ub D) (hk : Kept (fun g => g = sp ∨ g = sc ∨ g = sf) x y) (hn : SlabAt y sp sc sf n H' T' R' m' F') : Mid w y B cs q hs sp sc sf rp ra rb hp hb A0 A N n V H' T' R' m' F' L ub D :=
 ⟨h.tq.slabbed hk hn, h.bk.kept hk (h.tq.slab.apart h.bk (by decide) (by decide) (by decide)), h.kp.trans (hk.more fun g _ hg => .inr (.inl hg))⟩
theorem Mid.rowed (h : Mid w x B cs q hs sp sc sf rp ra rb hp hb A0 A N n V H T R m F L ub D) (hk : Kept (fun g => g = ra ∨ g = rb) x y) (hn : RowsL y rp ra rb N n L' ub') : Mid w y B cs q hs sp sc sf rp ra rb hp hb A0 A N n V H T R m F L' ub' D :=
 ⟨h.tq.rowed hk hn, h.bk.kept hk (h.tq.rows.apart h.bk (by decide) (by decide)), h.kp.trans (hk.more fun g _ hg => .inr (.inr (.inl hg)))⟩
theorem Mid.heaped (h : Mid w x B cs q hs sp sc sf rp ra rb hp hb A A N n V H T R m F L ub D) (hk : Kept (hOwnP hp hb A) x y) (hn : HeapB y hp hb n A' D') : Mid w y B cs q hs sp sc sf rp ra rb hp hb A A' N n V H T R m F L ub D' := by
 obtain ⟨_, ⟨c4, t4⟩, _⟩ := h.tq.heap.types
 exact ⟨h.tq.heaped hk hn, h.bk.kept hk (h.tq.heap.apart h.bk (by decide) (by decide) (h.bk.other t4 (by decide))), h.kp.trans (hk.more fun g _ hg => .inr (.inr (.inr hg)))⟩
theorem Mid.handed (h : Mid w x B cs q hs sp sc sf rp ra rb hp hb A0 A N n V H T R m F L ub D) {i : Nat} (hi : i < n) (v : Int) : Mid w (x.setCell ⟨hs, i, none⟩ (.int .u64 v)) B cs q hs sp sc sf rp ra rb hp hb A0 A N n (fun j => if j = i then v else V j) H T R m F L ub D := by
 obtain ⟨cs1, bc, _⟩ := h.tq.hand
 exact ⟨h.tq.handed hi v, h.bk.far _ (h.bk.other bc (by decide)), h.kp.set_ (.inl (.inl rfl)) _⟩
end
theorem rq_in (a b c d e : Int) (w : World) (h : TqAt w q hs sp sc sf rp ra rb hp hb A N n V H T R m F L ub D) : Mid w (w.alloc (.cells (rqL a b c d e) 107)) w.heap.size (rqL a b c d e) q hs sp sc sf rp ra rb hp hb A A N n V H T R m F L ub D :=
 ⟨h.below ((Below.refl _ _).alloc (Nat.le_refl _) _), Blk.made _ _ _, (Kept.refl _ _).alloc_ _⟩
set_option maxHeartbeats 4000000 in
set_option maxRecDepth 100000 in
theorem tput_yes (a b k d e : Int) (w : World) (h : TqAt w q hs sp sc sf rp ra rb hp hb A N n V H T R (m + 1) F L ub D) {i : Nat} (hi : F m = i) (hF : i < n) (h0 : 0 ≤ H i) (h1 : H i + 4294967296 ≤ 18446744073709551615) (hc : (H i + 4294967296) % 4294967296 = (i : Int))
   (b0 : 0 ≤ b) (b1 : b < (N : Int)) (hR : inB N L i = false) (hD : hasE (i : Int) D = false) (hu : ub ≤ 1000000) :
   Calls Tryz.prog 123 #[.pointer (some ⟨q, 0, none⟩), .agg #[.int .u64 a, .int .i64 b, .int .i64 k, .int .i64 d, .int .i64 e]] w fun x w' => x = .returned (.tuple #[.int .u64 (H i + 4294967296), .int .i64 0]) ∧
     ∃ A', TqAt w' q hs sp sc sf rp ra rb hp hb A' N n (fun j => if j = i then H i + 4294967296 else V j) (fun j => if j = i then H i + 4294967296 else H j) (fun j => if j = i then true else T j) (fun j => if j = i then ⟨a, b, k, d, e⟩ else R j) m F (pushQ N n L b i) (ub + 1) (insE ⟨d, a, i⟩ D) ∧ Kept (tOwn hs sp sc sf ra rb hp hb A) w w' ∧ ∀ x, A' = some x → (∃ y, A = some y ∧ y.block = x.block) ∨ w.heap.size ≤ x.block := by
 have n0 := h.slab.n0
 have hq := h.sizes
 have HQ := Lib.hid h
 have HI := Lib.hid hi
 have HC := Lib.hid hc
 have HR := Lib.hid hR
 have HD := Lib.hid hD
 clear h hi hc hR hD
 go_enter Tryz.func123, Tryz.ntmps123
 go_upto_region 3 with fail
 refine wp_worldx (fun wx => Mid w wx w.heap.size (rqL a b k d e) q hs sp sc sf rp ra rb hp hb A A N n V H T R (m + 1) F L ub D) (rq_in a b k d e w HQ.out) ?_
 rintro x1 hx
 have e1 : decide (b < 0) = false := by simp; omega
 have e2 : decide ((N : Int) ≤ b) = false := by simp; omega
 have q0 := hx.tq.q0
 have p1 := hx.bk.val (i := 1) rfl
 have zb := hx.bk.size
 have HX := Lib.hid hx
 clear hx
 go_quiet (fail)
 go_upto_region 5 with fail
 refine wp_worldx (fun wx => Mid w wx w.heap.size (rqL a b k d e) q hs sp sc sf rp ra rb hp hb A A N n V H T R (m + 1) F L ub D) (HX.out.drewN_ _) ?_
 clear HX q0 p1 e1 e2 zb
 rintro x2 hx
 have q1 := hx.tq.q1
 have p0 := hx.bk.val (i := 0) rfl
 have p1 := hx.bk.val (i := 1) rfl
 have p2 := hx.bk.val (i := 2) rfl
 have p3 := hx.bk.val (i := 3) rfl
 have p4 := hx.bk.val (i := 4) rfl
 have zb := hx.bk.size
 have HX := Lib.hid hx
 clear hx
 go_cut [6, 7] (fun s6 s7 wx => s6 = .int .u64 (H i + 4294967296) ∧ s7 = .int .i64 0 ∧ Mid w wx w.heap.size (rqL a b k d e) q hs sp sc sf rp ra rb hp hb A A N n V (fun j => if j = i then H i + 4294967296 else H j) (fun j => if j = i then true else T j) (fun j => if j = i then ⟨a, b, k, d, e⟩ else R j) m F L ub D)
 case first =>
   go_region_with (go_at_call 170; refine (sltake_any a b k d e _ (Mid.tq (by first | exact HX.out | exact HX.out.drew_ | exact HX.out.drewN_ _)).slab HI.out hF h0 h1).mono ?_; rintro x wn ⟨rfl, hsl, hkn⟩)
   all_goals (go_wp2_with fail; go_meet; exact ⟨rfl, rfl, (show Mid w _ w.heap.size (rqL a b k d e) q hs sp sc sf rp ra rb hp hb A A N n V H T R (m + 1) F L ub D from (by first | exact HX.out | exact HX.out.drew_ | exact HX.out.drewN_ _)).took hkn hsl⟩)
 case rest =>
   clear HX q1 p0 p1 p2 p3 p4 zb
   obtain ⟨rfl, rfl, hx⟩ := hcut
   go_upto_region 8 with fail
   have v4 := hx.tq.h0 hF
   have z4 := hx.tq.zh i
   have q4 := hx.tq.q4
   have zb := hx.bk.size
   have HX := Lib.hid hx
   clear hx
   go_cut [] (fun wx => Mid w wx w.heap.size (rqL a b k d e) q hs sp sc sf rp ra rb hp hb A A N n (fun j => if j = i then H i + 4294967296 else V j) (fun j => if j = i then H i + 4294967296 else H j) (fun j => if j = i then true else T j) (fun j => if j = i then ⟨a, b, k, d, e⟩ else R j) m F L ub D)
   case first =>
     go_region_with (go_at_call 166; refine (slcell_any _ _ (by omega) (by omega)).mono ?_; rintro x wn ⟨rfl, rfl⟩; rw [HC.out])
     all_goals (go_wp2_with fail; go_meet; first | exact (show Mid w _ w.heap.size (rqL a b k d e) q hs sp sc sf rp ra rb hp hb A A N n V (fun j => if j = i then H i + 4294967296 else H j) (fun j => if j = i then true else T j) (fun j => if j = i then ⟨a, b, k, d, e⟩ else R j) m F L ub D from (by first | exact HX.out | exact HX.out.drew_ | exact HX.out.drewN_ _)).handed hF _ | exact (Mid.handed HX.out hF (H i + 4294967296)).drew_)
   case rest =>
     clear HX q4 v4 z4 zb
     have hx := hcut
     clear hcut
     go_upto_region 9 with fail
     have q2 := hx.tq.q2
     have p1 := hx.bk.val (i := 1) rfl
     have zb := hx.bk.size
     have HX := Lib.hid hx
     clear hx
     go_cut [] (fun wx => Mid w wx w.heap.size (rqL a b k d e) q hs sp sc sf rp ra rb hp hb A A N n (fun j => if j = i then H i + 4294967296 else V j) (fun j => if j = i then H i + 4294967296 else H j) (fun j => if j = i then true else T j) (fun j => if j = i then ⟨a, b, k, d, e⟩ else R j) m F (pushQ N n L b i) (ub + 1) D)
     case first =>
       go_region_with (first | (go_at_call 166; refine (slcell_any _ _ (by omega) (by omega)).mono ?_; rintro x wn ⟨rfl, rfl⟩; rw [HC.out]) | (go_at_call 171; refine (push_any b i _ (Mid.tq (by first | exact HX.out | exact HX.out.drew_ | exact HX.out.drewN_ _)).rows n0 hu).mono ?_; rintro x wn ⟨rfl, hsl, hkn⟩))
       all_goals (go_wp2_with fail; go_meet; exact (show Mid w _ w.heap.size (rqL a b k d e) q hs sp sc sf rp ra rb hp hb A A N n (fun j => if j = i then H i + 4294967296 else V j) (fun j => if j = i then H i + 4294967296 else H j) (fun j => if j = i then true else T j) (fun j => if j = i then ⟨a, b, k, d, e⟩ else R j) m F L ub D from (by first | exact HX.out | exact HX.out.drew_ | exact HX.out.drewN_ _)).rowed hkn hsl)
     case rest =>
       clear HX q2 p1 zb
       have hx := hcut
       clear hcut
       go_upto_region 10 with fail
       have q3 := hx.tq.q3
       have p0 := hx.bk.val (i := 0) rfl
       have p3 := hx.bk.val (i := 3) rfl
       have zb := hx.bk.size
       have HX := Lib.hid hx
       clear hx
       go_cut [] (fun wx => ∃ A', Mid w wx w.heap.size (rqL a b k d e) q hs sp sc sf rp ra rb hp hb A A' N n (fun j => if j = i then H i + 4294967296 else V j) (fun j => if j = i then H i + 4294967296 else H j) (fun j => if j = i then true else T j) (fun j => if j = i then ⟨a, b, k, d, e⟩ else R j) m F (pushQ N n L b i) (ub + 1) (insE ⟨d, a, i⟩ D) ∧ ∀ x, A' = some x → (∃ y, A = some y ∧ y.block = x.block) ∨ w.heap.size ≤ x.block)
       case first =>
         go_region_with (first | (go_at_call 166; refine (slcell_any _ _ (by omega) (by omega)).mono ?_; rintro x wn ⟨rfl, rfl⟩; rw [HC.out]) | (go_at_call 172; refine (bput_new d a hF HD.out _ (Mid.tq (by first | exact HX.out | exact HX.out.drew_ | exact HX.out.drewN_ _)).heap).mono ?_; rintro x wn ⟨rfl, A', hsl, hkn, hal⟩))
         all_goals (go_wp2_with fail; go_meet; exact ⟨_, (show Mid w _ w.heap.size (rqL a b k d e) q hs sp sc sf rp ra rb hp hb A A N n (fun j => if j = i then H i + 4294967296 else V j) (fun j => if j = i then H i + 4294967296 else H j) (fun j => if j = i then true else T j) (fun j => if j = i then ⟨a, b, k, d, e⟩ else R j) m F (pushQ N n L b i) (ub + 1) D from (by first | exact HX.out | exact HX.out.drew_ | exact HX.out.drewN_ _)).heaped hkn hsl, fun x hx => (hal x hx).imp id (fun c => Nat.le_trans HX.out.kp.size (by simpa using c))⟩)
       case rest =>
         clear HX q3 p0 p3 zb
         obtain ⟨A', hx, hal⟩ := hcut
         have HAL := Lib.hid hal
         clear hal
         have HX := Lib.hid hx
         clear hx
         clear HQ HI HC HR HD
         go_upto_region 11 with fail
         go_wp2_with fail
         go_ret2
         exact ⟨rfl, A', HX.out.tq, HX.out.kp, HAL.out⟩
end
end Go.Proofs.YtcffeokbipjaoaaGreat
