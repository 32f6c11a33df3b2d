/- Texts of this claim, one behind the other: Rng Rngb Rngc Rngd. -/
import Derived.Test.YtcffeokbipjaoaaGreatProg
import Derived.WalkKit
import Derived.IntWalk
import Derived.Lib.Hide
import Derived.Deep.QuietTactic
import Derived.BigQuiet
import Derived.Laws.LoneSync
import Derived.Deep.DeepCutAuto
import Derived.StillTailTactics
import Derived.Deep.RegionHeld3
import Derived.Deep.DrawnRows
import Derived.Test.YtcffeokbipjaoaaGreatMuaa
namespace Go.Proofs.YtcffeokbipjaoaaGreat
open Go.RowKit
set_option linter.unusedVariables false
structure Rg where
 T : Nat
 H : Nat
 S : Nat → Nat
 V : Nat → Int
structure Ac where
 nx : Int
 po : Nat
 pl : Nat
 pu : Int
 pp : Int
 rd : Bool
 st : Bool
structure RingAt (w : World) (r s n : Nat) (g : Rg) : Prop where
 n0 : 0 < n
 n1 : n ≤ 64
 head : Blk w r 181 #[.int .u64 (g.T : Int), .int .u64 (g.H : Int), .slice (some ⟨s, 0, none⟩) n n]
 slots : ∃ cs, Blk w s 183 cs ∧ cs.size = n * 2 ∧ ∀ i, i < n → cs[i * 2]? = some (.int .u64 (g.S i : Int)) ∧ cs[i * 2 + 1]? = some (.int .u64 (g.V i))
def ActAt (w : World) (a r : Nat) (c : Ac) : Prop := Blk w a 256 #[.pointer (some ⟨r, 0, none⟩), .int .i64 c.nx, .int .u64 (c.po : Int), .int .u64 (c.pl : Int), .int .u64 c.pu, .int .u64 c.pp, .bool c.rd, .bool c.st]
section
variable {w w' : World} {a r s n : Nat} {g : Rg} {c : Ac}
theorem RingAt.kept {own : Nat → Prop} (h : RingAt w r s n g) (hk : Kept own w w') (hr : ¬ own r) (hs : ¬ own s) : RingAt w' r s n g := by
 obtain ⟨a1, a2, hd, ⟨cs, b, bz, bc⟩⟩ := h
 exact ⟨a1, a2, hd.kept hk hr, ⟨cs, b.kept hk hs, bz, bc⟩⟩
theorem RingAt.lts (h : RingAt w r s n g) : r < w.heap.size ∧ s < w.heap.size := by
 obtain ⟨a1, a2, hd, ⟨cs, b, bz, bc⟩⟩ := h
 exact ⟨hd.size, b.size⟩
theorem RingAt.below {B : Nat} (h : RingAt w r s n g) (hb : Below B w w') (hr : r < B) (hs : s < B) : RingAt w' r s n g := by
 obtain ⟨a1, a2, hd, ⟨cs, b, bz, bc⟩⟩ := h
 exact ⟨a1, a2, hd.below_ hb hr, ⟨cs, b.below_ hb hs, bz, bc⟩⟩
theorem RingAt.drewN_ (h : RingAt w r s n g) (k : Nat) : RingAt (w.drewN k) r s n g := h.kept (own := fun _ => False) ((Kept.refl _ _).drewN_ k) id id
theorem RingAt.drew_ (h : RingAt w r s n g) : RingAt w.drew r s n g := h.kept (own := fun _ => False) (Kept.refl _ _).drew_ id id
theorem RingAt.alloc_ (h : RingAt w r s n g) (o : Obj) : RingAt (w.alloc o) r s n g := h.kept (own := fun _ => False) ((Kept.refl _ _).alloc_ o) id id
theorem RingAt.rs (h : RingAt w r s n g) : r ≠ s := by obtain ⟨a1, a2, hd, ⟨cs, b, bz, bc⟩⟩ := h; exact hd.other b (by decide)
theorem RingAt.apart {t : TypeId} {cs : Array Value} {k : Nat} (h : RingAt w r s n g) (hb : Blk w k t cs) (h1 : t ≠ 181) (h2 : t ≠ 183) : k ≠ r ∧ k ≠ s := by
 obtain ⟨a1, a2, hd, ⟨cs', b, bz, bc⟩⟩ := h
 exact ⟨hb.other hd h1, hb.other b h2⟩
theorem RingAt.t0 (h : RingAt w r s n g) : w.cell? ⟨r, 0, none⟩ = some (.int .u64 (g.T : Int)) := h.head.val (i := 0) rfl
theorem RingAt.h0 (h : RingAt w r s n g) : w.cell? ⟨r, 1, none⟩ = some (.int .u64 (g.H : Int)) := h.head.val (i := 1) rfl
theorem RingAt.s0 (h : RingAt w r s n g) : w.cell? ⟨r, 2, none⟩ = some (.slice (some ⟨s, 0, none⟩) n n) := h.head.val (i := 2) rfl
theorem RingAt.zr (h : RingAt w r s n g) (k : Nat) : w.frozen? ⟨r, k, none⟩ = false := h.head.free k
theorem RingAt.zs (h : RingAt w r s n g) (k : Nat) : w.frozen? ⟨s, k, none⟩ = false := by obtain ⟨cs, b, _, _⟩ := h.slots; exact b.free k
theorem RingAt.sq (h : RingAt w r s n g) {i : Nat} (hi : i < n) : w.cell? ⟨s, i * 2, none⟩ = some (.int .u64 (g.S i : Int)) := by obtain ⟨cs, b, _, bc⟩ := h.slots; exact b.val (bc i hi).1
theorem RingAt.vl (h : RingAt w r s n g) {i : Nat} (hi : i < n) : w.cell? ⟨s, i * 2 + 1, none⟩ = some (.int .u64 (g.V i)) := by obtain ⟨cs, b, _, bc⟩ := h.slots; exact b.val (bc i hi).2
theorem RingAt.setT (h : RingAt w r s n g) (x : Nat) : RingAt (w.setCell ⟨r, 0, none⟩ (.int .u64 (x : Int))) r s n { g with T := x } := by
 have e := h.rs
 obtain ⟨a1, a2, hd, ⟨cs, b, bz, bc⟩⟩ := h
 exact ⟨a1, a2, hd.set_ 0 _, ⟨cs, b.far _ (Ne.symm e), bz, bc⟩⟩
theorem RingAt.setH (h : RingAt w r s n g) (x : Nat) : RingAt (w.setCell ⟨r, 1, none⟩ (.int .u64 (x : Int))) r s n { g with H := x } := by
 have e := h.rs
 obtain ⟨a1, a2, hd, ⟨cs, b, bz, bc⟩⟩ := h
 exact ⟨a1, a2, hd.set_ 1 _, ⟨cs, b.far _ (Ne.symm e), bz, bc⟩⟩
theorem RingAt.setS (h : RingAt w r s n g) {i : Nat} (hi : i < n) (x : Nat) : RingAt (w.setCell ⟨s, i * 2, none⟩ (.int .u64 (x : Int))) r s n { g with S := fun j => if j = i then x else g.S j } := by
 have e := h.rs
 obtain ⟨a1, a2, hd, ⟨cs, b, bz, bc⟩⟩ := h
 refine ⟨a1, a2, hd.far _ e, ⟨_, b.set_ _ _, by simpa using bz, fun j hj => ⟨?_, ?_⟩⟩⟩
 · by_cases ej : j = i
   · rw [ej, get_set_same (by omega)]; simp
   · rw [get_set_far (by omega), (bc j hj).1]; simp [ej]
 · rw [get_set_far (by omega)]; exact (bc j hj).2
theorem RingAt.setV (h : RingAt w r s n g) {i : Nat} (hi : i < n) (x : Int) : RingAt (w.setCell ⟨s, i * 2 + 1, none⟩ (.int .u64 x)) r s n { g with V := fun j => if j = i then x else g.V j } := by
 have e := h.rs
 obtain ⟨a1, a2, hd, ⟨cs, b, bz, bc⟩⟩ := h
 refine ⟨a1, a2, hd.far _ e, ⟨_, b.set_ _ _, by simpa using bz, fun j hj => ⟨?_, ?_⟩⟩⟩
 · rw [get_set_far (by omega)]; exact (bc j hj).1
 · by_cases ej : j = i
   · rw [ej, get_set_same (by omega)]; simp
   · rw [get_set_far (by omega), (bc j hj).2]; simp [ej]
theorem RingAt.far (h : RingAt w r s n g) {p : Addr} (hr : r ≠ p.block) (hs : s ≠ p.block) (v : Value) : RingAt (w.setCell p v) r s n g :=
 h.kept (own := fun k => k = p.block) (Kept.set_ (own := fun k => k = p.block) (Kept.refl _ _) (.inl rfl) v) hr hs
theorem ActAt.ring (h : ActAt w a r c) : w.cell? ⟨a, 0, none⟩ = some (.pointer (some ⟨r, 0, none⟩)) := Blk.val h (i := 0) rfl
theorem ActAt.nx (h : ActAt w a r c) : w.cell? ⟨a, 1, none⟩ = some (.int .i64 c.nx) := Blk.val h (i := 1) rfl
theorem ActAt.po (h : ActAt w a r c) : w.cell? ⟨a, 2, none⟩ = some (.int .u64 (c.po : Int)) := Blk.val h (i := 2) rfl
theorem ActAt.pl (h : ActAt w a r c) : w.cell? ⟨a, 3, none⟩ = some (.int .u64 (c.pl : Int)) := Blk.val h (i := 3) rfl
theorem ActAt.pu (h : ActAt w a r c) : w.cell? ⟨a, 4, none⟩ = some (.int .u64 c.pu) := Blk.val h (i := 4) rfl
theorem ActAt.pp (h : ActAt w a r c) : w.cell? ⟨a, 5, none⟩ = some (.int .u64 c.pp) := Blk.val h (i := 5) rfl
theorem ActAt.rd (h : ActAt w a r c) : w.cell? ⟨a, 6, none⟩ = some (.bool c.rd) := Blk.val h (i := 6) rfl
theorem ActAt.st (h : ActAt w a r c) : w.cell? ⟨a, 7, none⟩ = some (.bool c.st) := Blk.val h (i := 7) rfl
theorem ActAt.free (h : ActAt w a r c) (k : Nat) : w.frozen? ⟨a, k, none⟩ = false := Blk.free h k
theorem ActAt.size (h : ActAt w a r c) : a < w.heap.size := Blk.size h
theorem ActAt.setNx (h : ActAt w a r c) (x : Int) : ActAt (w.setCell ⟨a, 1, none⟩ (.int .i64 x)) a r { c with nx := x } := Blk.set_ h 1 _
theorem ActAt.setPo (h : ActAt w a r c) (x : Nat) : ActAt (w.setCell ⟨a, 2, none⟩ (.int .u64 (x : Int))) a r { c with po := x } := Blk.set_ h 2 _
theorem ActAt.setPl (h : ActAt w a r c) (x : Nat) : ActAt (w.setCell ⟨a, 3, none⟩ (.int .u64 (x : Int))) a r { c with pl := x } := Blk.set_ h 3 _
theorem ActAt.setPp (h : ActAt w a r c) (x : Int) : ActAt (w.setCell ⟨a, 5, none⟩ (.int .u64 x)) a r { c with pp := x } := Blk.set_ h 5 _
theorem ActAt.setRd (h : ActAt w a r c) (x : Bool) : ActAt (w.setCell ⟨a, 6, none⟩ (.bool x)) a r { c with rd := x } := Blk.set_ h 6 _
theorem ActAt.setSt (h : ActAt w a r c) (x : Bool) : ActAt (w.setCell ⟨a, 7, none⟩ (.bool x)) a r { c with st := x } := Blk.set_ h 7 _
theorem ActAt.far (h : ActAt w a r c) {p : Addr} (hp : a ≠ p.block) (v : Value) : ActAt (w.setCell p v) a r c := Blk.far h v hp
theorem ActAt.kept {own : Nat → Prop} (h : ActAt w a r c) (hk : Kept own w w') (ha : ¬ own a) : ActAt w' a r c := Blk.kept h hk ha
theorem ActAt.drewN_ (h : ActAt w a r c) (k : Nat) : ActAt (w.drewN k) a r c := h
theorem ActAt.alloc_ (h : ActAt w a r c) (o : Obj) : ActAt (w.alloc o) a r c := Blk.alloc_ h o
theorem ActAt.apart (h : ActAt w a r c) {r' s n : Nat} {g : Rg} (hg : RingAt w r' s n g) : a ≠ r' ∧ a ≠ s := hg.apart h (by decide) (by decide)
end
set_option maxHeartbeats 400000 in
theorem aload (b o : Nat) (x : Int) (w : World) (h : w.cell? ⟨b, o, none⟩ = some (.int .u64 x)) :
   Calls Tryz.prog 114 #[.pointer (some ⟨b, o, none⟩)] w fun e w' => e = .returned (.int .u64 x) ∧ w = w' := by
 have hl := run_call_load (P := Tryz.prog) Tryz.func156 (by kernel_rfl) (by kernel_rfl) (by kernel_rfl) .u64 (by kernel_rfl) h
 go_enter Tryz.func114, Tryz.ntmps114
 go_wp2
 go_ret
 exact ⟨rfl, rfl⟩
set_option maxHeartbeats 400000 in
theorem astore (b o : Nat) (x : Int) (u : Value) (w : World) (h : w.cell? ⟨b, o, none⟩ = some u) (hz : w.frozen? ⟨b, o, none⟩ = false) :
   Calls Tryz.prog 93 #[.pointer (some ⟨b, o, none⟩), .int .u64 x] w fun e w' => (∃ v, e = .returned v) ∧ w' = w.setCell ⟨b, o, none⟩ (.int .u64 x) := by
 have hl := run_call_store (P := Tryz.prog) (k := .u64) (y := x) Tryz.func142 (by kernel_rfl) (by kernel_rfl) (by kernel_rfl) (by kernel_rfl) h hz
 go_enter Tryz.func93, Tryz.ntmps93
 go_wp2
 go_end0
 exact ⟨⟨_, rfl⟩, rfl⟩
set_option maxHeartbeats 400000 in
theorem aadd (b o : Nat) (x : Nat) (w : World) (hx : x ≤ 1000000) (h : w.cell? ⟨b, o, none⟩ = some (.int .u64 (x : Int))) (hz : w.frozen? ⟨b, o, none⟩ = false) :
   Calls Tryz.prog 153 #[.pointer (some ⟨b, o, none⟩), .int .u64 1] w fun e w' => e = .returned (.int .u64 ((x : Int) + 1)) ∧ w' = w.setCell ⟨b, o, none⟩ (.int .u64 ((x : Int) + 1)) := by
 have hl := run_call_add (P := Tryz.prog) (y := 1) (s := (x : Int) + 1) Tryz.func198 (by kernel_rfl) (by kernel_rfl) (by kernel_rfl) .u64 (by kernel_rfl) h hz (by simp [go_sem]; exact IntWalk.u64_in _ (by omega))
 go_enter Tryz.func153, Tryz.ntmps153
 go_wp2
 go_ret
 exact ⟨rfl, rfl⟩
set_option maxHeartbeats 400000 in
theorem acas_hit (b o : Nat) (x y : Int) (w : World) (h : w.cell? ⟨b, o, none⟩ = some (.int .u64 x)) (hz : w.frozen? ⟨b, o, none⟩ = false) :
   Calls Tryz.prog 197 #[.pointer (some ⟨b, o, none⟩), .int .u64 x, .int .u64 y] w fun e w' => e = .returned (.bool true) ∧ w' = w.setCell ⟨b, o, none⟩ (.int .u64 y) := by
 have hl := run_call_cas_hit (P := Tryz.prog) (y := y) Tryz.func237 (by kernel_rfl) (by kernel_rfl) (by kernel_rfl) .u64 (by kernel_rfl) h hz
 go_enter Tryz.func197, Tryz.ntmps197
 go_wp2
 go_ret
 exact ⟨rfl, rfl⟩
set_option maxHeartbeats 400000 in
theorem acas_miss (b o : Nat) (x z y : Int) (w : World) (h : w.cell? ⟨b, o, none⟩ = some (.int .u64 x)) (hz : w.frozen? ⟨b, o, none⟩ = false) (hn : ¬ x = z) :
   Calls Tryz.prog 197 #[.pointer (some ⟨b, o, none⟩), .int .u64 z, .int .u64 y] w fun e w' => e = .returned (.bool false) ∧ w = w' := by
 have hl := run_call_cas_miss (P := Tryz.prog) (y := y) Tryz.func237 (by kernel_rfl) (by kernel_rfl) (by kernel_rfl) .u64 (by kernel_rfl) h hz hn
 go_enter Tryz.func197, Tryz.ntmps197
 go_wp2
 go_ret
 exact ⟨rfl, rfl⟩
end Go.Proofs.YtcffeokbipjaoaaGreat
namespace Go.Proofs.YtcffeokbipjaoaaGreat
open Go.RowKit
set_option linter.unusedVariables false
theorem quiet_c {P : Program} {f : FuncId} {args : Array Value} {w : World} {a : Nat} {v : Value} (h : Calls P f args (w.drewN a) fun e w' => e = .returned v ∧ ∃ m, w' = (w.drewN a).drewN m) :
   Calls P f args (w.drewN a) fun e w'' => e = .returned v ∧ ∃ m, w'' = w.drewN m := h.mono fun _ _ ⟨h, m, hm⟩ => ⟨h, a + m, by rw [hm]; simp⟩
theorem quiet_s {P : Program} {f : FuncId} {args : Array Value} {w : World} {a : Nat} {v : Value} (h : Calls P f args (w.drewN a) fun e w' => e = .returned v ∧ w.drewN a = w') :
   Calls P f args (w.drewN a) fun e w'' => e = .returned v ∧ ∃ m, w'' = w.drewN m := h.mono fun _ _ ⟨h, hm⟩ => ⟨h, a, hm.symm⟩
theorem diff_wrap (d : Int) (h0 : -1000000 ≤ d) (h1 : d ≤ 1000000) : IntKind.i64.wrap (IntKind.u64.wrap d) = d := by
 have hu : IntKind.u64.wrap d = d % 18446744073709551616 := by simp [IntKind.wrap, IntKind.bits, IntKind.signed]
 rw [hu, IntKind.wrap_i64]
 omega
section
variable {r s n : Nat} {g : Rg}
set_option maxHeartbeats 1000000 in
theorem rslot (p : Nat) (w : World) (h : RingAt w r s n g) (hp : p ≤ 1000000) {j : Nat} (hj : p % n = j) :
   Calls Tryz.prog 154 #[.pointer (some ⟨r, 0, none⟩), .int .u64 (p : Int)] w fun e w' => e = .returned (.pointer (some ⟨s, j * 2, none⟩)) ∧ ∃ k, w' = w.drewN k := by
 have s0 := h.s0
 have n0 := h.n0
 have n1 := h.n1
 have hjn : j < n := by rw [← hj]; exact Nat.mod_lt _ n0
 have h1 : (p : Int).tmod (n : Int) = (j : Int) := by rw [Int.tmod_eq_emod_of_nonneg (by omega), ← Int.natCast_emod, hj]
 have h2 : (p : Int) % (n : Int) = (j : Int) := by rw [← Int.natCast_emod, hj]
 have hnz : ¬ (n : Int) = 0 := by omega
 have hw : IntKind.u64.wrap (n : Int) = (n : Int) := IntWalk.u64_in _ (by omega)
 have j0 : (0 : Int) ≤ (j : Int) := by omega
 have j1 : (j : Int) < (n : Int) := by omega
 clear h hj
 go_enter Tryz.func154, Tryz.ntmps154
 go_wp2
 go_quiet (fail)
 go_wp2
 go_ret
 exact ⟨rfl, _, rfl⟩
def lookE (S ready : Nat) (nx ag : Int) : Int := if S < ready then 0 else if ready < S then ag else nx
set_option maxHeartbeats 1000000 in
theorem rcheck {a : Nat} {c : Ac} (ready : Nat) (nx ag : Int) (w : World) (h : RingAt w r s n g) (ha : ActAt w a r c) {j : Nat} (hj : c.po % n = j) (hp : c.po ≤ 1000000) (hr : ready ≤ 1000000) (hS : g.S j ≤ 1000000) :
   Calls Tryz.prog 151 #[.pointer (some ⟨a, 0, none⟩), .int .u64 (ready : Int), .int .i64 nx, .int .i64 ag] w fun e w' => (∃ v, e = .returned v) ∧ ∃ k, w' = (w.drewN k).setCell ⟨a, 1, none⟩ (.int .i64 (lookE (g.S j) ready nx ag)) := by
 have n0 := h.n0
 have hjn : j < n := by rw [← hj]; exact Nat.mod_lt _ n0
 have a0 := ha.ring
 have a1 := ha.nx
 have a2 := ha.po
 have z1 := ha.free 1
 have s1 := h.sq hjn
 have H0 := Lib.hid h
 have HJ := Lib.hid hj
 have hw : IntKind.i64.wrap (IntKind.u64.wrap ((g.S j : Int) - (ready : Int))) = (g.S j : Int) - (ready : Int) := diff_wrap _ (by omega) (by omega)
 clear h ha hj
 rcases Nat.lt_trichotomy (g.S j) ready with hc | hc | hc
 · have hE : lookE (g.S j) ready nx ag = 0 := by unfold lookE; rw [if_pos hc]
   have hlt : (g.S j : Int) - (ready : Int) < 0 := by omega
   rw [hE]
   clear hE hc
   go_enter Tryz.func151, Tryz.ntmps151
   go_wp2_with fail
   go_quiet ((first | (go_at_call 154; exact quiet_c (rslot _ _ (H0.out.drewN_ _) hp HJ.out)) | (go_at_call 114; exact quiet_s (aload _ _ _ _ s1))))
   go_wp2
   go_end0
   exact ⟨⟨_, rfl⟩, _, rfl⟩
 · have hE : lookE (g.S j) ready nx ag = nx := by unfold lookE; rw [if_neg (by omega), if_neg (by omega)]
   have h0 : (g.S j : Int) - (ready : Int) = 0 := by omega
   rw [hE]
   rw [h0] at hw
   clear hE hc
   go_enter Tryz.func151, Tryz.ntmps151
   go_wp2_with fail
   go_quiet ((first | (go_at_call 154; exact quiet_c (rslot _ _ (H0.out.drewN_ _) hp HJ.out)) | (go_at_call 114; exact quiet_s (aload _ _ _ _ s1))))
   go_wp2
   go_end0
   exact ⟨⟨_, rfl⟩, _, rfl⟩
 · have hE : lookE (g.S j) ready nx ag = ag := by unfold lookE; rw [if_neg (by omega), if_pos hc]
   have hlt : 0 < (g.S j : Int) - (ready : Int) := by omega
   rw [hE]
   clear hE hc
   go_enter Tryz.func151, Tryz.ntmps151
   go_wp2_with fail
   go_quiet ((first | (go_at_call 154; exact quiet_c (rslot _ _ (H0.out.drewN_ _) hp HJ.out)) | (go_at_call 114; exact quiet_s (aload _ _ _ _ s1))))
   go_wp2
   go_end0
   exact ⟨⟨_, rfl⟩, _, rfl⟩
set_option maxHeartbeats 1000000 in
theorem rread {a : Nat} {c : Ac} (o x : Nat) (nx : Int) (w : World) (hx : w.cell? ⟨r, o, none⟩ = some (.int .u64 (x : Int))) (ha : ActAt w a r c) (hra : r ≠ a) :
   Calls Tryz.prog 150 #[.pointer (some ⟨a, 0, none⟩), .pointer (some ⟨r, o, none⟩), .int .i64 nx] w fun e w' => (∃ v, e = .returned v) ∧ ActAt w' a r { c with nx := nx, po := x, rd := true, st := c.rd && decide (x = c.po) } ∧ Kept (fun k => k = a) w w' := by
 obtain ⟨cn, cp, cl, cu, cq, cr, cs⟩ := c
 have a2 : w.cell? ⟨a, 2, none⟩ = some (.int .u64 (cp : Int)) := ha.po
 have a6 : w.cell? ⟨a, 6, none⟩ = some (.bool cr) := ha.rd
 have a7 : w.cell? ⟨a, 7, none⟩ = some (.bool cs) := ha.st
 have a1 : w.cell? ⟨a, 1, none⟩ = some (.int .i64 cn) := ha.nx
 have z1 := ha.free 1
 have z2 := ha.free 2
 have z6 := ha.free 6
 have z7 := ha.free 7
 have HA := Lib.hid ha
 clear ha
 cases cr with
 | false =>
   go_enter Tryz.func150, Tryz.ntmps150
   go_wp2_with (go_at_call 114; refine (aload _ _ _ _ hx).mono ?_; rintro e w1 ⟨rfl, rfl⟩)
   go_end0
   refine ⟨⟨_, rfl⟩, (((HA.out.setSt false).setRd true).setPo x).setNx nx, ?_⟩
   repeat (first | with_reducible exact Kept.refl _ _ | refine Kept.set_ ?_ (by simp) _ | with_reducible refine Kept.drewN_ ?_ _ | with_reducible refine Kept.drew_ ?_)
 | true =>
   by_cases he : x = cp
   · have hq : ((x : Int) == (cp : Int)) = true := by rw [he]; simp
     have hd : (true && decide (x = cp)) = true := by simp [he]
     rw [hd]
     clear he hd
     go_enter Tryz.func150, Tryz.ntmps150
     go_wp2_with (go_at_call 114; refine (aload _ _ _ _ hx).mono ?_; rintro e w1 ⟨rfl, rfl⟩)
     go_end0
     refine ⟨⟨_, rfl⟩, (((HA.out.setSt true).setRd true).setPo x).setNx nx, ?_⟩
     repeat (first | with_reducible exact Kept.refl _ _ | refine Kept.set_ ?_ (by simp) _ | with_reducible refine Kept.drewN_ ?_ _ | with_reducible refine Kept.drew_ ?_)
   · have hq : ((x : Int) == (cp : Int)) = false := by rw [beq_eq_false_iff_ne]; omega
     have hd : (true && decide (x = cp)) = false := by simp [he]
     rw [hd]
     clear he hd
     go_enter Tryz.func150, Tryz.ntmps150
     go_wp2_with (go_at_call 114; refine (aload _ _ _ _ hx).mono ?_; rintro e w1 ⟨rfl, rfl⟩)
     go_end0
     refine ⟨⟨_, rfl⟩, (((HA.out.setSt false).setRd true).setPo x).setNx nx, ?_⟩
     repeat (first | with_reducible exact Kept.refl _ _ | refine Kept.set_ ?_ (by simp) _ | with_reducible refine Kept.drewN_ ?_ _ | with_reducible refine Kept.drew_ ?_)
end
end Go.Proofs.YtcffeokbipjaoaaGreat
namespace Go.Proofs.YtcffeokbipjaoaaGreat
open Go.RowKit
set_option linter.unusedVariables false
section
variable {r s n : Nat} {g : Rg}
set_option maxRecDepth 10000 in
set_option maxHeartbeats 1000000 in
theorem rclaim_hit {a : Nat} {cn : Int} {cp cl : Nat} {cu cq : Int} {cr cs : Bool} (o : Nat) (nx ag : Int) (w : World) (hx : w.cell? ⟨r, o, none⟩ = some (.int .u64 (cp : Int))) (hz : w.frozen? ⟨r, o, none⟩ = false) (ha : ActAt w a r ⟨cn, cp, cl, cu, cq, cr, cs⟩) (hra : r ≠ a) (hp : cp ≤ 1000000) :
   Calls Tryz.prog 152 #[.pointer (some ⟨a, 0, none⟩), .pointer (some ⟨r, o, none⟩), .int .i64 nx, .int .i64 ag] w fun e w' => (∃ v, e = .returned v) ∧ w' = ((w.drew.setCell ⟨r, o, none⟩ (.int .u64 ((cp : Int) + 1))).setCell ⟨a, 3, none⟩ (.int .u64 (cp : Int))).setCell ⟨a, 1, none⟩ (.int .i64 nx) := by
 have a2 : w.cell? ⟨a, 2, none⟩ = some (.int .u64 (cp : Int)) := ha.po
 have a3 : w.cell? ⟨a, 3, none⟩ = some (.int .u64 (cl : Int)) := ha.pl
 have a1 : w.cell? ⟨a, 1, none⟩ = some (.int .i64 cn) := ha.nx
 have z1 := ha.free 1
 have z3 := ha.free 3
 have hra' := Ne.symm hra
 have hs : IntKind.u64.wrap ((cp : Int) + 1) = (cp : Int) + 1 := IntWalk.u64_in _ (by omega)
 clear ha
 go_enter Tryz.func152, Tryz.ntmps152
 go_wp2_with fail
 go_still_tail 10, (by kernel_rfl)
 go_wp2_with (go_at_call 197; refine (acas_hit _ _ _ _ w.drew hx hz).mono ?_; rintro e w1 ⟨rfl, rfl⟩)
 refine bodyPost_ret (results_none rfl _ _ _) rfl ?_
 exact ⟨⟨_, rfl⟩, rfl⟩
set_option maxRecDepth 10000 in
set_option maxHeartbeats 1000000 in
theorem rclaim_miss {a : Nat} {cn : Int} {cp cl : Nat} {cu cq : Int} {cr cs : Bool} (o x : Nat) (nx ag : Int) (w : World) (hx : w.cell? ⟨r, o, none⟩ = some (.int .u64 (x : Int))) (hz : w.frozen? ⟨r, o, none⟩ = false) (hn : x ≠ cp) (ha : ActAt w a r ⟨cn, cp, cl, cu, cq, cr, cs⟩) (hra : r ≠ a) (hp : cp ≤ 1000000) :
   Calls Tryz.prog 152 #[.pointer (some ⟨a, 0, none⟩), .pointer (some ⟨r, o, none⟩), .int .i64 nx, .int .i64 ag] w fun e w' => (∃ v, e = .returned v) ∧ w' = w.drew.setCell ⟨a, 1, none⟩ (.int .i64 ag) := by
 have a2 : w.cell? ⟨a, 2, none⟩ = some (.int .u64 (cp : Int)) := ha.po
 have a1 : w.cell? ⟨a, 1, none⟩ = some (.int .i64 cn) := ha.nx
 have z1 := ha.free 1
 have hs : IntKind.u64.wrap ((cp : Int) + 1) = (cp : Int) + 1 := IntWalk.u64_in _ (by omega)
 have hne : ¬ (x : Int) = (cp : Int) := by omega
 have HNE := Lib.hid hne
 clear ha hne
 go_enter Tryz.func152, Tryz.ntmps152
 go_wp2_with fail
 go_still_tail 10, (by kernel_rfl)
 go_wp2_with (go_at_call 197; refine (acas_miss _ _ _ _ _ w.drew hx hz HNE.out).mono ?_; rintro e w1 ⟨rfl, rfl⟩)
 go_end0
 exact ⟨⟨_, rfl⟩, rfl⟩
def endE (nx : Int) : Bool := decide (nx = 0) || decide (nx = 1)
set_option maxHeartbeats 1000000 in
theorem rended {a : Nat} {cn : Int} {cp cl : Nat} {cu cq : Int} {cr cs : Bool} (w : World) (ha : ActAt w a r ⟨cn, cp, cl, cu, cq, cr, cs⟩) :
   Calls Tryz.prog 149 #[.pointer (some ⟨a, 0, none⟩)] w fun e w' => e = .returned (.bool (endE cn)) ∧ w = w' := by
 have a1 : w.cell? ⟨a, 1, none⟩ = some (.int .i64 cn) := ha.nx
 clear ha
 by_cases h0 : cn = 0
 · subst h0
   go_enter Tryz.func149, Tryz.ntmps149
   go_wp2
   go_ret
   exact ⟨rfl, rfl⟩
 · by_cases h1 : cn = 1
   · subst h1
     go_enter Tryz.func149, Tryz.ntmps149
     go_wp2
     go_ret
     exact ⟨rfl, rfl⟩
   · have e0 : (cn == 0) = false := beq_eq_false_iff_ne.2 h0
     have e1 : (cn == 1) = false := beq_eq_false_iff_ne.2 h1
     have hE : endE cn = false := by unfold endE; simp [h0, h1]
     rw [hE]
     clear h0 h1 hE
     go_enter Tryz.func149, Tryz.ntmps149
     go_wp2
     go_ret
     exact ⟨rfl, rfl⟩
set_option maxHeartbeats 1000000 in
theorem rok {a : Nat} {cn : Int} {cp cl : Nat} {cu cq : Int} {cr cs : Bool} (w : World) (ha : ActAt w a r ⟨cn, cp, cl, cu, cq, cr, cs⟩) :
   Calls Tryz.prog 101 #[.pointer (some ⟨a, 0, none⟩)] w fun e w' => e = .returned (.bool (cn == 1)) ∧ w = w' := by
 have a1 : w.cell? ⟨a, 1, none⟩ = some (.int .i64 cn) := ha.nx
 clear ha
 go_enter Tryz.func101, Tryz.ntmps101
 go_wp2
 go_ret
 exact ⟨rfl, rfl⟩
set_option maxHeartbeats 1000000 in
theorem rvalue {a : Nat} {cn : Int} {cp cl : Nat} {cu cq : Int} {cr cs : Bool} (w : World) (ha : ActAt w a r ⟨cn, cp, cl, cu, cq, cr, cs⟩) :
   Calls Tryz.prog 107 #[.pointer (some ⟨a, 0, none⟩)] w fun e w' => e = .returned (.int .u64 cq) ∧ w = w' := by
 have a1 : w.cell? ⟨a, 5, none⟩ = some (.int .u64 cq) := ha.pp
 clear ha
 go_enter Tryz.func107, Tryz.ntmps107
 go_wp2
 go_ret
 exact ⟨rfl, rfl⟩
set_option maxHeartbeats 1000000 in
theorem rcap (w : World) (h : RingAt w r s n g) :
   Calls Tryz.prog 146 #[.pointer (some ⟨r, 0, none⟩)] w fun e w' => e = .returned (.int .i64 (n : Int)) ∧ w = w' := by
 have s0 := h.s0
 clear h
 go_enter Tryz.func146, Tryz.ntmps146
 go_wp2
 go_ret
 exact ⟨rfl, rfl⟩
set_option maxHeartbeats 1000000 in
theorem ract (nx v : Int) (w : World) :
   Calls Tryz.prog 196 #[.pointer (some ⟨r, 0, none⟩), .int .i64 nx, .int .u64 v] w fun e w' => e = .returned (.pointer (some ⟨w.heap.size, 0, none⟩)) ∧ ActAt w' w.heap.size r ⟨nx, 0, 0, v, 0, false, false⟩ ∧ Below w.heap.size w w' := by
 go_enter Tryz.func196, Tryz.ntmps196
 go_wp2
 go_ret
 exact ⟨rfl, Blk.made w _ _, (Below.refl _ _).alloc (Nat.le_refl _) _⟩
set_option maxHeartbeats 1000000 in
theorem rpush (v : Int) (w : World) :
   Calls Tryz.prog 148 #[.pointer (some ⟨r, 0, none⟩), .int .u64 v] w fun e w' => e = .returned (.pointer (some ⟨w.heap.size, 0, none⟩)) ∧ ActAt w' w.heap.size r ⟨2, 0, 0, v, 0, false, false⟩ ∧ Below w.heap.size w w' := by
 go_enter Tryz.func148, Tryz.ntmps148
 go_wp2_with (go_at_call 196; refine (ract _ _ _).mono ?_; rintro e w1 ⟨rfl, h1, h2⟩)
 go_ret
 exact ⟨rfl, h1, h2⟩
set_option maxHeartbeats 1000000 in
theorem rjoin (v : Int) (w : World) :
   Calls Tryz.prog 147 #[.pointer (some ⟨r, 0, none⟩), .int .u64 v] w fun e w' => e = .returned (.pointer (some ⟨w.heap.size, 0, none⟩)) ∧ ActAt w' w.heap.size r ⟨5, 0, 0, v, 0, false, false⟩ ∧ Below w.heap.size w w' := by
 go_enter Tryz.func147, Tryz.ntmps147
 go_wp2_with (go_at_call 196; refine (ract _ _ _).mono ?_; rintro e w1 ⟨rfl, h1, h2⟩)
 go_ret
 exact ⟨rfl, h1, h2⟩
set_option maxHeartbeats 1000000 in
theorem rpop (w : World) :
   Calls Tryz.prog 155 #[.pointer (some ⟨r, 0, none⟩)] w fun e w' => e = .returned (.pointer (some ⟨w.heap.size, 0, none⟩)) ∧ ActAt w' w.heap.size r ⟨7, 0, 0, 0, 0, false, false⟩ ∧ Below w.heap.size w w' := by
 go_enter Tryz.func155, Tryz.ntmps155
 go_wp2_with (go_at_call 196; refine (ract _ _ _).mono ?_; rintro e w1 ⟨rfl, h1, h2⟩)
 go_ret
 exact ⟨rfl, h1, h2⟩
end
end Go.Proofs.YtcffeokbipjaoaaGreat
namespace Go.Proofs.YtcffeokbipjaoaaGreat
open Go.RowKit
set_option linter.unusedVariables false
theorem wp_world_ {P : Program} {code : Code} {Q : Exit → Act → World → Prop} {a : Act} {w : World} (φ : World → Prop) (h : φ w) (k : ∀ wx, φ wx → Code.wp P code Q a wx) : Code.wp P code Q a w := k w h
def Mine (a r s k : Nat) : Prop := k = a ∨ k = r ∨ k = s
section
variable {r s n : Nat} {g : Rg}
set_option maxRecDepth 20000 in
set_option maxHeartbeats 2000000 in
theorem rstep2 {a : Nat} {cp cl : Nat} {cu cq : Int} {cr cs : Bool} (w : World) (h : RingAt w r s n g) (ha : ActAt w a r ⟨2, cp, cl, cu, cq, cr, cs⟩) :
   Calls Tryz.prog 100 #[.pointer (some ⟨a, 0, none⟩)] w fun e w' => e = .returned (.bool false) ∧ RingAt w' r s n g ∧ ActAt w' a r ⟨3, g.T, cl, cu, cq, true, cr && decide (g.T = cp)⟩ ∧ Kept (Mine a r s) w w' := by
 have hap := ha.apart h
 have har : a ≠ r := hap.1
 have has : a ≠ s := hap.2
 have hra : r ≠ a := Ne.symm har
 have hsa : s ≠ a := Ne.symm has
 have hrs : r ≠ s := h.rs
 have hsr : s ≠ r := Ne.symm hrs
 have c0 : w.cell? ⟨a, 0, none⟩ = some (.pointer (some ⟨r, 0, none⟩)) := ha.ring
 have c1 : w.cell? ⟨a, 1, none⟩ = some (.int .i64 2) := ha.nx
 have H := Lib.hid h
 have A := Lib.hid ha
 clear hap h ha
 go_enter Tryz.func100, Tryz.ntmps100
 go_wp2_with fail
 refine (rended _ A.out).mono ?_
 rintro e w1 ⟨rfl, rfl⟩
 rw [show endE 2 = false from rfl]
 go_wp2_with fail
 refine (rread 0 _ _ _ H.out.t0 A.out hra).mono ?_
 rintro e w2 ⟨⟨v, rfl⟩, h2, k2⟩
 have A2 := Lib.hid h2
 have H2 := Lib.hid (H.out.kept k2 (by omega) (by omega))
 have K2 := Lib.hid (show Kept (Mine a r s) w w2 from k2.more fun k _ e => .inl e)
 clear h2 k2
 go_wp2_with fail
 refine (rended _ A2.out).mono ?_
 rintro e w3 ⟨rfl, rfl⟩
 rw [show endE 3 = false from rfl]
 go_wp2
 go_ret
 exact ⟨rfl, H2.out, A2.out, K2.out⟩
set_option maxRecDepth 20000 in
set_option maxHeartbeats 2000000 in
theorem rstep7 {a : Nat} {cp cl : Nat} {cu cq : Int} {cr cs : Bool} (w : World) (h : RingAt w r s n g) (ha : ActAt w a r ⟨7, cp, cl, cu, cq, cr, cs⟩) :
   Calls Tryz.prog 100 #[.pointer (some ⟨a, 0, none⟩)] w fun e w' => e = .returned (.bool false) ∧ RingAt w' r s n g ∧ ActAt w' a r ⟨8, g.H, cl, cu, cq, true, cr && decide (g.H = cp)⟩ ∧ Kept (Mine a r s) w w' := by
 have hap := ha.apart h
 have har : a ≠ r := hap.1
 have has : a ≠ s := hap.2
 have hra : r ≠ a := Ne.symm har
 have hsa : s ≠ a := Ne.symm has
 have hrs : r ≠ s := h.rs
 have hsr : s ≠ r := Ne.symm hrs
 have c0 : w.cell? ⟨a, 0, none⟩ = some (.pointer (some ⟨r, 0, none⟩)) := ha.ring
 have c1 : w.cell? ⟨a, 1, none⟩ = some (.int .i64 7) := ha.nx
 have H := Lib.hid h
 have A := Lib.hid ha
 clear hap h ha
 go_enter Tryz.func100, Tryz.ntmps100
 go_wp2_with fail
 refine (rended _ A.out).mono ?_
 rintro e w1 ⟨rfl, rfl⟩
 rw [show endE 7 = false from rfl]
 go_wp2_with fail
 refine (rread 1 _ _ _ H.out.h0 A.out hra).mono ?_
 rintro e w2 ⟨⟨v, rfl⟩, h2, k2⟩
 have A2 := Lib.hid h2
 have H2 := Lib.hid (H.out.kept k2 (by omega) (by omega))
 have K2 := Lib.hid (show Kept (Mine a r s) w w2 from k2.more fun k _ e => .inl e)
 clear h2 k2
 go_wp2_with fail
 refine (rended _ A2.out).mono ?_
 rintro e w3 ⟨rfl, rfl⟩
 rw [show endE 8 = false from rfl]
 go_wp2
 go_ret
 exact ⟨rfl, H2.out, A2.out, K2.out⟩
set_option maxRecDepth 20000 in
set_option maxHeartbeats 2000000 in
theorem rstep3 {a : Nat} {cp cl : Nat} {cu cq : Int} {cr cs : Bool} (w : World) (h : RingAt w r s n g) (ha : ActAt w a r ⟨3, cp, cl, cu, cq, cr, cs⟩) {j : Nat} (hj : cp % n = j) (hp : cp ≤ 900000) (hS : g.S j ≤ 1000000) :
   Calls Tryz.prog 100 #[.pointer (some ⟨a, 0, none⟩)] w fun e w' => e = .returned (.bool (endE (lookE (g.S j) cp 4 2))) ∧ RingAt w' r s n g ∧ ActAt w' a r ⟨lookE (g.S j) cp 4 2, cp, cl, cu, cq, cr, cs⟩ ∧ Kept (Mine a r s) w w' := by
 have hap := ha.apart h
 have har : a ≠ r := hap.1
 have has : a ≠ s := hap.2
 have hra : r ≠ a := Ne.symm har
 have hsa : s ≠ a := Ne.symm has
 have hrs : r ≠ s := h.rs
 have hsr : s ≠ r := Ne.symm hrs
 have c0 : w.cell? ⟨a, 0, none⟩ = some (.pointer (some ⟨r, 0, none⟩)) := ha.ring
 have c1 : w.cell? ⟨a, 1, none⟩ = some (.int .i64 3) := ha.nx
 have c2 : w.cell? ⟨a, 2, none⟩ = some (.int .u64 (cp : Int)) := ha.po
 have HJ := Lib.hid hj
 clear hj
 have H := Lib.hid h
 have A := Lib.hid ha
 clear hap h ha
 go_enter Tryz.func100, Tryz.ntmps100
 go_wp2_with fail
 refine (rended _ A.out).mono ?_
 rintro e w1 ⟨rfl, rfl⟩
 rw [show endE 3 = false from rfl]
 go_wp2_with fail
 refine (rcheck cp _ _ _ H.out A.out HJ.out (show cp ≤ 1000000 by omega) (by omega) hS).mono ?_
 rintro e w2 ⟨⟨v, rfl⟩, k, rfl⟩
 have A2 := Lib.hid ((A.out.drewN_ k).setNx (lookE (g.S j) cp 4 2))
 have H2 := Lib.hid ((H.out.drewN_ k).far (p := ⟨a, 1, none⟩) hra hsa (.int .i64 (lookE (g.S j) cp 4 2)))
 have K2 := Lib.hid (show Kept (Mine a r s) w ((w.drewN k).setCell ⟨a, 1, none⟩ (.int .i64 (lookE (g.S j) cp 4 2))) from ((Kept.refl _ w).drewN_ k).set_ (.inl (.inl rfl)) _)
 go_wp2_with fail
 refine (rended _ A2.out).mono ?_
 rintro e w3 ⟨rfl, rfl⟩
 skip
 go_wp2
 go_ret
 exact ⟨rfl, H2.out, A2.out, K2.out⟩
set_option maxRecDepth 20000 in
set_option maxHeartbeats 2000000 in
theorem rstep8 {a : Nat} {cp cl : Nat} {cu cq : Int} {cr cs : Bool} (w : World) (h : RingAt w r s n g) (ha : ActAt w a r ⟨8, cp, cl, cu, cq, cr, cs⟩) {j : Nat} (hj : cp % n = j) (hp : cp ≤ 900000) (hS : g.S j ≤ 1000000) :
   Calls Tryz.prog 100 #[.pointer (some ⟨a, 0, none⟩)] w fun e w' => e = .returned (.bool (endE (lookE (g.S j) (cp + 1) 9 7))) ∧ RingAt w' r s n g ∧ ActAt w' a r ⟨lookE (g.S j) (cp + 1) 9 7, cp, cl, cu, cq, cr, cs⟩ ∧ Kept (Mine a r s) w w' := by
 have hap := ha.apart h
 have har : a ≠ r := hap.1
 have has : a ≠ s := hap.2
 have hra : r ≠ a := Ne.symm har
 have hsa : s ≠ a := Ne.symm has
 have hrs : r ≠ s := h.rs
 have hsr : s ≠ r := Ne.symm hrs
 have c0 : w.cell? ⟨a, 0, none⟩ = some (.pointer (some ⟨r, 0, none⟩)) := ha.ring
 have c1 : w.cell? ⟨a, 1, none⟩ = some (.int .i64 8) := ha.nx
 have c2 : w.cell? ⟨a, 2, none⟩ = some (.int .u64 (cp : Int)) := ha.po
 have hcast : ((cp + 1 : Nat) : Int) = (cp : Int) + 1 := by omega
 have HC := Lib.hid hcast
 have HJ := Lib.hid hj
 clear hj hcast
 have H := Lib.hid h
 have A := Lib.hid ha
 clear hap h ha
 go_enter Tryz.func100, Tryz.ntmps100
 go_wp2_with fail
 refine (rended _ A.out).mono ?_
 rintro e w1 ⟨rfl, rfl⟩
 rw [show endE 8 = false from rfl]
 go_wp2_with fail
 rw [← HC.out]
 refine (rcheck (cp + 1) _ _ _ H.out A.out HJ.out (show cp ≤ 1000000 by omega) (by omega) hS).mono ?_
 rintro e w2 ⟨⟨v, rfl⟩, k, rfl⟩
 have A2 := Lib.hid ((A.out.drewN_ k).setNx (lookE (g.S j) (cp + 1) 9 7))
 have H2 := Lib.hid ((H.out.drewN_ k).far (p := ⟨a, 1, none⟩) hra hsa (.int .i64 (lookE (g.S j) (cp + 1) 9 7)))
 have K2 := Lib.hid (show Kept (Mine a r s) w ((w.drewN k).setCell ⟨a, 1, none⟩ (.int .i64 (lookE (g.S j) (cp + 1) 9 7))) from ((Kept.refl _ w).drewN_ k).set_ (.inl (.inl rfl)) _)
 go_wp2_with fail
 refine (rended _ A2.out).mono ?_
 rintro e w3 ⟨rfl, rfl⟩
 skip
 go_wp2
 go_ret
 exact ⟨rfl, H2.out, A2.out, K2.out⟩
end
end Go.Proofs.YtcffeokbipjaoaaGreat
