/- A ring and its acts in memory; the single accesses. -/
import Derived.Test.YtbenpnecjmpcbaaProg
import Derived.Test.YtbenpnecjmpcbaaBlk
import Derived.WalkKit
import Derived.IntWalk
import Derived.Lib.Hide
import Derived.Deep.QuietTactic
import Derived.BigQuiet
import Derived.Laws.LoneSync
namespace Go.Proofs.Ytbenpnecjmpcbaa
open Go.RowKit
set_option linter.unusedVariables false
/-- A ring's numbers: the ends, the slots' numbers and values. -/
structure Rg where
  T : Nat
  H : Nat
  S : Nat → Nat
  V : Nat → Int
/-- An act's numbers. -/
structure Ac where
  nx : Int
  po : Nat
  pl : Nat
  pu : Int
  pp : Int
  rd : Bool
  st : Bool
structure RingAt (w : World) (r s n : Nat) (g : Rg) : Prop where
  n0 : 0 < n
  n1 : n ≤ 64
  head : Blk w r 71 #[.int .u64 (g.T : Int), .int .u64 (g.H : Int), .slice (some ⟨s, 0, none⟩) n n]
  slots : ∃ cs, Blk w s 73 cs ∧ cs.size = n * 2 ∧ ∀ i, i < n → cs[i * 2]? = some (.int .u64 (g.S i : Int)) ∧ cs[i * 2 + 1]? = some (.int .u64 (g.V i))
def ActAt (w : World) (a r : Nat) (c : Ac) : Prop := Blk w a 83 #[.pointer (some ⟨r, 0, none⟩), .int .i64 c.nx, .int .u64 (c.po : Int), .int .u64 (c.pl : Int), .int .u64 c.pu, .int .u64 c.pp, .bool c.rd, .bool c.st]
section
variable {w w' : World} {a r s n : Nat} {g : Rg} {c : Ac}
theorem RingAt.kept {own : Nat → Prop} (h : RingAt w r s n g) (hk : Kept own w w') (hr : ¬ own r) (hs : ¬ own s) : RingAt w' r s n g := by
  obtain ⟨a1, a2, hd, ⟨cs, b, bz, bc⟩⟩ := h
  exact ⟨a1, a2, hd.kept hk hr, ⟨cs, b.kept hk hs, bz, bc⟩⟩
theorem RingAt.lts (h : RingAt w r s n g) : r < w.heap.size ∧ s < w.heap.size := by
  obtain ⟨a1, a2, hd, ⟨cs, b, bz, bc⟩⟩ := h
  exact ⟨hd.size, b.size⟩
theorem RingAt.below {B : Nat} (h : RingAt w r s n g) (hb : Below B w w') (hr : r < B) (hs : s < B) : RingAt w' r s n g := by
  obtain ⟨a1, a2, hd, ⟨cs, b, bz, bc⟩⟩ := h
  exact ⟨a1, a2, hd.below_ hb hr, ⟨cs, b.below_ hb hs, bz, bc⟩⟩
theorem RingAt.drewN_ (h : RingAt w r s n g) (k : Nat) : RingAt (w.drewN k) r s n g := h.kept (own := fun _ => False) ((Kept.refl _ _).drewN_ k) id id
theorem RingAt.drew_ (h : RingAt w r s n g) : RingAt w.drew r s n g := h.kept (own := fun _ => False) (Kept.refl _ _).drew_ id id
theorem RingAt.alloc_ (h : RingAt w r s n g) (o : Obj) : RingAt (w.alloc o) r s n g := h.kept (own := fun _ => False) ((Kept.refl _ _).alloc_ o) id id
theorem RingAt.rs (h : RingAt w r s n g) : r ≠ s := by obtain ⟨a1, a2, hd, ⟨cs, b, bz, bc⟩⟩ := h; exact hd.other b (by decide)
theorem RingAt.apart {t : TypeId} {cs : Array Value} {k : Nat} (h : RingAt w r s n g) (hb : Blk w k t cs) (h1 : t ≠ 71) (h2 : t ≠ 73) : k ≠ r ∧ k ≠ s := by
  obtain ⟨a1, a2, hd, ⟨cs', b, bz, bc⟩⟩ := h
  exact ⟨hb.other hd h1, hb.other b h2⟩
theorem RingAt.t0 (h : RingAt w r s n g) : w.cell? ⟨r, 0, none⟩ = some (.int .u64 (g.T : Int)) := h.head.val (i := 0) rfl
theorem RingAt.h0 (h : RingAt w r s n g) : w.cell? ⟨r, 1, none⟩ = some (.int .u64 (g.H : Int)) := h.head.val (i := 1) rfl
theorem RingAt.s0 (h : RingAt w r s n g) : w.cell? ⟨r, 2, none⟩ = some (.slice (some ⟨s, 0, none⟩) n n) := h.head.val (i := 2) rfl
theorem RingAt.zr (h : RingAt w r s n g) (k : Nat) : w.frozen? ⟨r, k, none⟩ = false := h.head.free k
theorem RingAt.zs (h : RingAt w r s n g) (k : Nat) : w.frozen? ⟨s, k, none⟩ = false := by obtain ⟨cs, b, _, _⟩ := h.slots; exact b.free k
theorem RingAt.sq (h : RingAt w r s n g) {i : Nat} (hi : i < n) : w.cell? ⟨s, i * 2, none⟩ = some (.int .u64 (g.S i : Int)) := by obtain ⟨cs, b, _, bc⟩ := h.slots; exact b.val (bc i hi).1
theorem RingAt.vl (h : RingAt w r s n g) {i : Nat} (hi : i < n) : w.cell? ⟨s, i * 2 + 1, none⟩ = some (.int .u64 (g.V i)) := by obtain ⟨cs, b, _, bc⟩ := h.slots; exact b.val (bc i hi).2
theorem RingAt.setT (h : RingAt w r s n g) (x : Nat) : RingAt (w.setCell ⟨r, 0, none⟩ (.int .u64 (x : Int))) r s n { g with T := x } := by
  have e := h.rs
  obtain ⟨a1, a2, hd, ⟨cs, b, bz, bc⟩⟩ := h
  exact ⟨a1, a2, hd.set_ 0 _, ⟨cs, b.far _ (Ne.symm e), bz, bc⟩⟩
theorem RingAt.setH (h : RingAt w r s n g) (x : Nat) : RingAt (w.setCell ⟨r, 1, none⟩ (.int .u64 (x : Int))) r s n { g with H := x } := by
  have e := h.rs
  obtain ⟨a1, a2, hd, ⟨cs, b, bz, bc⟩⟩ := h
  exact ⟨a1, a2, hd.set_ 1 _, ⟨cs, b.far _ (Ne.symm e), bz, bc⟩⟩
theorem RingAt.setS (h : RingAt w r s n g) {i : Nat} (hi : i < n) (x : Nat) : RingAt (w.setCell ⟨s, i * 2, none⟩ (.int .u64 (x : Int))) r s n { g with S := fun j => if j = i then x else g.S j } := by
  have e := h.rs
  obtain ⟨a1, a2, hd, ⟨cs, b, bz, bc⟩⟩ := h
  refine ⟨a1, a2, hd.far _ e, ⟨_, b.set_ _ _, by simpa using bz, fun j hj => ⟨?_, ?_⟩⟩⟩
  · by_cases ej : j = i
    · rw [ej, get_set_same (by omega)]; simp
    · rw [get_set_far (by omega), (bc j hj).1]; simp [ej]
  · rw [get_set_far (by omega)]; exact (bc j hj).2
theorem RingAt.setV (h : RingAt w r s n g) {i : Nat} (hi : i < n) (x : Int) : RingAt (w.setCell ⟨s, i * 2 + 1, none⟩ (.int .u64 x)) r s n { g with V := fun j => if j = i then x else g.V j } := by
  have e := h.rs
  obtain ⟨a1, a2, hd, ⟨cs, b, bz, bc⟩⟩ := h
  refine ⟨a1, a2, hd.far _ e, ⟨_, b.set_ _ _, by simpa using bz, fun j hj => ⟨?_, ?_⟩⟩⟩
  · rw [get_set_far (by omega)]; exact (bc j hj).1
  · by_cases ej : j = i
    · rw [ej, get_set_same (by omega)]; simp
    · rw [get_set_far (by omega), (bc j hj).2]; simp [ej]
theorem RingAt.far (h : RingAt w r s n g) {p : Addr} (hr : r ≠ p.block) (hs : s ≠ p.block) (v : Value) : RingAt (w.setCell p v) r s n g :=
  h.kept (own := fun k => k = p.block) (Kept.set_ (own := fun k => k = p.block) (Kept.refl _ _) (.inl rfl) v) hr hs
theorem ActAt.ring (h : ActAt w a r c) : w.cell? ⟨a, 0, none⟩ = some (.pointer (some ⟨r, 0, none⟩)) := Blk.val h (i := 0) rfl
theorem ActAt.nx (h : ActAt w a r c) : w.cell? ⟨a, 1, none⟩ = some (.int .i64 c.nx) := Blk.val h (i := 1) rfl
theorem ActAt.po (h : ActAt w a r c) : w.cell? ⟨a, 2, none⟩ = some (.int .u64 (c.po : Int)) := Blk.val h (i := 2) rfl
theorem ActAt.pl (h : ActAt w a r c) : w.cell? ⟨a, 3, none⟩ = some (.int .u64 (c.pl : Int)) := Blk.val h (i := 3) rfl
theorem ActAt.pu (h : ActAt w a r c) : w.cell? ⟨a, 4, none⟩ = some (.int .u64 c.pu) := Blk.val h (i := 4) rfl
theorem ActAt.pp (h : ActAt w a r c) : w.cell? ⟨a, 5, none⟩ = some (.int .u64 c.pp) := Blk.val h (i := 5) rfl
theorem ActAt.rd (h : ActAt w a r c) : w.cell? ⟨a, 6, none⟩ = some (.bool c.rd) := Blk.val h (i := 6) rfl
theorem ActAt.st (h : ActAt w a r c) : w.cell? ⟨a, 7, none⟩ = some (.bool c.st) := Blk.val h (i := 7) rfl
theorem ActAt.free (h : ActAt w a r c) (k : Nat) : w.frozen? ⟨a, k, none⟩ = false := Blk.free h k
theorem ActAt.size (h : ActAt w a r c) : a < w.heap.size := Blk.size h
theorem ActAt.setNx (h : ActAt w a r c) (x : Int) : ActAt (w.setCell ⟨a, 1, none⟩ (.int .i64 x)) a r { c with nx := x } := Blk.set_ h 1 _
theorem ActAt.setPo (h : ActAt w a r c) (x : Nat) : ActAt (w.setCell ⟨a, 2, none⟩ (.int .u64 (x : Int))) a r { c with po := x } := Blk.set_ h 2 _
theorem ActAt.setPl (h : ActAt w a r c) (x : Nat) : ActAt (w.setCell ⟨a, 3, none⟩ (.int .u64 (x : Int))) a r { c with pl := x } := Blk.set_ h 3 _
theorem ActAt.setPp (h : ActAt w a r c) (x : Int) : ActAt (w.setCell ⟨a, 5, none⟩ (.int .u64 x)) a r { c with pp := x } := Blk.set_ h 5 _
theorem ActAt.setRd (h : ActAt w a r c) (x : Bool) : ActAt (w.setCell ⟨a, 6, none⟩ (.bool x)) a r { c with rd := x } := Blk.set_ h 6 _
theorem ActAt.setSt (h : ActAt w a r c) (x : Bool) : ActAt (w.setCell ⟨a, 7, none⟩ (.bool x)) a r { c with st := x } := Blk.set_ h 7 _
theorem ActAt.far (h : ActAt w a r c) {p : Addr} (hp : a ≠ p.block) (v : Value) : ActAt (w.setCell p v) a r c := Blk.far h v hp
theorem ActAt.kept {own : Nat → Prop} (h : ActAt w a r c) (hk : Kept own w w') (ha : ¬ own a) : ActAt w' a r c := Blk.kept h hk ha
theorem ActAt.drewN_ (h : ActAt w a r c) (k : Nat) : ActAt (w.drewN k) a r c := h
theorem ActAt.alloc_ (h : ActAt w a r c) (o : Obj) : ActAt (w.alloc o) a r c := Blk.alloc_ h o
theorem ActAt.apart (h : ActAt w a r c) {r' s n : Nat} {g : Rg} (hg : RingAt w r' s n g) : a ≠ r' ∧ a ≠ s := hg.apart h (by decide) (by decide)
end
/-! ### The single accesses -/
set_option maxHeartbeats 400000 in
theorem aload (b o : Nat) (x : Int) (w : World) (h : w.cell? ⟨b, o, none⟩ = some (.int .u64 x)) :
    Calls Try.prog 25 #[.pointer (some ⟨b, o, none⟩)] w fun e w' => e = .returned (.int .u64 x) ∧ w = w' := by
  have hl := run_call_load (P := Try.prog) Try.func34 (by kernel_rfl) (by kernel_rfl) (by kernel_rfl) .u64 (by kernel_rfl) h
  go_enter Try.func25, Try.ntmps25
  go_wp2
  go_ret
  exact ⟨rfl, rfl⟩
set_option maxHeartbeats 400000 in
theorem astore (b o : Nat) (x : Int) (u : Value) (w : World) (h : w.cell? ⟨b, o, none⟩ = some u) (hz : w.frozen? ⟨b, o, none⟩ = false) :
    Calls Try.prog 26 #[.pointer (some ⟨b, o, none⟩), .int .u64 x] w fun e w' => (∃ v, e = .returned v) ∧ w' = w.setCell ⟨b, o, none⟩ (.int .u64 x) := by
  have hl := run_call_store (P := Try.prog) (k := .u64) (y := x) Try.func35 (by kernel_rfl) (by kernel_rfl) (by kernel_rfl) (by kernel_rfl) h hz
  go_enter Try.func26, Try.ntmps26
  go_wp2
  go_end0
  exact ⟨⟨_, rfl⟩, rfl⟩
set_option maxHeartbeats 400000 in
theorem aadd (b o : Nat) (x : Nat) (w : World) (hx : x ≤ 1000000) (h : w.cell? ⟨b, o, none⟩ = some (.int .u64 (x : Int))) (hz : w.frozen? ⟨b, o, none⟩ = false) :
    Calls Try.prog 39 #[.pointer (some ⟨b, o, none⟩), .int .u64 1] w fun e w' => e = .returned (.int .u64 ((x : Int) + 1)) ∧ w' = w.setCell ⟨b, o, none⟩ (.int .u64 ((x : Int) + 1)) := by
  have hl := run_call_add (P := Try.prog) (y := 1) (s := (x : Int) + 1) Try.func43 (by kernel_rfl) (by kernel_rfl) (by kernel_rfl) .u64 (by kernel_rfl) h hz (by simp [go_sem]; exact IntWalk.u64_in _ (by omega))
  go_enter Try.func39, Try.ntmps39
  go_wp2
  go_ret
  exact ⟨rfl, rfl⟩
set_option maxHeartbeats 400000 in
theorem acas_hit (b o : Nat) (x y : Int) (w : World) (h : w.cell? ⟨b, o, none⟩ = some (.int .u64 x)) (hz : w.frozen? ⟨b, o, none⟩ = false) :
    Calls Try.prog 42 #[.pointer (some ⟨b, o, none⟩), .int .u64 x, .int .u64 y] w fun e w' => e = .returned (.bool true) ∧ w' = w.setCell ⟨b, o, none⟩ (.int .u64 y) := by
  have hl := run_call_cas_hit (P := Try.prog) (y := y) Try.func44 (by kernel_rfl) (by kernel_rfl) (by kernel_rfl) .u64 (by kernel_rfl) h hz
  go_enter Try.func42, Try.ntmps42
  go_wp2
  go_ret
  exact ⟨rfl, rfl⟩
set_option maxHeartbeats 400000 in
theorem acas_miss (b o : Nat) (x z y : Int) (w : World) (h : w.cell? ⟨b, o, none⟩ = some (.int .u64 x)) (hz : w.frozen? ⟨b, o, none⟩ = false) (hn : ¬ x = z) :
    Calls Try.prog 42 #[.pointer (some ⟨b, o, none⟩), .int .u64 z, .int .u64 y] w fun e w' => e = .returned (.bool false) ∧ w = w' := by
  have hl := run_call_cas_miss (P := Try.prog) (y := y) Try.func44 (by kernel_rfl) (by kernel_rfl) (by kernel_rfl) .u64 (by kernel_rfl) h hz hn
  go_enter Try.func42, Try.ntmps42
  go_wp2
  go_ret
  exact ⟨rfl, rfl⟩
end Go.Proofs.Ytbenpnecjmpcbaa
