/- The document's ring and its acts in memory. -/
import Derived.Test.YtbenpnecjmpcbaaRngj
namespace Go.Proofs.Ytbenpnecjmpcbaa
open Go.RowKit
set_option linter.unusedVariables false
/-- In w the document's ring behind ⟨q, 0⟩ has n slots (blocks b, d) and g's numbers. -/
structure XAt (w : World) (q b d n cb cd : Nat) (g : Rg) : Prop where
  n0 : 0 < n
  n1 : n ≤ 64
  bd : b ≠ d
  hb : n ≤ cb
  hd : n ≤ cd
  head : Blk w q 77 #[.int .u64 (g.T : Int), .int .u64 (g.H : Int), .slice (some ⟨b, 0, none⟩) n cb, .slice (some ⟨d, 0, none⟩) n cd]
  nums : ∃ cs, Blk w b 33 cs ∧ n ≤ cs.size ∧ ∀ i, i < n → cs[i]? = some (.int .u64 (g.S i : Int))
  vals : ∃ cs, Blk w d 33 cs ∧ n ≤ cs.size ∧ ∀ i, i < n → cs[i]? = some (.int .u64 (g.V i))
/-- An act of the document: its kind, step, place read, place, value; has it ended well? -/
def YAt (w : World) (y : Nat) (K nx : Int) (po pl : Nat) (v : Int) (wl : Bool) : Prop := Blk w y 61 #[.int .i64 K, .int .i64 nx, .int .u64 (po : Int), .int .u64 (pl : Int), .int .u64 v, .bool wl]
def Our (y q b d k : Nat) : Prop := k = y ∨ k = q ∨ k = b ∨ k = d
section
variable {w w' : World} {q b d n cb cd y : Nat} {g : Rg} {K nx v : Int} {po pl : Nat} {wl : Bool}
theorem XAt.kept {own : Nat → Prop} (h : XAt w q b d n cb cd g) (hk : Kept own w w') (h1 : ¬ own q) (h2 : ¬ own b) (h3 : ¬ own d) : XAt w' q b d n cb cd g := by
  obtain ⟨a0, a1, a2, a3, a4, hd, ⟨cs, bc, bz, bb⟩, ⟨ds, dc, dz, dd⟩⟩ := h
  exact ⟨a0, a1, a2, a3, a4, hd.kept hk h1, ⟨cs, bc.kept hk h2, bz, bb⟩, ⟨ds, dc.kept hk h3, dz, dd⟩⟩
theorem XAt.drewN_ (h : XAt w q b d n cb cd g) (k : Nat) : XAt (w.drewN k) q b d n cb cd g := h.kept (own := fun _ => False) ((Kept.refl _ _).drewN_ k) id id id
theorem XAt.drew_ (h : XAt w q b d n cb cd g) : XAt w.drew q b d n cb cd g := h.kept (own := fun _ => False) (Kept.refl _ _).drew_ id id id
theorem XAt.alloc_ (h : XAt w q b d n cb cd g) (o : Obj) : XAt (w.alloc o) q b d n cb cd g := h.kept (own := fun _ => False) ((Kept.refl _ _).alloc_ o) id id id
theorem XAt.lts (h : XAt w q b d n cb cd g) : q < w.heap.size ∧ b < w.heap.size ∧ d < w.heap.size := by
  obtain ⟨a0, a1, a2, a3, a4, hd, ⟨cs, bc, bz, bb⟩, ⟨ds, dc, dz, dd⟩⟩ := h
  exact ⟨hd.size, bc.size, dc.size⟩
theorem XAt.below {B : Nat} (h : XAt w q b d n cb cd g) (hB : Below B w w') (h1 : q < B) (h2 : b < B) (h3 : d < B) : XAt w' q b d n cb cd g := by
  obtain ⟨a0, a1, a2, a3, a4, hd, ⟨cs, bc, bz, bb⟩, ⟨ds, dc, dz, dd⟩⟩ := h
  exact ⟨a0, a1, a2, a3, a4, hd.below_ hB h1, ⟨cs, bc.below_ hB h2, bz, bb⟩, ⟨ds, dc.below_ hB h3, dz, dd⟩⟩
theorem XAt.qs (h : XAt w q b d n cb cd g) : q ≠ b ∧ q ≠ d := by
  obtain ⟨a0, a1, a2, a3, a4, hd, ⟨cs, bc, bz, bb⟩, ⟨ds, dc, dz, dd⟩⟩ := h
  exact ⟨hd.other bc (by decide), hd.other dc (by decide)⟩
theorem XAt.apart {t : TypeId} {cs : Array Value} {k : Nat} (h : XAt w q b d n cb cd g) (hk : Blk w k t cs) (h1 : t ≠ 77) (h2 : t ≠ 33) : k ≠ q ∧ k ≠ b ∧ k ≠ d := by
  obtain ⟨a0, a1, a2, a3, a4, hd, ⟨cs, bc, bz, bb⟩, ⟨ds, dc, dz, dd⟩⟩ := h
  exact ⟨hk.other hd h1, hk.other bc h2, hk.other dc h2⟩
theorem XAt.t0 (h : XAt w q b d n cb cd g) : w.cell? ⟨q, 0, none⟩ = some (.int .u64 (g.T : Int)) := h.head.val (i := 0) rfl
theorem XAt.h0 (h : XAt w q b d n cb cd g) : w.cell? ⟨q, 1, none⟩ = some (.int .u64 (g.H : Int)) := h.head.val (i := 1) rfl
theorem XAt.s0 (h : XAt w q b d n cb cd g) : w.cell? ⟨q, 2, none⟩ = some (.slice (some ⟨b, 0, none⟩) n cb) := h.head.val (i := 2) rfl
theorem XAt.v0 (h : XAt w q b d n cb cd g) : w.cell? ⟨q, 3, none⟩ = some (.slice (some ⟨d, 0, none⟩) n cd) := h.head.val (i := 3) rfl
theorem XAt.zq (h : XAt w q b d n cb cd g) (k : Nat) : w.frozen? ⟨q, k, none⟩ = false := h.head.free k
theorem XAt.zb (h : XAt w q b d n cb cd g) (k : Nat) : w.frozen? ⟨b, k, none⟩ = false := by obtain ⟨cs, bc, _, _⟩ := h.nums; exact bc.free k
theorem XAt.zd (h : XAt w q b d n cb cd g) (k : Nat) : w.frozen? ⟨d, k, none⟩ = false := by obtain ⟨cs, bc, _, _⟩ := h.vals; exact bc.free k
theorem XAt.sq (h : XAt w q b d n cb cd g) {i : Nat} (hi : i < n) : w.cell? ⟨b, i, none⟩ = some (.int .u64 (g.S i : Int)) := by obtain ⟨cs, bc, _, c⟩ := h.nums; exact bc.val (c i hi)
theorem XAt.vl (h : XAt w q b d n cb cd g) {i : Nat} (hi : i < n) : w.cell? ⟨d, i, none⟩ = some (.int .u64 (g.V i)) := by obtain ⟨cs, bc, _, c⟩ := h.vals; exact bc.val (c i hi)
theorem XAt.far (h : XAt w q b d n cb cd g) {p : Addr} (h1 : q ≠ p.block) (h2 : b ≠ p.block) (h3 : d ≠ p.block) (u : Value) : XAt (w.setCell p u) q b d n cb cd g :=
  h.kept (own := fun k => k = p.block) (Kept.set_ (own := fun k => k = p.block) (Kept.refl _ _) (.inl rfl) u) h1 h2 h3
theorem XAt.setT (h : XAt w q b d n cb cd g) (x : Nat) : XAt (w.setCell ⟨q, 0, none⟩ (.int .u64 (x : Int))) q b d n cb cd { g with T := x } := by
  have e := h.qs
  obtain ⟨a0, a1, a2, a3, a4, hd, ⟨cs, bc, bz, bb⟩, ⟨ds, dc, dz, dd⟩⟩ := h
  exact ⟨a0, a1, a2, a3, a4, hd.set_ 0 _, ⟨cs, bc.far _ (Ne.symm e.1), bz, bb⟩, ⟨ds, dc.far _ (Ne.symm e.2), dz, dd⟩⟩
theorem XAt.setH (h : XAt w q b d n cb cd g) (x : Nat) : XAt (w.setCell ⟨q, 1, none⟩ (.int .u64 (x : Int))) q b d n cb cd { g with H := x } := by
  have e := h.qs
  obtain ⟨a0, a1, a2, a3, a4, hd, ⟨cs, bc, bz, bb⟩, ⟨ds, dc, dz, dd⟩⟩ := h
  exact ⟨a0, a1, a2, a3, a4, hd.set_ 1 _, ⟨cs, bc.far _ (Ne.symm e.1), bz, bb⟩, ⟨ds, dc.far _ (Ne.symm e.2), dz, dd⟩⟩
theorem XAt.setS (h : XAt w q b d n cb cd g) {i : Nat} (hi : i < n) (x : Nat) : XAt (w.setCell ⟨b, i, none⟩ (.int .u64 (x : Int))) q b d n cb cd { g with S := fun j => if j = i then x else g.S j } := by
  have e := h.qs
  obtain ⟨a0, a1, a2, a3, a4, hd, ⟨cs, bc, bz, bb⟩, ⟨ds, dc, dz, dd⟩⟩ := h
  refine ⟨a0, a1, a2, a3, a4, hd.far _ e.1, ⟨_, bc.set_ _ _, by simpa using bz, fun j hj => ?_⟩, ⟨ds, dc.far _ (Ne.symm a2), dz, dd⟩⟩
  by_cases ej : j = i
  · rw [ej, get_set_same (by omega)]; simp
  · rw [get_set_far (fun c => ej c.symm), bb j hj]; simp [ej]
theorem XAt.setV (h : XAt w q b d n cb cd g) {i : Nat} (hi : i < n) (x : Int) : XAt (w.setCell ⟨d, i, none⟩ (.int .u64 x)) q b d n cb cd { g with V := fun j => if j = i then x else g.V j } := by
  have e := h.qs
  obtain ⟨a0, a1, a2, a3, a4, hd, ⟨cs, bc, bz, bb⟩, ⟨ds, dc, dz, dd⟩⟩ := h
  refine ⟨a0, a1, a2, a3, a4, hd.far _ e.2, ⟨cs, bc.far _ a2, bz, bb⟩, ⟨_, dc.set_ _ _, by simpa using dz, fun j hj => ?_⟩⟩
  by_cases ej : j = i
  · rw [ej, get_set_same (by omega)]; simp
  · rw [get_set_far (fun c => ej c.symm), dd j hj]; simp [ej]
theorem YAt.k0 (h : YAt w y K nx po pl v wl) : w.cell? ⟨y, 0, none⟩ = some (.int .i64 K) := Blk.val h (i := 0) rfl
theorem YAt.nx1 (h : YAt w y K nx po pl v wl) : w.cell? ⟨y, 1, none⟩ = some (.int .i64 nx) := Blk.val h (i := 1) rfl
theorem YAt.po2 (h : YAt w y K nx po pl v wl) : w.cell? ⟨y, 2, none⟩ = some (.int .u64 (po : Int)) := Blk.val h (i := 2) rfl
theorem YAt.pl3 (h : YAt w y K nx po pl v wl) : w.cell? ⟨y, 3, none⟩ = some (.int .u64 (pl : Int)) := Blk.val h (i := 3) rfl
theorem YAt.v4 (h : YAt w y K nx po pl v wl) : w.cell? ⟨y, 4, none⟩ = some (.int .u64 v) := Blk.val h (i := 4) rfl
theorem YAt.wl5 (h : YAt w y K nx po pl v wl) : w.cell? ⟨y, 5, none⟩ = some (.bool wl) := Blk.val h (i := 5) rfl
theorem YAt.free (h : YAt w y K nx po pl v wl) (k : Nat) : w.frozen? ⟨y, k, none⟩ = false := Blk.free h k
theorem YAt.size (h : YAt w y K nx po pl v wl) : y < w.heap.size := Blk.size h
theorem YAt.kept {own : Nat → Prop} (h : YAt w y K nx po pl v wl) (hk : Kept own w w') (hy : ¬ own y) : YAt w' y K nx po pl v wl := Blk.kept h hk hy
theorem YAt.far (h : YAt w y K nx po pl v wl) {p : Addr} (hp : y ≠ p.block) (u : Value) : YAt (w.setCell p u) y K nx po pl v wl := Blk.far h u hp
theorem YAt.setNx (h : YAt w y K nx po pl v wl) (x : Int) : YAt (w.setCell ⟨y, 1, none⟩ (.int .i64 x)) y K x po pl v wl := Blk.set_ h 1 _
theorem YAt.setPo (h : YAt w y K nx po pl v wl) (x : Nat) : YAt (w.setCell ⟨y, 2, none⟩ (.int .u64 (x : Int))) y K nx x pl v wl := Blk.set_ h 2 _
theorem YAt.setPl (h : YAt w y K nx po pl v wl) (x : Nat) : YAt (w.setCell ⟨y, 3, none⟩ (.int .u64 (x : Int))) y K nx po x v wl := Blk.set_ h 3 _
theorem YAt.setV (h : YAt w y K nx po pl v wl) (x : Int) : YAt (w.setCell ⟨y, 4, none⟩ (.int .u64 x)) y K nx po pl x wl := Blk.set_ h 4 _
theorem YAt.setWl (h : YAt w y K nx po pl v wl) (x : Bool) : YAt (w.setCell ⟨y, 5, none⟩ (.bool x)) y K nx po pl v x := Blk.set_ h 5 _
theorem YAt.apart (h : YAt w y K nx po pl v wl) (hg : XAt w q b d n cb cd g) : y ≠ q ∧ y ≠ b ∧ y ≠ d := hg.apart h (by decide) (by decide)
end
set_option maxHeartbeats 400000 in
theorem ybegin (K v : Int) (w : World) :
    Calls Try.prog 28 #[.int .i64 K, .int .u64 v] w fun e w' => e = .returned (.pointer (some ⟨w.heap.size, 0, none⟩)) ∧ YAt w' w.heap.size K 1 0 0 v false ∧ Below w.heap.size w w' := by
  go_enter Try.func28, Try.ntmps28
  go_wp2
  go_ret
  exact ⟨rfl, Blk.made w _ _, (Below.refl _ _).alloc (Nat.le_refl _) _⟩
/-- What a look at a place's number says. -/
def seeE (S ready : Nat) : Int := if S < ready then 0 else if ready < S then 1 else 3
theorem diff_u64 (S R : Nat) (h0 : S ≤ 1000000) (h1 : R ≤ 1000000) : IntKind.u64.wrap ((S : Int) - (R : Int)) = if S < R then (S : Int) - (R : Int) + 18446744073709551616 else (S : Int) - (R : Int) := by
  have hu : IntKind.u64.wrap ((S : Int) - (R : Int)) = ((S : Int) - (R : Int)) % 18446744073709551616 := by simp [IntKind.wrap, IntKind.bits, IntKind.signed]
  rw [hu]
  by_cases h : S < R
  · rw [if_pos h]; omega
  · rw [if_neg h]; omega
end Go.Proofs.Ytbenpnecjmpcbaa
