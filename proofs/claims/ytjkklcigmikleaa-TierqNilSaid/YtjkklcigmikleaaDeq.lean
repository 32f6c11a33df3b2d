/- Rows of layer 6 in memory: their ends, their members. -/
import Derived.Test.YtjkklcigmikleaaProg
import Derived.Test.YtjkklcigmikleaaBlk
import Derived.Test.YtjkklcigmikleaaHelpb
import Derived.Test.YtjkklcigmikleaaHelpc
import Derived.WalkKit
import Derived.IntWalk
import Derived.Lib.Hide
import Derived.Deep.OwnRows
import Derived.Deep.DeepCutAuto
import Derived.Deep.RegionHeld3
import Derived.Deep.QuietTactic
import Derived.BigQuiet
namespace Go.Proofs.Ytjkklcigmikleaa
open Go.RowKit
set_option linter.unusedVariables false
def lineRow (a b c : Int) : List Value := [.int .i64 a, .int .i64 b, .int .i64 c]
def memRow (a b c d : Int) : List Value := [.int .i64 a, .int .i64 b, .int .i64 c, .int .u64 d]
/-- In w the rows behind ⟨p, 0⟩: R of them (block a: first, last, how many), M members (block b: row, neighbours, how often pushed). -/
structure DeqAt (w : World) (p a b R M : Nat) (E0 E1 C W B0 B1 U : Nat → Int) : Prop where
  pa : p ≠ a
  pb : p ≠ b
  ab : a ≠ b
  r0 : R ≤ 8
  m0 : M ≤ 1024
  head : Blk w p 104 #[.slice (some ⟨a, 0, none⟩) R R, .slice (some ⟨b, 0, none⟩) M M]
  rows : ∃ cs, Blk w a 107 cs ∧ cs.size = R * 3 ∧ ∀ i, i < R → ∀ k, k < 3 → cs[i * 3 + k]? = (lineRow (E0 i) (E1 i) (C i))[k]?
  mems : ∃ cs, Blk w b 109 cs ∧ cs.size = M * 4 ∧ ∀ i, i < M → ∀ k, k < 4 → cs[i * 4 + k]? = (memRow (W i) (B0 i) (B1 i) (U i))[k]?
section
variable {w w' : World} {p a b R M : Nat} {E0 E1 C W B0 B1 U E0' E1' C' W' B0' B1' U' : Nat → Int}
theorem DeqAt.p0 (h : DeqAt w p a b R M E0 E1 C W B0 B1 U) : w.cell? ⟨p, 0, none⟩ = some (.slice (some ⟨a, 0, none⟩) R R) := h.head.val (i := 0) rfl
theorem DeqAt.p1 (h : DeqAt w p a b R M E0 E1 C W B0 B1 U) : w.cell? ⟨p, 1, none⟩ = some (.slice (some ⟨b, 0, none⟩) M M) := h.head.val (i := 1) rfl
theorem DeqAt.e0 (h : DeqAt w p a b R M E0 E1 C W B0 B1 U) {i : Nat} (hi : i < R) : w.cell? ⟨a, i * 3, none⟩ = some (.int .i64 (E0 i)) := by obtain ⟨cs, bc, _, cc⟩ := h.rows; exact bc.val (cc i hi 0 (by omega))
theorem DeqAt.e1 (h : DeqAt w p a b R M E0 E1 C W B0 B1 U) {i : Nat} (hi : i < R) : w.cell? ⟨a, i * 3 + 1, none⟩ = some (.int .i64 (E1 i)) := by obtain ⟨cs, bc, _, cc⟩ := h.rows; exact bc.val (cc i hi 1 (by omega))
theorem DeqAt.ct (h : DeqAt w p a b R M E0 E1 C W B0 B1 U) {i : Nat} (hi : i < R) : w.cell? ⟨a, i * 3 + 2, none⟩ = some (.int .i64 (C i)) := by obtain ⟨cs, bc, _, cc⟩ := h.rows; exact bc.val (cc i hi 2 (by omega))
theorem DeqAt.mw (h : DeqAt w p a b R M E0 E1 C W B0 B1 U) {i : Nat} (hi : i < M) : w.cell? ⟨b, i * 4, none⟩ = some (.int .i64 (W i)) := by obtain ⟨cs, bc, _, cc⟩ := h.mems; exact bc.val (cc i hi 0 (by omega))
theorem DeqAt.b0 (h : DeqAt w p a b R M E0 E1 C W B0 B1 U) {i : Nat} (hi : i < M) : w.cell? ⟨b, i * 4 + 1, none⟩ = some (.int .i64 (B0 i)) := by obtain ⟨cs, bc, _, cc⟩ := h.mems; exact bc.val (cc i hi 1 (by omega))
theorem DeqAt.b1 (h : DeqAt w p a b R M E0 E1 C W B0 B1 U) {i : Nat} (hi : i < M) : w.cell? ⟨b, i * 4 + 2, none⟩ = some (.int .i64 (B1 i)) := by obtain ⟨cs, bc, _, cc⟩ := h.mems; exact bc.val (cc i hi 2 (by omega))
theorem DeqAt.mu (h : DeqAt w p a b R M E0 E1 C W B0 B1 U) {i : Nat} (hi : i < M) : w.cell? ⟨b, i * 4 + 3, none⟩ = some (.int .u64 (U i)) := by obtain ⟨cs, bc, _, cc⟩ := h.mems; exact bc.val (cc i hi 3 (by omega))
theorem DeqAt.za (h : DeqAt w p a b R M E0 E1 C W B0 B1 U) (k : Nat) : w.frozen? ⟨a, k, none⟩ = false := by obtain ⟨cs, bc, _, _⟩ := h.rows; exact bc.free k
theorem DeqAt.zb (h : DeqAt w p a b R M E0 E1 C W B0 B1 U) (k : Nat) : w.frozen? ⟨b, k, none⟩ = false := by obtain ⟨cs, bc, _, _⟩ := h.mems; exact bc.free k
theorem DeqAt.lts (h : DeqAt w p a b R M E0 E1 C W B0 B1 U) : p < w.heap.size ∧ a < w.heap.size ∧ b < w.heap.size := by
  obtain ⟨cs, bc, _, _⟩ := h.rows
  obtain ⟨ds, bd, _, _⟩ := h.mems
  exact ⟨h.head.size, bc.size, bd.size⟩
theorem DeqAt.kept {own : Nat → Prop} (h : DeqAt w p a b R M E0 E1 C W B0 B1 U) (hk : Kept own w w') (op : ¬ own p) (oa : ¬ own a) (ob : ¬ own b) : DeqAt w' p a b R M E0 E1 C W B0 B1 U := by
  obtain ⟨a1, a2, a3, a4, a5, hd, ⟨cs, bc, cz, cc⟩, ⟨fs, bf, fz, ff⟩⟩ := h
  exact ⟨a1, a2, a3, a4, a5, hd.kept hk op, ⟨cs, bc.kept hk oa, cz, cc⟩, ⟨fs, bf.kept hk ob, fz, ff⟩⟩
theorem DeqAt.below {B : Nat} (h : DeqAt w p a b R M E0 E1 C W B0 B1 U) (hb : Below B w w') (hp : p < B) (hc : a < B) (hf : b < B) : DeqAt w' p a b R M E0 E1 C W B0 B1 U := by
  obtain ⟨a1, a2, a3, a4, a5, hd, ⟨cs, bc, cz, cc⟩, ⟨fs, bf, fz, ff⟩⟩ := h
  exact ⟨a1, a2, a3, a4, a5, hd.below_ hb hp, ⟨cs, bc.below_ hb hc, cz, cc⟩, ⟨fs, bf.below_ hb hf, fz, ff⟩⟩
theorem DeqAt.drew_ (h : DeqAt w p a b R M E0 E1 C W B0 B1 U) : DeqAt w.drew p a b R M E0 E1 C W B0 B1 U := h.kept (own := fun _ => False) (Kept.refl _ _).drew_ id id id
theorem DeqAt.drewN_ (h : DeqAt w p a b R M E0 E1 C W B0 B1 U) (k : Nat) : DeqAt (w.drewN k) p a b R M E0 E1 C W B0 B1 U := h.kept (own := fun _ => False) ((Kept.refl _ _).drewN_ k) id id id
theorem DeqAt.alloc_ (h : DeqAt w p a b R M E0 E1 C W B0 B1 U) (o : Obj) : DeqAt (w.alloc o) p a b R M E0 E1 C W B0 B1 U := h.kept (own := fun _ => False) ((Kept.refl _ _).alloc_ o) id id id
theorem DeqAt.congr (h : DeqAt w p a b R M E0 E1 C W B0 B1 U) (hr : ∀ j, j < R → E0' j = E0 j ∧ E1' j = E1 j ∧ C' j = C j) (hm : ∀ j, j < M → W' j = W j ∧ B0' j = B0 j ∧ B1' j = B1 j ∧ U' j = U j) : DeqAt w p a b R M E0' E1' C' W' B0' B1' U' := by
  obtain ⟨a1, a2, a3, a4, a5, hd, ⟨cs, bc, cz, cc⟩, ⟨fs, bf, fz, ff⟩⟩ := h
  exact ⟨a1, a2, a3, a4, a5, hd, ⟨cs, bc, cz, fun i hi k hk => by rw [(hr i hi).1, (hr i hi).2.1, (hr i hi).2.2]; exact cc i hi k hk⟩, ⟨fs, bf, fz, fun i hi k hk => by rw [(hm i hi).1, (hm i hi).2.1, (hm i hi).2.2.1, (hm i hi).2.2.2]; exact ff i hi k hk⟩⟩
theorem DeqAt.setLine (h : DeqAt w p a b R M E0 E1 C W B0 B1 U) {i k : Nat} (hi : i < R) (hk : k < 3) {v : Value}
    (hr : ∀ j, j < R → ∀ l, l < 3 → (lineRow (E0' j) (E1' j) (C' j))[l]? = if j = i ∧ l = k then some v else (lineRow (E0 j) (E1 j) (C j))[l]?) : DeqAt (w.setCell ⟨a, i * 3 + k, none⟩ v) p a b R M E0' E1' C' W B0 B1 U := by
  obtain ⟨a1, a2, a3, a4, a5, hd, ⟨cs, bc, cz, cc⟩, ⟨fs, bf, fz, ff⟩⟩ := h
  refine ⟨a1, a2, a3, a4, a5, hd.far _ a1, ⟨_, bc.set_ _ _, by simpa using cz, fun j hj l hl => ?_⟩, ⟨fs, bf.far _ (Ne.symm a3), fz, ff⟩⟩
  rw [hr j hj l hl]
  by_cases e : j = i ∧ l = k
  · rw [if_pos e, e.1, e.2]; exact get_set_same (by omega) v
  · rw [if_neg e, get_set_far (by omega)]; exact cc j hj l hl
theorem DeqAt.setMem (h : DeqAt w p a b R M E0 E1 C W B0 B1 U) {i k : Nat} (hi : i < M) (hk : k < 4) {v : Value}
    (hr : ∀ j, j < M → ∀ l, l < 4 → (memRow (W' j) (B0' j) (B1' j) (U' j))[l]? = if j = i ∧ l = k then some v else (memRow (W j) (B0 j) (B1 j) (U j))[l]?) : DeqAt (w.setCell ⟨b, i * 4 + k, none⟩ v) p a b R M E0 E1 C W' B0' B1' U' := by
  obtain ⟨a1, a2, a3, a4, a5, hd, ⟨cs, bc, cz, cc⟩, ⟨fs, bf, fz, ff⟩⟩ := h
  refine ⟨a1, a2, a3, a4, a5, hd.far _ a2, ⟨cs, bc.far _ a3, cz, cc⟩, ⟨_, bf.set_ _ _, by simpa using fz, fun j hj l hl => ?_⟩⟩
  rw [hr j hj l hl]
  by_cases e : j = i ∧ l = k
  · rw [if_pos e, e.1, e.2]; exact get_set_same (by omega) v
  · rw [if_neg e, get_set_far (by omega)]; exact ff j hj l hl
theorem DeqAt.setE0 (h : DeqAt w p a b R M E0 E1 C W B0 B1 U) {i : Nat} (hi : i < R) {v : Int} : DeqAt (w.setCell ⟨a, i * 3, none⟩ (.int .i64 v)) p a b R M (fun j => if j = i then v else E0 j) E1 C W B0 B1 U :=
  h.setLine (k := 0) hi (by omega) fun j hj l hl => by
    by_cases e : j = i
    · match l, hl with
      | 0, _ => simp [e, lineRow]
      | 1, _ | 2, _ => simp [e, lineRow]
    · simp [e]
theorem DeqAt.setE1 (h : DeqAt w p a b R M E0 E1 C W B0 B1 U) {i : Nat} (hi : i < R) {v : Int} : DeqAt (w.setCell ⟨a, i * 3 + 1, none⟩ (.int .i64 v)) p a b R M E0 (fun j => if j = i then v else E1 j) C W B0 B1 U :=
  h.setLine (k := 1) hi (by omega) fun j hj l hl => by
    by_cases e : j = i
    · match l, hl with
      | 1, _ => simp [e, lineRow]
      | 0, _ | 2, _ => simp [e, lineRow]
    · simp [e]
theorem DeqAt.setC (h : DeqAt w p a b R M E0 E1 C W B0 B1 U) {i : Nat} (hi : i < R) {v : Int} : DeqAt (w.setCell ⟨a, i * 3 + 2, none⟩ (.int .i64 v)) p a b R M E0 E1 (fun j => if j = i then v else C j) W B0 B1 U :=
  h.setLine (k := 2) hi (by omega) fun j hj l hl => by
    by_cases e : j = i
    · match l, hl with
      | 2, _ => simp [e, lineRow]
      | 0, _ | 1, _ => simp [e, lineRow]
    · simp [e]
theorem DeqAt.setW (h : DeqAt w p a b R M E0 E1 C W B0 B1 U) {i : Nat} (hi : i < M) {v : Int} : DeqAt (w.setCell ⟨b, i * 4, none⟩ (.int .i64 v)) p a b R M E0 E1 C (fun j => if j = i then v else W j) B0 B1 U :=
  h.setMem (k := 0) hi (by omega) fun j hj l hl => by
    by_cases e : j = i
    · match l, hl with
      | 0, _ => simp [e, memRow]
      | 1, _ | 2, _ | 3, _ => simp [e, memRow]
    · simp [e]
theorem DeqAt.setB0 (h : DeqAt w p a b R M E0 E1 C W B0 B1 U) {i : Nat} (hi : i < M) {v : Int} : DeqAt (w.setCell ⟨b, i * 4 + 1, none⟩ (.int .i64 v)) p a b R M E0 E1 C W (fun j => if j = i then v else B0 j) B1 U :=
  h.setMem (k := 1) hi (by omega) fun j hj l hl => by
    by_cases e : j = i
    · match l, hl with
      | 1, _ => simp [e, memRow]
      | 0, _ | 2, _ | 3, _ => simp [e, memRow]
    · simp [e]
theorem DeqAt.setB1 (h : DeqAt w p a b R M E0 E1 C W B0 B1 U) {i : Nat} (hi : i < M) {v : Int} : DeqAt (w.setCell ⟨b, i * 4 + 2, none⟩ (.int .i64 v)) p a b R M E0 E1 C W B0 (fun j => if j = i then v else B1 j) U :=
  h.setMem (k := 2) hi (by omega) fun j hj l hl => by
    by_cases e : j = i
    · match l, hl with
      | 2, _ => simp [e, memRow]
      | 0, _ | 1, _ | 3, _ => simp [e, memRow]
    · simp [e]
theorem DeqAt.setU (h : DeqAt w p a b R M E0 E1 C W B0 B1 U) {i : Nat} (hi : i < M) {v : Int} : DeqAt (w.setCell ⟨b, i * 4 + 3, none⟩ (.int .u64 v)) p a b R M E0 E1 C W B0 B1 (fun j => if j = i then v else U j) :=
  h.setMem (k := 3) hi (by omega) fun j hj l hl => by
    by_cases e : j = i
    · match l, hl with
      | 3, _ => simp [e, memRow]
      | 0, _ | 1, _ | 2, _ => simp [e, memRow]
    · simp [e]
end
end Go.Proofs.Ytjkklcigmikleaa
