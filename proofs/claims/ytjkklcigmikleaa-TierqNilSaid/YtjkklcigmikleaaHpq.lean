/- The library's sort, of a heap's entries. -/
import Derived.Test.YtjkklcigmikleaaHpo
import Derived.Test.YtjkklcigmikleaaSrtl
import Derived.Test.YtjkklcigmikleaaShelf
import Derived.WalkMore
namespace Go.Proofs.Ytjkklcigmikleaa
open Go.ChangeShapes Go.WideShapes Go.RowKit Go.Sort Go.Lib
set_option linter.unusedVariables false
set_option linter.unusedSimpArgs false
instance : Inhabited En := ⟨⟨0, 0, 0⟩⟩
/-- w' is w but for draws and new blocks. -/
def Grew (w w' : World) : Prop := ∃ q os, w' = grow (w.drewN q) os
theorem Grew.refl (w : World) : Grew w w := ⟨0, #[], by rw [grow_empty]; rfl⟩
theorem Grew.drew {w w' : World} (h : Grew w w') : Grew w w'.drew := by
  obtain ⟨q, os, rfl⟩ := h
  exact ⟨q + 1, os, rfl⟩
theorem Grew.alloc {w w' : World} (h : Grew w w') (o : Obj) : Grew w (w'.alloc o) := by
  obtain ⟨q, os, rfl⟩ := h
  exact ⟨q, os ++ #[o], by rw [alloc_eq_grow, grow_grow]⟩
set_option maxHeartbeats 1000000 in
theorem compare_grew (a b : En) (w : World) :
    Calls Try.prog 62 #[a.v, b.v] w fun e w' => e = .returned (.int .i64 (cmpE a b)) ∧ Grew w w' := by
  obtain ⟨ak, at_, am⟩ := a
  obtain ⟨bk, bt, bm⟩ := b
  have hc : cmpE ⟨ak, at_, am⟩ ⟨bk, bt, bm⟩ = or3 (cmp3 ak bk) (cmp3 at_ bt) (cmp3 am bm) := rfl
  rw [hc]; clear hc
  obtain ⟨x1, e1⟩ : ∃ x, cmp3 ak bk = x := ⟨_, rfl⟩
  obtain ⟨x2, e2⟩ : ∃ x, cmp3 at_ bt = x := ⟨_, rfl⟩
  obtain ⟨x3, e3⟩ : ∃ x, cmp3 am bm = x := ⟨_, rfl⟩
  rw [e1, e2, e3]
  obtain ⟨r, er⟩ : ∃ x, or3 x1 x2 x3 = x := ⟨_, rfl⟩
  rw [er]
  have E1 := Lib.hid e1
  have E2 := Lib.hid e2
  have E3 := Lib.hid e3
  have ER := Lib.hid er
  clear e1 e2 e3 er
  go_enter Try.func62, Try.ntmps62
  go_upto_region 1 with fail
  refine wp_worldh (fun wx => wx.cell? ⟨w.heap.size, 0, none⟩ = some (.int .i64 ak) ∧ wx.cell? ⟨w.heap.size, 1, none⟩ = some (.int .u64 at_) ∧ wx.cell? ⟨w.heap.size, 2, none⟩ = some (.int .i64 am) ∧ wx.cell? ⟨w.heap.size + 1, 0, none⟩ = some (.int .i64 bk) ∧ wx.cell? ⟨w.heap.size + 1, 1, none⟩ = some (.int .u64 bt) ∧ wx.cell? ⟨w.heap.size + 1, 2, none⟩ = some (.int .i64 bm) ∧ Grew w wx ∧ w.heap.size + 1 < wx.heap.size) ⟨((Blk.made w _ _).alloc_ _).val (i := 0) rfl, ((Blk.made w _ _).alloc_ _).val (i := 1) rfl, ((Blk.made w _ _).alloc_ _).val (i := 2) rfl, (Blk.new_ (by simp)).val (i := 0) rfl, (Blk.new_ (by simp)).val (i := 1) rfl, (Blk.new_ (by simp)).val (i := 2) rfl, ((Grew.refl _).alloc _).alloc _, by simp⟩ ?_
  rintro wx ⟨c0, c1, c2, c3, c4, c5, hb, hz⟩
  (go_region_held3 (fun w' => w'.cell? ⟨w.heap.size, 0, none⟩ = some (.int .i64 ak) ∧ w'.cell? ⟨w.heap.size, 1, none⟩ = some (.int .u64 at_) ∧ w'.cell? ⟨w.heap.size, 2, none⟩ = some (.int .i64 am) ∧ w'.cell? ⟨w.heap.size + 1, 0, none⟩ = some (.int .i64 bk) ∧ w'.cell? ⟨w.heap.size + 1, 1, none⟩ = some (.int .u64 bt) ∧ w'.cell? ⟨w.heap.size + 1, 2, none⟩ = some (.int .i64 bm)) ((repeat (first | with_reducible assumption | refine ⟨?_, ?_⟩ | with_reducible refine kdrew ?_ | with_reducible refine kalloc ?_ _)))
    (first
      | (go_at_call 76; refine (comp1 _ _ _).mono ?_; rw [E1.out]; rintro e w1 ⟨rfl, rfl⟩)
      | (go_at_call 77; refine (comp2 _ _ _).mono ?_; rw [E2.out]; rintro e w1 ⟨rfl, rfl⟩)
      | (go_at_call 78; refine (comp3 _ _ _).mono ?_; rw [E3.out]; rintro e w1 ⟨rfl, rfl⟩)
      | (go_at_call 75; (first | refine (or_any _ _ _ _ _ (Blk.made _ _ _)).mono ?_ | refine (or_any _ _ _ _ _ (Blk.drew_ (Blk.made _ _ _))).mono ?_); rw [ER.out]; rintro e w1 ⟨rfl, rfl⟩)))
  all_goals
    go_wp2_with fail
    go_ret
    exact ⟨rfl, by repeat (first | with_reducible exact hb | with_reducible refine Grew.drew ?_ | with_reducible refine Grew.alloc ?_ _)⟩
theorem swoE : SWO (ltOf cmpE) := by
  have key : ∀ x y, ltOf cmpE x y = true ↔ ltE x y := fun x y => by unfold ltOf; rw [decide_eq_true_iff]; exact cmpE_neg x y
  have key2 : ∀ x y, ltOf cmpE x y = false ↔ ¬ ltE x y := fun x y => by rw [← key]; simp
  exact ⟨fun x => (key2 x x).2 (ltE_irrefl x), fun x y z h k => (key x z).2 (ltE_trans ((key x y).1 h) ((key y z).1 k)), fun x y z h k => (key2 x z).2 (nlt_trans ((key2 x y).1 h) ((key2 y z).1 k))⟩
set_option maxRecDepth 20000 in
set_option maxHeartbeats 1000000 in
theorem ins_nil (w : World) (f : Value) : Calls Try.prog 80 #[.slice none 0 0, .int .i64 0, .int .i64 0, f] w fun e w' => e = .returned (.tuple #[]) ∧ w = w' := by
  go_enter Try.func80, Try.ntmps80
  go_wp2_with fail
  go_loopw [8] (fun s8 wr => s8 = .int .i64 1 ∧ wr = w) (fun _ _ => 0)
  case atStart => exact ⟨rfl, rfl⟩
  case round =>
    obtain ⟨rfl, rfl⟩ := hrel
    go_wp2_with fail
    first | go_end0 | skip
    exact ⟨rfl, rfl⟩
set_option maxRecDepth 20000 in
set_option maxHeartbeats 1000000 in
theorem pdq_nil (w : World) (f : Value) : Calls Try.prog 73 #[.slice none 0 0, .int .i64 0, .int .i64 0, .int .i64 0, f] w fun e w' => e = .returned (.tuple #[]) ∧ w = w' := by
  go_enter Try.func73, Try.ntmps73
  go_wp2_with fail
  go_loopw [1, 2] (fun s1 s2 wr => s1 = .int .i64 0 ∧ s2 = .int .i64 0 ∧ wr = w) (fun _ _ _ => 0)
  case atStart => exact ⟨rfl, rfl, rfl⟩
  case round =>
    obtain ⟨rfl, rfl, rfl⟩ := hrel
    go_wp2_with fail
    refine (ins_nil _ _).mono ?_
    rintro e w1 ⟨rfl, rfl⟩
    go_wp2_with fail
    refine bodyPost_ret (results_none rfl _ _ _) rfl ?_
    exact ⟨rfl, rfl⟩
theorem hsort_nil (w : World) (f : Value) : Calls Try.prog 61 #[.slice none 0 0, f] w fun e w' => e = .returned (.tuple #[]) ∧ w = w' := by
  have hb : (Lib.bitLen (0 : Int).toNat : Int) = 0 := by decide
  go_enter Try.func61, Try.ntmps61
  go_wp2_with fail
  refine (Try.bits_Len 0 _ (by decide) (by decide)).mono ?_
  rw [hb]
  rintro e w1 ⟨rfl, rfl⟩
  go_wp2_with fail
  refine (pdq_nil _ _).mono ?_
  rintro e w2 ⟨rfl, rfl⟩
  go_wp2_with fail
  first | go_end0 | skip
  exact ⟨rfl, rfl⟩
/-- The sort of a row of entries that is ours. -/
theorem hsort (w : World) (g cap : Nat) (d : Array En) (hH : HoldsK entRow 3 w g 0 d) (hg : g < w.heap.size) (hd : d.size ≤ 100000) :
    Calls Try.prog 61 #[.slice (some ⟨g, 0, none⟩) d.size cap, .func (.func 62) #[] #[]] w fun e w' => e = .returned (.tuple #[]) ∧ ∃ d' n os, PermIn 0 d.size d d' ∧ SortedIn (ltOf cmpE) 0 d.size d' ∧ w' = sortWorldK entRow 3 w g 0 n d' os := by
  have eg : ∀ args w, (callFunc 62 args).run Try.prog w = .ok (.enter 62 args) w := enters_of Try.func62 (by kernel_rfl) rfl
  have h := AnyQ.slices_SortFunc Try.sortEn 3 Try.isAgg123 Try.sizeOf123 entRow (fun _ => rfl) (fun x v hv => by simp [entRow] at hv; rcases hv with rfl | rfl | rfl <;> rfl) cmpE swoE 62 #[] g 0 cap d w eg (fun m os dk _ x y => compare_grew x y _) hH hg (by omega)
  exact h
end Go.Proofs.Ytjkklcigmikleaa
