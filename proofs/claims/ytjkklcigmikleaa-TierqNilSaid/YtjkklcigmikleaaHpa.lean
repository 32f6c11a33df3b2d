/- Which of two entries of a heap comes first: cmp's Compare and Or, the entries' own compare. -/
import Derived.Test.YtjkklcigmikleaaProg
import Derived.Test.YtjkklcigmikleaaBlk
import Derived.Test.YtjkklcigmikleaaHelpb
import Derived.Test.YtjkklcigmikleaaHelp
import Derived.Deep.RegionWith
import Derived.Lib.Hide
import Derived.Deep.RegionHeld3
import Derived.Test.YtjkklcigmikleaaHelpc
import Derived.Deep.DeepCutAuto
import Derived.WalkMore
import Derived.Deep.LoopGhost
namespace Go.Proofs.Ytjkklcigmikleaa
open Go.ChangeShapes Go.WideShapes Go.RowKit
set_option linter.unusedVariables false
def cmp3 (a b : Int) : Int := if a < b then -1 else if b < a then 1 else 0
theorem nan1 (a : Int) (w : World) : Calls Try.prog 90 #[.int .i64 a] w fun e w' => e = .returned (.bool false) ∧ w = w' := by
  go_enter Try.func90, Try.ntmps90
  go_wp2
  go_ret
  exact ⟨rfl, rfl⟩
theorem nan2 (a : Int) (w : World) : Calls Try.prog 91 #[.int .u64 a] w fun e w' => e = .returned (.bool false) ∧ w = w' := by
  go_enter Try.func91, Try.ntmps91
  go_wp2
  go_ret
  exact ⟨rfl, rfl⟩
theorem nan3 (a : Int) (w : World) : Calls Try.prog 92 #[.int .i64 a] w fun e w' => e = .returned (.bool false) ∧ w = w' := by
  go_enter Try.func92, Try.ntmps92
  go_wp2
  go_ret
  exact ⟨rfl, rfl⟩
set_option maxHeartbeats 400000 in
theorem comp1 (a b : Int) (w : World) : Calls Try.prog 76 #[.int .i64 a, .int .i64 b] w fun e w' => e = .returned (.int .i64 (cmp3 a b)) ∧ w = w' := by
  rcases Int.lt_trichotomy a b with h | h | h
  · have e : cmp3 a b = -1 := by unfold cmp3; rw [if_pos h]
    rw [e]; clear e
    go_enter Try.func76, Try.ntmps76
    go_wp2_with (go_at_call 90; refine (nan1 _ _).mono ?_; rintro e w1 ⟨rfl, rfl⟩)
    go_ret
    exact ⟨rfl, rfl⟩
  · have e : cmp3 a b = 0 := by unfold cmp3; rw [if_neg (by omega), if_neg (by omega)]
    rw [e]; clear e
    subst h
    go_enter Try.func76, Try.ntmps76
    go_wp2_with (go_at_call 90; refine (nan1 _ _).mono ?_; rintro e w1 ⟨rfl, rfl⟩)
    go_ret
    exact ⟨rfl, rfl⟩
  · have e : cmp3 a b = 1 := by unfold cmp3; rw [if_neg (by omega), if_pos h]
    rw [e]; clear e
    go_enter Try.func76, Try.ntmps76
    go_wp2_with (go_at_call 90; refine (nan1 _ _).mono ?_; rintro e w1 ⟨rfl, rfl⟩)
    go_ret
    exact ⟨rfl, rfl⟩
set_option maxHeartbeats 400000 in
theorem comp2 (a b : Int) (w : World) : Calls Try.prog 77 #[.int .u64 a, .int .u64 b] w fun e w' => e = .returned (.int .i64 (cmp3 a b)) ∧ w = w' := by
  rcases Int.lt_trichotomy a b with h | h | h
  · have e : cmp3 a b = -1 := by unfold cmp3; rw [if_pos h]
    rw [e]; clear e
    go_enter Try.func77, Try.ntmps77
    go_wp2_with (go_at_call 91; refine (nan2 _ _).mono ?_; rintro e w1 ⟨rfl, rfl⟩)
    go_ret
    exact ⟨rfl, rfl⟩
  · have e : cmp3 a b = 0 := by unfold cmp3; rw [if_neg (by omega), if_neg (by omega)]
    rw [e]; clear e
    subst h
    go_enter Try.func77, Try.ntmps77
    go_wp2_with (go_at_call 91; refine (nan2 _ _).mono ?_; rintro e w1 ⟨rfl, rfl⟩)
    go_ret
    exact ⟨rfl, rfl⟩
  · have e : cmp3 a b = 1 := by unfold cmp3; rw [if_neg (by omega), if_pos h]
    rw [e]; clear e
    go_enter Try.func77, Try.ntmps77
    go_wp2_with (go_at_call 91; refine (nan2 _ _).mono ?_; rintro e w1 ⟨rfl, rfl⟩)
    go_ret
    exact ⟨rfl, rfl⟩
set_option maxHeartbeats 400000 in
theorem comp3 (a b : Int) (w : World) : Calls Try.prog 78 #[.int .i64 a, .int .i64 b] w fun e w' => e = .returned (.int .i64 (cmp3 a b)) ∧ w = w' := by
  rcases Int.lt_trichotomy a b with h | h | h
  · have e : cmp3 a b = -1 := by unfold cmp3; rw [if_pos h]
    rw [e]; clear e
    go_enter Try.func78, Try.ntmps78
    go_wp2_with (go_at_call 92; refine (nan3 _ _).mono ?_; rintro e w1 ⟨rfl, rfl⟩)
    go_ret
    exact ⟨rfl, rfl⟩
  · have e : cmp3 a b = 0 := by unfold cmp3; rw [if_neg (by omega), if_neg (by omega)]
    rw [e]; clear e
    subst h
    go_enter Try.func78, Try.ntmps78
    go_wp2_with (go_at_call 92; refine (nan3 _ _).mono ?_; rintro e w1 ⟨rfl, rfl⟩)
    go_ret
    exact ⟨rfl, rfl⟩
  · have e : cmp3 a b = 1 := by unfold cmp3; rw [if_neg (by omega), if_pos h]
    rw [e]; clear e
    go_enter Try.func78, Try.ntmps78
    go_wp2_with (go_at_call 92; refine (nan3 _ _).mono ?_; rintro e w1 ⟨rfl, rfl⟩)
    go_ret
    exact ⟨rfl, rfl⟩
def or3 (x y z : Int) : Int := if x = 0 then (if y = 0 then z else y) else x
set_option maxHeartbeats 1000000 in
theorem or_any {g : Nat} {T : TypeId} (c : Nat) (x y z : Int) (w : World) (h : Blk w g T #[.int .i64 x, .int .i64 y, .int .i64 z]) :
    Calls Try.prog 75 #[.slice (some ⟨g, 0, none⟩) 3 c] w fun e w' => e = .returned (.int .i64 (or3 x y z)) ∧ w = w' := by
  have c0 := h.val (i := 0) rfl
  have c1 := h.val (i := 1) rfl
  have c2 := h.val (i := 2) rfl
  clear h
  by_cases hx : x = 0
  · by_cases hy : y = 0
    · have e : or3 x y z = z := by unfold or3; rw [if_pos hx, if_pos hy]
      rw [e]; clear e
      subst hx hy
      go_enter Try.func75, Try.ntmps75
      go_wp2
      go_loopw [5, 8] (fun s5 s8 wr => ∃ k : Nat, k ≤ 3 ∧ s8 = .int .i64 k ∧ (k = 3 → z = 0) ∧ wr = w) (fun _ i _ => 3 - (intOf i).toNat)
      case atStart => exact ⟨0, by omega, rfl, (fun h => by omega), rfl⟩
      case round =>
        obtain ⟨k, hk, rfl, hz, rfl⟩ := hrel
        match k, hk with
        | 0, _ =>
          go_wp2
          go_roundw
          case rel => exact ⟨1, by omega, by go_num, (fun h => by omega), by trivial⟩
          case measure => simp [intOf]
        | 1, _ =>
          go_wp2
          go_roundw
          case rel => exact ⟨2, by omega, by go_num, (fun h => by omega), by trivial⟩
          case measure => simp [intOf]
        | 2, _ =>
          by_cases h0 : z = 0
          · go_wp2
            go_roundw
            case rel => exact ⟨3, by omega, by go_num, (fun _ => h0), by trivial⟩
            case measure => simp [intOf]
          · go_wp2
            go_ret
            exact ⟨rfl, rfl⟩
        | 3, _ =>
          have h0 := hz rfl
          subst h0
          go_wp2
          go_ret
          exact ⟨rfl, rfl⟩
    · have e : or3 x y z = y := by unfold or3; rw [if_pos hx, if_neg hy]
      rw [e]; clear e
      subst hx
      go_enter Try.func75, Try.ntmps75
      go_wp2
      go_loopw [5, 8] (fun s5 s8 wr => ∃ k : Nat, k ≤ 1 ∧ s8 = .int .i64 k ∧ wr = w) (fun _ i _ => 3 - (intOf i).toNat)
      case atStart => exact ⟨0, by omega, rfl, rfl⟩
      case round =>
        obtain ⟨k, hk, rfl, rfl⟩ := hrel
        match k, hk with
        | 0, _ =>
          go_wp2
          go_roundw
          case rel => exact ⟨1, by omega, by go_num, by trivial⟩
          case measure => simp [intOf]
        | 1, _ =>
          go_wp2
          go_ret
          exact ⟨rfl, rfl⟩
  · have e : or3 x y z = x := by unfold or3; rw [if_neg hx]
    rw [e]; clear e
    go_enter Try.func75, Try.ntmps75
    go_wp2
    go_loopw [5, 8] (fun s5 s8 wr => s8 = .int .i64 0 ∧ wr = w) (fun _ i _ => 3 - (intOf i).toNat)
    case atStart => exact ⟨rfl, rfl⟩
    case round =>
      obtain ⟨rfl, rfl⟩ := hrel
      go_wp2
      go_ret
      exact ⟨rfl, rfl⟩
/-- An entry: its key, its tie, its member. -/
structure En where
  k : Int
  t : Int
  m : Int
abbrev En.v (a : En) : Value := .agg #[.int .i64 a.k, .int .u64 a.t, .int .i64 a.m]
/-- Which of two comes first. -/
def cmpE (a b : En) : Int := or3 (cmp3 a.k b.k) (cmp3 a.t b.t) (cmp3 a.m b.m)
theorem wp_worldh {P : Program} {code : Code} {Q : Exit → Act → World → Prop} {a : Act} {w : World} (φ : World → Prop) (h : φ w) (k : ∀ wx, φ wx → Code.wp P code Q a wx) : Code.wp P code Q a w := k w h
set_option maxHeartbeats 1000000 in
theorem compare_any (a b : En) (w : World) :
    Calls Try.prog 62 #[a.v, b.v] w fun e w' => e = .returned (.int .i64 (cmpE a b)) ∧ Below w.heap.size w w' := by
  obtain ⟨ak, at_, am⟩ := a
  obtain ⟨bk, bt, bm⟩ := b
  have hc : cmpE ⟨ak, at_, am⟩ ⟨bk, bt, bm⟩ = or3 (cmp3 ak bk) (cmp3 at_ bt) (cmp3 am bm) := rfl
  rw [hc]; clear hc
  obtain ⟨x1, e1⟩ : ∃ x, cmp3 ak bk = x := ⟨_, rfl⟩
  obtain ⟨x2, e2⟩ : ∃ x, cmp3 at_ bt = x := ⟨_, rfl⟩
  obtain ⟨x3, e3⟩ : ∃ x, cmp3 am bm = x := ⟨_, rfl⟩
  rw [e1, e2, e3]
  obtain ⟨r, er⟩ : ∃ x, or3 x1 x2 x3 = x := ⟨_, rfl⟩
  rw [er]
  have E1 := Lib.hid e1
  have E2 := Lib.hid e2
  have E3 := Lib.hid e3
  have ER := Lib.hid er
  clear e1 e2 e3 er
  go_enter Try.func62, Try.ntmps62
  go_upto_region 1 with fail
  refine wp_worldh (fun wx => wx.cell? ⟨w.heap.size, 0, none⟩ = some (.int .i64 ak) ∧ wx.cell? ⟨w.heap.size, 1, none⟩ = some (.int .u64 at_) ∧ wx.cell? ⟨w.heap.size, 2, none⟩ = some (.int .i64 am) ∧ wx.cell? ⟨w.heap.size + 1, 0, none⟩ = some (.int .i64 bk) ∧ wx.cell? ⟨w.heap.size + 1, 1, none⟩ = some (.int .u64 bt) ∧ wx.cell? ⟨w.heap.size + 1, 2, none⟩ = some (.int .i64 bm) ∧ Below w.heap.size w wx) ⟨((Blk.made w _ _).alloc_ _).val (i := 0) rfl, ((Blk.made w _ _).alloc_ _).val (i := 1) rfl, ((Blk.made w _ _).alloc_ _).val (i := 2) rfl, (Blk.new_ (by simp)).val (i := 0) rfl, (Blk.new_ (by simp)).val (i := 1) rfl, (Blk.new_ (by simp)).val (i := 2) rfl, ((Below.refl _ _).alloc (Nat.le_refl _) _).alloc (by simp) _⟩ ?_
  rintro wx ⟨c0, c1, c2, c3, c4, c5, hb⟩
  have hz := hb.size
  (go_region_held3 (fun w' => w'.cell? ⟨w.heap.size, 0, none⟩ = some (.int .i64 ak) ∧ w'.cell? ⟨w.heap.size, 1, none⟩ = some (.int .u64 at_) ∧ w'.cell? ⟨w.heap.size, 2, none⟩ = some (.int .i64 am) ∧ w'.cell? ⟨w.heap.size + 1, 0, none⟩ = some (.int .i64 bk) ∧ w'.cell? ⟨w.heap.size + 1, 1, none⟩ = some (.int .u64 bt) ∧ w'.cell? ⟨w.heap.size + 1, 2, none⟩ = some (.int .i64 bm)) ((repeat (first | with_reducible assumption | refine ⟨?_, ?_⟩ | with_reducible refine kdrew ?_ | with_reducible refine kalloc ?_ _)))
    (first
      | (go_at_call 76; refine (comp1 _ _ _).mono ?_; rw [E1.out]; rintro e w1 ⟨rfl, rfl⟩)
      | (go_at_call 77; refine (comp2 _ _ _).mono ?_; rw [E2.out]; rintro e w1 ⟨rfl, rfl⟩)
      | (go_at_call 78; refine (comp3 _ _ _).mono ?_; rw [E3.out]; rintro e w1 ⟨rfl, rfl⟩)
      | (go_at_call 75; (first | refine (or_any _ _ _ _ _ (Blk.made _ _ _)).mono ?_ | refine (or_any _ _ _ _ _ (Blk.drew_ (Blk.made _ _ _))).mono ?_); rw [ER.out]; rintro e w1 ⟨rfl, rfl⟩)))
  all_goals
    go_wp2_with fail
    go_ret
    exact ⟨rfl, by repeat (first | with_reducible exact hb | with_reducible refine Below.drew ?_ | refine Below.alloc ?_ (by (try simp); (try omega)) _)⟩
end Go.Proofs.Ytjkklcigmikleaa
