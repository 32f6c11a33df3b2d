/- A lock and a box in memory; their calls, the program's and the document's. -/
import Derived.Test.YtocgflhecnkcfaaProg
import Derived.Test.YtocgflhecnkcfaaBlk
import Derived.Test.YtocgflhecnkcfaaHelpb
import Derived.WalkKit
import Derived.IntWalk
import Derived.Lib.Hide
import Derived.Deep.QuietTactic
import Derived.BigQuiet
import Derived.Deep.RegionHeld3
import Derived.Deep.DeepCutAuto
import Derived.Laws.LoneSync
namespace Go.Proofs.Ytocgflhecnkcfaa
open Go.RowKit
set_option linter.unusedVariables false
set_option linter.unusedSimpArgs false
/-- A call. -/
structure OpV where
  k : Int
  t : Int
  c : Int
  n : Int
/-- An answer. -/
structure ReV where
  a : Int
  k : Int
  t : Int
  c : Int
  s : Int
abbrev OpV.v (o : OpV) : Value := .agg #[.int .u8 o.k, .int .i64 o.t, .int .i64 o.c, .int .i64 o.n]
abbrev ReV.v (o : ReV) : Value := .agg #[.int .u8 o.a, .int .u64 o.k, .int .i64 o.t, .int .i64 o.c, .int .i64 o.s]
def op0 : OpV := ⟨0, 0, 0, 0⟩
def re0 : ReV := ⟨0, 0, 0, 0, 0⟩
/-- A lock whose owner is o. -/
def LkAt (w : World) (l : Nat) (o : Int) : Prop := Blk w l 72 #[.int .i64 o]
/-- The document's. -/
def DLk (w : World) (l : Nat) (o : Int) : Prop := Blk w l 28 #[.int .i64 o]
/-- A box in state s, with a call and an answer. -/
def BoxAt (w : World) (b : Nat) (s : Int) (o : OpV) (r : ReV) : Prop := Blk w b 79 #[.int .i32 s, .int .u8 o.k, .int .i64 o.t, .int .i64 o.c, .int .i64 o.n, .int .u8 r.a, .int .u64 r.k, .int .i64 r.t, .int .i64 r.c, .int .i64 r.s]
def DBox (w : World) (b : Nat) (s : Int) (o : OpV) (r : ReV) : Prop := Blk w b 45 #[.int .i64 s, .int .u8 o.k, .int .i64 o.t, .int .i64 o.c, .int .i64 o.n, .int .u8 r.a, .int .u64 r.k, .int .i64 r.t, .int .i64 r.c, .int .i64 r.s]
theorem kset1 (w : World) (l i : Nat) (u : Value) : Kept (fun k => k = l) w (w.setCell ⟨l, i, none⟩ u) := (Kept.refl (fun k => k = l) w).set_ (p := ⟨l, i, none⟩) (.inl rfl) u
/-! ### The single accesses -/
set_option maxHeartbeats 400000 in
theorem aload64 (b o : Nat) (x : Int) (w : World) (h : w.cell? ⟨b, o, none⟩ = some (.int .i64 x)) :
    Calls Try.prog 25 #[.pointer (some ⟨b, o, none⟩)] w fun e w' => e = .returned (.int .i64 x) ∧ w = w' := by
  have hl := run_call_load (P := Try.prog) Try.func31 (by kernel_rfl) (by kernel_rfl) (by kernel_rfl) .i64 (by kernel_rfl) h
  go_enter Try.func25, Try.ntmps25
  go_wp2
  go_ret
  exact ⟨rfl, rfl⟩
set_option maxHeartbeats 400000 in
theorem aload32 (b o : Nat) (x : Int) (w : World) (h : w.cell? ⟨b, o, none⟩ = some (.int .i32 x)) :
    Calls Try.prog 28 #[.pointer (some ⟨b, o, none⟩)] w fun e w' => e = .returned (.int .i32 x) ∧ w = w' := by
  have hl := run_call_load (P := Try.prog) Try.func33 (by kernel_rfl) (by kernel_rfl) (by kernel_rfl) .i32 (by kernel_rfl) h
  go_enter Try.func28, Try.ntmps28
  go_wp2
  go_ret
  exact ⟨rfl, rfl⟩
set_option maxHeartbeats 400000 in
theorem astore64 (b o : Nat) (x : Int) (u : Value) (w : World) (h : w.cell? ⟨b, o, none⟩ = some u) (hz : w.frozen? ⟨b, o, none⟩ = false) :
    Calls Try.prog 23 #[.pointer (some ⟨b, o, none⟩), .int .i64 x] w fun e w' => (∃ v, e = .returned v) ∧ w' = w.setCell ⟨b, o, none⟩ (.int .i64 x) := by
  have hl := run_call_store (P := Try.prog) (k := .i64) (y := x) Try.func29 (by kernel_rfl) (by kernel_rfl) (by kernel_rfl) (by kernel_rfl) h hz
  go_enter Try.func23, Try.ntmps23
  go_wp2
  go_end0
  exact ⟨⟨_, rfl⟩, rfl⟩
set_option maxHeartbeats 400000 in
theorem astore32 (b o : Nat) (x : Int) (u : Value) (w : World) (h : w.cell? ⟨b, o, none⟩ = some u) (hz : w.frozen? ⟨b, o, none⟩ = false) :
    Calls Try.prog 27 #[.pointer (some ⟨b, o, none⟩), .int .i32 x] w fun e w' => (∃ v, e = .returned v) ∧ w' = w.setCell ⟨b, o, none⟩ (.int .i32 x) := by
  have hl := run_call_store (P := Try.prog) (k := .i32) (y := x) Try.func32 (by kernel_rfl) (by kernel_rfl) (by kernel_rfl) (by kernel_rfl) h hz
  go_enter Try.func27, Try.ntmps27
  go_wp2
  go_end0
  exact ⟨⟨_, rfl⟩, rfl⟩
set_option maxHeartbeats 400000 in
theorem acas64_hit (b o : Nat) (x y : Int) (w : World) (h : w.cell? ⟨b, o, none⟩ = some (.int .i64 x)) (hz : w.frozen? ⟨b, o, none⟩ = false) :
    Calls Try.prog 24 #[.pointer (some ⟨b, o, none⟩), .int .i64 x, .int .i64 y] w fun e w' => e = .returned (.bool true) ∧ w' = w.setCell ⟨b, o, none⟩ (.int .i64 y) := by
  have hl := run_call_cas_hit (P := Try.prog) (y := y) Try.func30 (by kernel_rfl) (by kernel_rfl) (by kernel_rfl) .i64 (by kernel_rfl) h hz
  go_enter Try.func24, Try.ntmps24
  go_wp2
  go_ret
  exact ⟨rfl, rfl⟩
set_option maxHeartbeats 400000 in
theorem acas64_miss (b o : Nat) (x z y : Int) (w : World) (h : w.cell? ⟨b, o, none⟩ = some (.int .i64 x)) (hz : w.frozen? ⟨b, o, none⟩ = false) (hn : ¬ x = z) :
    Calls Try.prog 24 #[.pointer (some ⟨b, o, none⟩), .int .i64 z, .int .i64 y] w fun e w' => e = .returned (.bool false) ∧ w = w' := by
  have hl := run_call_cas_miss (P := Try.prog) (y := y) Try.func30 (by kernel_rfl) (by kernel_rfl) (by kernel_rfl) .i64 (by kernel_rfl) h hz hn
  go_enter Try.func24, Try.ntmps24
  go_wp2
  go_ret
  exact ⟨rfl, rfl⟩
/-! ### The lock -/
set_option maxHeartbeats 400000 in
theorem lk_new (w : World) :
    Calls Try.prog 8 #[] w fun e w' => e = .returned (.pointer (some ⟨w.heap.size, 0, none⟩)) ∧ LkAt w' w.heap.size (-1) ∧ Below w.heap.size w w' := by
  go_enter Try.func8, Try.ntmps8
  go_upto_region 2 with fail
  have hb : Blk (w.alloc (.cells #[.int .i64 0] 72)) w.heap.size 72 #[.int .i64 0] := Blk.made _ _ _
  have hc := hb.val (i := 0) rfl
  have hz := hb.free 0
  have HB := Lib.hid hb
  clear hb
  go_wp2_with (go_at_call 23; refine (astore64 _ _ _ _ _ hc hz).mono ?_; rintro e w1 ⟨⟨v, rfl⟩, rfl⟩)
  go_ret
  exact ⟨rfl, Blk.made _ _ _, (Below.refl _ _).alloc (Nat.le_refl _) _⟩
set_option maxHeartbeats 400000 in
/-- Who tries: he has it just if nobody has. -/
theorem lk_try (l : Nat) (o i : Int) (w : World) (h : LkAt w l o) :
    Calls Try.prog 9 #[.pointer (some ⟨l, 0, none⟩), .int .i64 i] w fun e w' => e = .returned (.bool (decide (0 ≤ i ∧ o = -1))) ∧ LkAt w' l (if 0 ≤ i ∧ o = -1 then i else o) ∧ Kept (fun k => k = l) w w' := by
  have hc : w.cell? ⟨l, 0, none⟩ = some (.int .i64 o) := Blk.val h (i := 0) rfl
  have hz := Blk.free h 0
  have H := Lib.hid h
  clear h
  by_cases hi : 0 ≤ i
  · by_cases ho : o = -1
    · subst ho
      rw [if_pos ⟨hi, rfl⟩, decide_eq_true (show 0 ≤ i ∧ (-1 : Int) = -1 from ⟨hi, rfl⟩)]
      go_enter Try.func9, Try.ntmps9
      go_wp2_with (go_at_call 24; refine (acas64_hit _ _ _ _ _ hc hz).mono ?_; rintro e w1 ⟨rfl, rfl⟩)
      go_ret
      exact ⟨rfl, Blk.set_ H.out 0 _, kset1 _ _ _ _⟩
    · rw [if_neg (fun h => ho h.2), decide_eq_false (fun h => ho h.2)]
      go_enter Try.func9, Try.ntmps9
      go_wp2_with (go_at_call 24; refine (acas64_miss _ _ _ _ _ _ hc hz ho).mono ?_; rintro e w1 ⟨rfl, rfl⟩)
      go_ret
      exact ⟨rfl, H.out, Kept.refl _ _⟩
  · rw [if_neg (fun h => hi h.1), decide_eq_false (fun h => hi h.1)]
    go_enter Try.func9, Try.ntmps9
    go_wp2
    go_ret
    exact ⟨rfl, H.out, Kept.refl _ _⟩
set_option maxHeartbeats 400000 in
/-- Who frees: he doesn't have it any more, if he had. -/
theorem lk_free (l : Nat) (o i : Int) (w : World) (h : LkAt w l o) :
    Calls Try.prog 11 #[.pointer (some ⟨l, 0, none⟩), .int .i64 i] w fun e w' => e = .returned (.bool (decide (0 ≤ i ∧ o = i))) ∧ LkAt w' l (if 0 ≤ i ∧ o = i then -1 else o) ∧ Kept (fun k => k = l) w w' := by
  have hc : w.cell? ⟨l, 0, none⟩ = some (.int .i64 o) := Blk.val h (i := 0) rfl
  have hz := Blk.free h 0
  have H := Lib.hid h
  clear h
  by_cases hi : 0 ≤ i
  · by_cases ho : o = i
    · subst ho
      rw [if_pos ⟨hi, rfl⟩, decide_eq_true (show 0 ≤ o ∧ o = o from ⟨hi, rfl⟩)]
      go_enter Try.func11, Try.ntmps11
      go_wp2_with (go_at_call 24; refine (acas64_hit _ _ _ _ _ hc hz).mono ?_; rintro e w1 ⟨rfl, rfl⟩)
      go_ret
      exact ⟨rfl, Blk.set_ H.out 0 _, kset1 _ _ _ _⟩
    · rw [if_neg (fun h => ho h.2), decide_eq_false (fun h => ho h.2)]
      go_enter Try.func11, Try.ntmps11
      go_wp2_with (go_at_call 24; refine (acas64_miss _ _ _ _ _ _ hc hz ho).mono ?_; rintro e w1 ⟨rfl, rfl⟩)
      go_ret
      exact ⟨rfl, H.out, Kept.refl _ _⟩
  · rw [if_neg (fun h => hi h.1), decide_eq_false (fun h => hi h.1)]
    go_enter Try.func11, Try.ntmps11
    go_wp2
    go_ret
    exact ⟨rfl, H.out, Kept.refl _ _⟩
/-- Who it is, as it is told. -/
def whoE (o : Int) : Int := if o = -1 then 0 else o
set_option maxHeartbeats 400000 in
theorem lk_owner (l : Nat) (o : Int) (w : World) (h : LkAt w l o) :
    Calls Try.prog 13 #[.pointer (some ⟨l, 0, none⟩)] w fun e w' => e = .returned (.tuple #[.int .i64 (whoE o), .bool (decide (o ≠ -1))]) ∧ w = w' := by
  have hc : w.cell? ⟨l, 0, none⟩ = some (.int .i64 o) := Blk.val h (i := 0) rfl
  clear h
  by_cases ho : o = -1
  · subst ho
    rw [show whoE (-1) = 0 from rfl, show decide ((-1 : Int) ≠ -1) = false from rfl]
    go_enter Try.func13, Try.ntmps13
    go_wp2_with (go_at_call 25; refine (aload64 _ _ _ _ hc).mono ?_; rintro e w1 ⟨rfl, rfl⟩)
    go_ret2
    exact ⟨rfl, rfl⟩
  · rw [show whoE o = o from if_neg ho, decide_eq_true ho]
    go_enter Try.func13, Try.ntmps13
    go_wp2_with (go_at_call 25; refine (aload64 _ _ _ _ hc).mono ?_; rintro e w1 ⟨rfl, rfl⟩)
    go_ret2
    exact ⟨rfl, rfl⟩
/-! ### The document's lock -/
set_option maxHeartbeats 400000 in
theorem dk_try (l : Nat) (o i : Int) (w : World) (h : DLk w l o) :
    Calls Try.prog 10 #[.pointer (some ⟨l, 0, none⟩), .int .i64 i] w fun e w' => e = .returned (.bool (decide (0 ≤ i ∧ o < 0))) ∧ DLk w' l (if 0 ≤ i ∧ o < 0 then i else o) ∧ Kept (fun k => k = l) w w' := by
  have hc : w.cell? ⟨l, 0, none⟩ = some (.int .i64 o) := Blk.val h (i := 0) rfl
  have hz := Blk.free h 0
  have H := Lib.hid h
  clear h
  by_cases hi : 0 ≤ i
  · have hi' : ¬ i < 0 := by omega
    by_cases ho : o < 0
    · have ho' : ¬ 0 ≤ o := by omega
      rw [if_pos ⟨hi, ho⟩, decide_eq_true (show 0 ≤ i ∧ o < 0 from ⟨hi, ho⟩)]
      go_enter Try.func10, Try.ntmps10
      go_wp2
      go_ret
      exact ⟨rfl, Blk.set_ H.out 0 _, kset1 _ _ _ _⟩
    · have ho' : 0 ≤ o := by omega
      rw [if_neg (fun h => ho h.2), decide_eq_false (fun h => ho h.2)]
      go_enter Try.func10, Try.ntmps10
      go_wp2
      go_ret
      exact ⟨rfl, H.out, Kept.refl _ _⟩
  · have hi' : i < 0 := by omega
    rw [if_neg (fun h => hi h.1), decide_eq_false (fun h => hi h.1)]
    go_enter Try.func10, Try.ntmps10
    go_wp2
    go_ret
    exact ⟨rfl, H.out, Kept.refl _ _⟩
set_option maxHeartbeats 400000 in
theorem dk_free (l : Nat) (o i : Int) (w : World) (h : DLk w l o) :
    Calls Try.prog 12 #[.pointer (some ⟨l, 0, none⟩), .int .i64 i] w fun e w' => e = .returned (.bool (decide (0 ≤ i ∧ o = i))) ∧ DLk w' l (if 0 ≤ i ∧ o = i then -1 else o) ∧ Kept (fun k => k = l) w w' := by
  have hc : w.cell? ⟨l, 0, none⟩ = some (.int .i64 o) := Blk.val h (i := 0) rfl
  have hz := Blk.free h 0
  have H := Lib.hid h
  clear h
  by_cases hi : 0 ≤ i
  · have hi' : ¬ i < 0 := by omega
    by_cases ho : o = i
    · subst ho
      rw [if_pos ⟨hi, rfl⟩, decide_eq_true (show 0 ≤ o ∧ o = o from ⟨hi, rfl⟩)]
      go_enter Try.func12, Try.ntmps12
      go_wp2
      go_ret
      exact ⟨rfl, Blk.set_ H.out 0 _, kset1 _ _ _ _⟩
    · rw [if_neg (fun h => ho h.2), decide_eq_false (fun h => ho h.2)]
      go_enter Try.func12, Try.ntmps12
      go_wp2
      go_ret
      exact ⟨rfl, H.out, Kept.refl _ _⟩
  · have hi' : i < 0 := by omega
    rw [if_neg (fun h => hi h.1), decide_eq_false (fun h => hi h.1)]
    go_enter Try.func12, Try.ntmps12
    go_wp2
    go_ret
    exact ⟨rfl, H.out, Kept.refl _ _⟩
end Go.Proofs.Ytocgflhecnkcfaa
