/- A nil log: Count, Longest, Spread. -/
import Derived.Test.YtidkemgibehpcaaTli
namespace Go.Proofs.Ytidkemgibehpcaa
open Go.RowKit Go.Shelf
set_option linter.unusedVariables false
set_option linter.unusedSimpArgs false
attribute [local go_sem] Oper.semAt_some
abbrev NoS : Nat → Prop := fun _ => False
theorem noS_lt (n : Nat) : ∀ g, NoS g → g < n := fun g h => h.elim
set_option maxRecDepth 100000 in
set_option maxHeartbeats 4000000 in
theorem tcount_nil (tier why : Int) (w : World) :
    Calls Try.prog 12 #[.pointer none, .int .i64 tier, .int .u8 why] w fun e w' => e = .returned (.int .i64 0) ∧ Below w.heap.size w w' := by
  refine (callsIn_wide (n := 9)).1 ?_
  refine callsIn_of_wp_marks Try.func12 rfl trivial ?_ rfl
  simp only [Try.ntmps12, List.size_toArray, List.length_cons, List.length_nil, Nat.reduceAdd, Nat.reduceSub, Array.replicate_succ, Array.replicate_zero, List.push_toArray, List.append_toArray, List.nil_append, List.cons_append]
  gi_wp2_with (refine ⟨trivial, ?_⟩; gi_at_call 21; refine (callsIn_wide.2 (tall_made none why _)).mono ?_; rintro e W4 ⟨rfl, c0, c1, hb4, hz4⟩)
  obtain ⟨k, hk⟩ : ∃ k, w.heap.size + 1 + 1 = k := ⟨_, rfl⟩
  simp only [World.size_alloc, hk] at c0 c1 hb4 hz4 ⊢
  have a0 : Below w.heap.size w ((w.alloc (Obj.cells #[.int .i64 tier] 3)).alloc (Obj.cells #[.int .i64 0] 3)) := ((Below.refl _ w).alloc (Nat.le_refl _) _).alloc (by simp) _
  have b7 : Boxed W4 (w.heap.size + 1) 3 (.int .i64 0) := (hb4.block _ (by omega)).trans (by have := Boxed.new (w.alloc (Obj.cells #[.int .i64 tier] 3)) 3 (.int .i64 0); rw [World.size_alloc] at this; exact this)
  have hlo : Lo NoS w W4 W4 := ⟨Same.refl _ _, Nat.le_refl _, a0.trans (hb4.mono (by omega))⟩
  have hseq := tstops_nil (L := []) W4 (n := 8) (k := k) (Kp := Same NoS) (by omega) (by omega) c0
  refine wpIn_rangeFunc_ownH rfl (by omega) (gf := 30) (lb := tlv k) rfl trivial (enters_of Try.func30 (by kernel_rfl) rfl)
    hseq Same.trans (same_put (noS_lt _)) (Below.refl _ _) (fun _ => rfl)
    (fun pre W => Boxed W (w.heap.size + 1) 3 (.int .i64 0) ∧ Lo NoS w W4 W)
    (fun _ _ _ => False)
    (fun pre A B row h hg hr => ⟨boxed_stay hg hr h.1, h.2.stay hg hr (noS_lt _) (by omega)⟩)
    (fun _ _ _ _ _ hs _ _ => hs)
    ⟨b7, hlo⟩
    (fun x a' W => True)
    (fun x a' => fun _ _ _ _ _ _ _ => trivial) ?assign ?body ?done ?stop
  case assign =>
    rintro l pre x W K ⟨i7, hl4⟩ hK
    gi_wp2
    exact hK _ _ (KeepsFrom.of_grownBy (grown_alloc _ _ none) (fun j e => by cases e)) (Same.alloc_ (Same.refl _ _) (fun g hg => hg.elim) _) ⟨i7.alloc _, hl4.alloc (noS_lt _) _⟩ trivial
  case body =>
    intro l pre x a' W hl hr hI hA hlt
    exact absurd hlt (Nat.not_lt_zero _)
  case done =>
    rintro D ys W hD rfl ⟨i7, hl4⟩ hK
    have c7 := i7.cell
    gi_wp2
    refine ⟨by simp, .inl ⟨_, _, rfl, run_takeDeferred hK, ?_⟩⟩
    exact ⟨_, results_tmp rfl _ _ _, rfl, hl4.below.trans (belowK_b (w := w) (Nat.le_refl _) W D _ _ (by omega) hK rfl rfl)⟩
  case stop =>
    rintro D c pre W _ _ h _
    exact h.elim
set_option maxRecDepth 100000 in
set_option maxHeartbeats 4000000 in
theorem tspread_nil (tier : Int) (w : World) :
    Calls Try.prog 14 #[.pointer none, .int .i64 tier] w fun e w' => e = .returned (.slice none 0 0) ∧ Below w.heap.size w w' := by
  refine (callsIn_wide (n := 9)).1 ?_
  refine callsIn_of_wp_marks Try.func14 rfl trivial ?_ rfl
  simp only [Try.ntmps14, List.size_toArray, List.length_cons, List.length_nil, Nat.reduceAdd, Nat.reduceSub, Array.replicate_succ, Array.replicate_zero, List.push_toArray, List.append_toArray, List.nil_append, List.cons_append]
  gi_wp2_with (refine ⟨trivial, ?_⟩; gi_at_call 21; refine (callsIn_wide.2 (tall_made none 1 _)).mono ?_; rintro e W4 ⟨rfl, c0, c1, hb4, hz4⟩)
  obtain ⟨k, hk⟩ : ∃ k, w.heap.size + 1 + 1 = k := ⟨_, rfl⟩
  simp only [World.size_alloc, hk] at c0 c1 hb4 hz4 ⊢
  have a0 : Below w.heap.size w ((w.alloc (Obj.cells #[.int .i64 tier] 3)).alloc (Obj.cells #[.slice none 0 0] 37)) := ((Below.refl _ w).alloc (Nat.le_refl _) _).alloc (by simp) _
  have b7 : Boxed W4 (w.heap.size + 1) 37 (.slice none 0 0) := (hb4.block _ (by omega)).trans (by have := Boxed.new (w.alloc (Obj.cells #[.int .i64 tier] 3)) 37 (.slice none 0 0); rw [World.size_alloc] at this; exact this)
  have hlo : Lo NoS w W4 W4 := ⟨Same.refl _ _, Nat.le_refl _, a0.trans (hb4.mono (by omega))⟩
  have hseq := tstops_nil (L := []) W4 (n := 8) (k := k) (Kp := Same NoS) (by omega) (by omega) c0
  refine wpIn_rangeFunc_ownH rfl (by omega) (gf := 30) (lb := tlv k) rfl trivial (enters_of Try.func30 (by kernel_rfl) rfl)
    hseq Same.trans (same_put (noS_lt _)) (Below.refl _ _) (fun _ => rfl)
    (fun pre W => Boxed W (w.heap.size + 1) 37 (.slice none 0 0) ∧ Lo NoS w W4 W)
    (fun _ _ _ => False)
    (fun pre A B row h hg hr => ⟨boxed_stay hg hr h.1, h.2.stay hg hr (noS_lt _) (by omega)⟩)
    (fun _ _ _ _ _ hs _ _ => hs)
    ⟨b7, hlo⟩
    (fun x a' W => True)
    (fun x a' => fun _ _ _ _ _ _ _ => trivial) ?assign ?body ?done ?stop
  case assign =>
    rintro l pre x W K ⟨i7, hl4⟩ hK
    gi_wp2
    exact hK _ _ (KeepsFrom.of_grownBy (grown_alloc _ _ none) (fun j e => by cases e)) (Same.alloc_ (Same.refl _ _) (fun g hg => hg.elim) _) ⟨i7.alloc _, hl4.alloc (noS_lt _) _⟩ trivial
  case body =>
    intro l pre x a' W hl hr hI hA hlt
    exact absurd hlt (Nat.not_lt_zero _)
  case done =>
    rintro D ys W hD rfl ⟨i7, hl4⟩ hK
    have c7 := i7.cell
    gi_wp2
    refine ⟨by simp, .inl ⟨_, _, rfl, run_takeDeferred hK, ?_⟩⟩
    exact ⟨_, results_tmp rfl _ _ _, rfl, hl4.below.trans (belowK_b (w := w) (Nat.le_refl _) W D _ _ (by omega) hK rfl rfl)⟩
  case stop =>
    rintro D c pre W _ _ h _
    exact h.elim
set_option maxRecDepth 100000 in
set_option maxHeartbeats 4000000 in
theorem tlongest_nil (tier : Int) (w : World) :
    Calls Try.prog 10 #[.pointer none, .int .i64 tier] w fun e w' => e = .returned (.tuple #[.int .i64 0, .bool false]) ∧ Below w.heap.size w w' := by
  refine (callsIn_wide (n := 9)).1 ?_
  refine callsIn_of_wp_marks Try.func10 rfl trivial ?_ rfl
  simp only [Try.ntmps10, List.size_toArray, List.length_cons, List.length_nil, Nat.reduceAdd, Nat.reduceSub, Array.replicate_succ, Array.replicate_zero, List.push_toArray, List.append_toArray, List.nil_append, List.cons_append]
  gi_wp2_with (refine ⟨trivial, ?_⟩; gi_at_call 21; refine (callsIn_wide.2 (tall_made none 1 _)).mono ?_; rintro e W4 ⟨rfl, c0, c1, hb4, hz4⟩)
  obtain ⟨k, hk⟩ : ∃ k, w.heap.size + 1 + 1 + 1 = k := ⟨_, rfl⟩
  simp only [World.size_alloc, hk] at c0 c1 hb4 hz4 ⊢
  have a0 : Below w.heap.size w (((w.alloc (Obj.cells #[.int .i64 tier] 3)).alloc (Obj.cells #[.int .i64 0] 2)).alloc (Obj.cells #[.bool false] 4)) := (((Below.refl _ w).alloc (Nat.le_refl _) _).alloc (by simp) _).alloc (by simp; omega) _
  have b6 : Boxed W4 (w.heap.size + 1) 2 (.int .i64 0) := (hb4.block _ (by omega)).trans (by have := (Boxed.new (w.alloc (Obj.cells #[.int .i64 tier] 3)) 2 (.int .i64 0)).alloc (Obj.cells #[.bool false] 4); rw [World.size_alloc] at this; exact this)
  have b7 : Boxed W4 (w.heap.size + 1 + 1) 4 (.bool false) := (hb4.block _ (by omega)).trans (by have := Boxed.new ((w.alloc (Obj.cells #[.int .i64 tier] 3)).alloc (Obj.cells #[.int .i64 0] 2)) 4 (.bool false); rw [World.size_alloc, World.size_alloc] at this; exact this)
  have hlo : Lo NoS w W4 W4 := ⟨Same.refl _ _, Nat.le_refl _, a0.trans (hb4.mono (by omega))⟩
  have hseq := tstops_nil (L := []) W4 (n := 8) (k := k) (Kp := Same NoS) (by omega) (by omega) c0
  refine wpIn_rangeFunc_ownH rfl (by omega) (gf := 30) (lb := tlv k) rfl trivial (enters_of Try.func30 (by kernel_rfl) rfl)
    hseq Same.trans (same_put (noS_lt _)) (Below.refl _ _) (fun _ => rfl)
    (fun pre W => (Boxed W (w.heap.size + 1) 2 (.int .i64 0) ∧ Boxed W (w.heap.size + 1 + 1) 4 (.bool false)) ∧ Lo NoS w W4 W)
    (fun _ _ _ => False)
    (fun pre A B row h hg hr => ⟨⟨boxed_stay hg hr h.1.1, boxed_stay hg hr h.1.2⟩, h.2.stay hg hr (noS_lt _) (by omega)⟩)
    (fun _ _ _ _ _ hs _ _ => hs)
    ⟨⟨b6, b7⟩, hlo⟩
    (fun x a' W => True)
    (fun x a' => fun _ _ _ _ _ _ _ => trivial) ?assign ?body ?done ?stop
  case assign =>
    rintro l pre x W K ⟨⟨i6, i7⟩, hl4⟩ hK
    gi_wp2
    exact hK _ _ (KeepsFrom.of_grownBy (grown_alloc _ _ none) (fun j e => by cases e)) (Same.alloc_ (Same.refl _ _) (fun g hg => hg.elim) _) ⟨⟨i6.alloc _, i7.alloc _⟩, hl4.alloc (noS_lt _) _⟩ trivial
  case body =>
    intro l pre x a' W hl hr hI hA hlt
    exact absurd hlt (Nat.not_lt_zero _)
  case done =>
    rintro D ys W hD rfl ⟨⟨i6, i7⟩, hl4⟩ hK
    have c6 := i6.cell
    have c7 := i7.cell
    have HK := Lib.hid hK
    have HLo := Lib.hid hl4
    clear hK hl4 i6 i7
    gi_wp2
    refine wpIn_mono (Q := NoPanic _) ?_ NoPanic.imp
    gi_region_with (fail)
    all_goals
      refine NoPanic.normal ?_
      gi_wp2
      have hK' : (W.drew).heap[D]? = some (.deferred (some [])) := HK.out
      refine ⟨by simp, .inl ⟨_, _, rfl, run_takeDeferred hK', ?_⟩⟩
      refine ⟨.tuple #[.int .i64 0, .bool false], ?_, rfl, (HLo.out.below.drew).trans (belowK_b (w := w) (Nat.le_refl _) _ D _ _ (by omega) hK' rfl rfl)⟩
      simp [results, Try.f10, go_sem]
  case stop =>
    rintro D c pre W _ _ h _
    exact h.elim
end Go.Proofs.Ytidkemgibehpcaa
