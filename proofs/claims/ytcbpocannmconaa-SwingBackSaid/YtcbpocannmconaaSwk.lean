/- Package swing: a row gone through from behind, turned, compared. -/
import Derived.Test.YtcbpocannmconaaSwj
import Derived.Test.YtcbpocannmconaaAny
import Derived.Deep.QuietTactic
import Derived.BigQuiet
namespace Go.Proofs.Ytcbpocannmconaa
open Go.RowKit
set_option linter.unusedVariables false
set_option linter.unusedSimpArgs false
def rowL (X Y : Nat → Nat) (n : Nat) : List Value := (List.range n).map fun i => .complex .f64 (X i) (Y i)
theorem rowL_len (X Y : Nat → Nat) (n : Nat) : (rowL X Y n).length = n := by simp [rowL]
theorem rowL_get (X Y : Nat → Nat) {n i : Nat} (h : i < n) : (rowL X Y n)[i]? = some (.complex .f64 (X i) (Y i)) := by
  unfold rowL; rw [List.getElem?_map, List.getElem?_range h]; rfl
def up_ (X : Nat → Nat) (j x : Nat) (i : Nat) : Nat := if i = j then x else X i
theorem rowL_congr {X Y X' Y' : Nat → Nat} {n : Nat} (h : ∀ i, i < n → X i = X' i ∧ Y i = Y' i) : rowL X Y n = rowL X' Y' n := by
  unfold rowL
  refine List.map_congr_left fun i hi => ?_
  rw [(h i (List.mem_range.1 hi)).1, (h i (List.mem_range.1 hi)).2]
theorem rowL_set (X Y : Nat → Nat) (n j x y : Nat) : (rowL X Y n).set j (.complex .f64 x y) = rowL (up_ X j x) (up_ Y j y) n := by
  refine List.ext_getElem? fun i => ?_
  by_cases hi : i < n
  · rw [List.getElem?_set, rowL_len, rowL_get _ _ hi, rowL_get _ _ hi]
    by_cases e : j = i
    · subst e; simp [up_, hi]
    · simp [up_, e, Ne.symm e]
  · rw [List.getElem?_eq_none (by simp [rowL_len]; omega), List.getElem?_eq_none (by rw [rowL_len]; omega)]
/-- A row of our own, by its words. -/
def OwR (w : World) (base : Nat) (v : Value) (n : Nat) (X Y : Nat → Nat) : Prop := w.ownsRow base 28 1 v n (rowL X Y n)
theorem OwP.open_ {w : World} {base n : Nat} {v : Value} {a b : Nat → Int} (h : OwP w base v n a b) : ∃ X Y, OwR w base v n X Y ∧ ∀ i, i < n → Fl (X i) (a i) ∧ Fl (Y i) (b i) ∧ (a i).natAbs ≤ 1048576 ∧ (b i).natAbs ≤ 1048576 := by
  obtain ⟨xs, ho, hx⟩ := h
  refine ⟨fun i => if h : i < n then (hx i h).choose else 0, fun i => if h : i < n then (hx i h).choose_spec.choose else 0, ?_, fun i hi => ?_⟩
  · have e : xs = rowL (fun i => if h : i < n then (hx i h).choose else 0) (fun i => if h : i < n then (hx i h).choose_spec.choose else 0) n := by
      have hl := ho.1
      refine List.ext_getElem? fun i => ?_
      by_cases hi : i < n
      · rw [rowL_get _ _ hi]
        simp only [hi, dif_pos]
        exact (hx i hi).choose_spec.choose_spec.1
      · rw [List.getElem?_eq_none (by omega), List.getElem?_eq_none (by rw [rowL_len]; omega)]
    unfold OwR
    rw [← e]
    exact ho
  · simp only [hi, dif_pos]
    exact (hx i hi).choose_spec.choose_spec.2
theorem OwR.shut {w : World} {base n : Nat} {v : Value} {X Y : Nat → Nat} {a b : Nat → Int} (h : OwR w base v n X Y) (hf : ∀ i, i < n → Fl (X i) (a i) ∧ Fl (Y i) (b i) ∧ (a i).natAbs ≤ 1048576 ∧ (b i).natAbs ≤ 1048576) : OwP w base v n a b :=
  ⟨_, h, fun i hi => ⟨X i, Y i, rowL_get X Y hi, hf i hi⟩⟩
theorem OwR.at_ {w : World} {base n g c : Nat} {X Y : Nat → Nat} (h : OwR w base (.slice (some ⟨g, 0, none⟩) n c) n X Y) {i : Nat} (hi : i < n) : w.cell? ⟨g, i, none⟩ = some (.complex .f64 (X i) (Y i)) := by
  rw [h.cellAt i (by omega)]; exact rowL_get X Y hi
theorem OwR.free {w : World} {base n g c : Nat} {X Y : Nat → Nat} (h : OwR w base (.slice (some ⟨g, 0, none⟩) n c) n X Y) (i : Nat) : w.frozen? ⟨g, i, none⟩ = false := h.frozenAt i
theorem OwR.set_ {w : World} {base n g c : Nat} {X Y : Nat → Nat} (h : OwR w base (.slice (some ⟨g, 0, none⟩) n c) n X Y) (j x y : Nat) : OwR (w.setCell ⟨g, j, none⟩ (.complex .f64 x y)) base (.slice (some ⟨g, 0, none⟩) n c) n (up_ X j x) (up_ Y j y) := by
  have := (h.stored j (.complex .f64 x y)).1
  rw [rowL_set] at this
  exact this
theorem OwR.drew_ {w : World} {base n : Nat} {v : Value} {X Y : Nat → Nat} (h : OwR w base v n X Y) : OwR w.drew base v n X Y := h
theorem OwR.drewN_ {w : World} {base n : Nat} {v : Value} {X Y : Nat → Nat} (h : OwR w base v n X Y) (q : Nat) : OwR (w.drewN q) base v n X Y := h
theorem OwR.congr_ {w : World} {base n : Nat} {v : Value} {X Y X' Y' : Nat → Nat} (h : OwR w base v n X Y) (hc : ∀ i, i < n → X i = X' i ∧ Y i = Y' i) : OwR w base v n X' Y' := by
  unfold OwR; rw [← rowL_congr hc]; exact h
theorem OwR.lo {w : World} {base n g c : Nat} {X Y : Nat → Nat} (h : OwR w base (.slice (some ⟨g, 0, none⟩) n c) n X Y) : base ≤ g ∧ g < w.heap.size := by
  rcases h.2 with ⟨e, _⟩ | ⟨g', cap, cur, e, hb, hg, _⟩
  · cases e
  · injection e with e _ _; injection e with e; injection e with e; subst e
    exact ⟨hb, Blk.size (cs := cur) hg⟩
/-- Half way from both ends. -/
def rv (n k : Nat) (X : Nat → Nat) (i : Nat) : Nat := if k ≤ i ∧ i + k < n then X i else X (n - 1 - i)
theorem rv_step (X : Nat → Nat) {n k j : Nat} (hj : k + j + 1 = n) (hk : k < j) : ∀ i, i < n → up_ (up_ (rv n k X) k (rv n k X j)) j (rv n k X k) i = rv n (k + 1) X i := by
  intro i hi
  unfold up_ rv
  by_cases c : i = j
  · subst c
    rw [if_pos rfl, if_pos ⟨Nat.le_refl _, by omega⟩, if_neg (by omega)]
    congr 1; omega
  · rw [if_neg c]
    by_cases d : i = k
    · subst d
      rw [if_pos rfl, if_pos ⟨by omega, by omega⟩, if_neg (by omega)]
      congr 1; omega
    · rw [if_neg d]
      by_cases e : k ≤ i ∧ i + k < n
      · rw [if_pos e, if_pos (by omega)]
      · rw [if_neg e, if_neg (by omega)]
set_option maxRecDepth 100000 in
set_option maxHeartbeats 4000000 in
theorem reverse_any {w : World} {base n : Nat} {v : Value} {a b : Nat → Int} (h : OwP w base v n a b) (hbase : base ≤ w.heap.size) (hn : n ≤ 1000) :
    Calls Try.prog 21 #[v] w fun e w' => e = .returned (.tuple #[]) ∧ OwP w' base v n (fun i => a (n - 1 - i)) (fun i => b (n - 1 - i)) ∧ Below base w w' := by
  obtain ⟨X, Y, hr, hf⟩ := h.open_
  obtain ⟨A, c, rfl⟩ := own_form hr
  by_cases h0 : n = 0
  · subst h0
    go_enter Try.func21, Try.ntmps21
    go_wp2_with fail
    go_loopw [2, 3] (fun s2 s3 wr => s2 = .int .i64 0 ∧ s3 = .int .i64 (-1) ∧ w = wr) (fun _ _ _ => 0)
    case atStart => exact ⟨rfl, rfl, rfl⟩
    case round =>
      obtain ⟨rfl, rfl, rfl⟩ := hrel
      go_wp2_with fail
      all_goals (first | refine bodyPost_end (results_none rfl _ _ _) rfl ?_ | refine bodyPost_ret (results_none rfl _ _ _) rfl ?_)
      exact ⟨rfl, hr.shut fun i hi => by omega, Below.refl _ _⟩
  · obtain ⟨g, c', e, hg0, hg1⟩ := own_at hr (by omega)
    cases e
    have hst : ∀ (W : World) (ad : Addr) (x y : Nat) (m : Mode), (store ad (.complex .f64 x y) m).run Try.prog W = stored Try.prog W ad (.complex .f64 x y) m := fun W ad x y m => run_store _ W ad _ m rfl
    have HF := Lib.hid hf
    have HR := Lib.hid hr
    clear hf hr h
    go_enter Try.func21, Try.ntmps21
    have hwr : IntKind.i64.wrap ((n : Int) - 1) = (n : Int) - 1 := IntWalk.i64_in _ (by omega)
    go_wp2_with fail
    go_loopw [2, 3] (fun s2 s3 wr => ∃ k : Nat, 2 * k ≤ n ∧ s2 = .int .i64 k ∧ s3 = .int .i64 ((n : Int) - 1 - k) ∧ OwR wr base (.slice (some ⟨g, 0, none⟩) n c) n (rv n k X) (rv n k Y) ∧ Below base w wr) (fun i _ _ => n - (intOf i).toNat)
    case atStart => exact ⟨0, by omega, rfl, by rw [Int.natCast_zero, Int.sub_zero], HR.out.congr_ (fun i hi => by unfold rv; rw [if_pos (by omega), if_pos (by omega)]; exact ⟨rfl, rfl⟩), Below.refl _ _⟩
    case round =>
      obtain ⟨k, hk, rfl, rfl, ho, hbr⟩ := hrel
      obtain ⟨j', hj'⟩ : ∃ j' : Int, (n : Int) - 1 - k = j' := ⟨_, rfl⟩
      rw [hj']
      by_cases hlt : (k : Int) < j'
      · obtain ⟨j, rfl⟩ : ∃ j : Nat, j' = j := ⟨j'.toNat, by omega⟩
        have hkn : k < n := by omega
        have hjn : j < n := by omega
        have q0 := ho.at_ hkn
        have q1 := ho.at_ hjn
        have f0 := ho.free
        have gs := ho.lo.2
        obtain ⟨xi, exi⟩ : ∃ z, rv n k X k = z := ⟨_, rfl⟩
        obtain ⟨yi, eyi⟩ : ∃ z, rv n k Y k = z := ⟨_, rfl⟩
        obtain ⟨xj, exj⟩ : ∃ z, rv n k X j = z := ⟨_, rfl⟩
        obtain ⟨yj, eyj⟩ : ∃ z, rv n k Y j = z := ⟨_, rfl⟩
        rw [exi, eyi] at q0
        rw [exj, eyj] at q1
        have EXI := Lib.hid exi
        have EYI := Lib.hid eyi
        have EXJ := Lib.hid exj
        have EYJ := Lib.hid eyj
        have HO := Lib.hid ho
        have HBR := Lib.hid hbr
        have hjk : k < j := by omega
        have hj2 : k + j + 1 = n := by omega
        have k0 : (0 : Int) ≤ (k : Int) := by omega
        have j0 : (0 : Int) ≤ (j : Int) := by omega
        have k1 : (k : Int) < (n : Int) := by omega
        have j1 : (j : Int) < (n : Int) := by omega
        have jw : IntKind.i64.wrap ((j : Int) - 1) = (n : Int) - 1 - ((k : Int) + 1) := by rw [show (n : Int) - 1 - ((k : Int) + 1) = (j : Int) - 1 from by omega]; exact IntWalk.i64_in _ (by omega)
        clear ho hbr exi eyi exj eyj hj'
        go_upto_region 3 with fail
        refine begun (fun w' => w'.cell? ⟨g, k, none⟩ = some (.complex .f64 xi yi) ∧ w'.cell? ⟨g, j, none⟩ = some (.complex .f64 xj yj)) [13, 15] (by kernel_rfl) ⟨q0, q1⟩ (fun hShut hHeld => ?_)
        refine anyB_takeW (i := 0) (v := ?_) rfl (by kernel_rfl) (by kernel_rfl) (by kernel_rfl) (by kernel_rfl) (fun _ _ _ h => h) hShut (fun _ => hHeld) (Or.inl ⟨by rfl, ?_⟩) (fun hShut => ?_)
        case refine_2 => (rintro wz -; go_simp; try with_reducible rfl)
        try simp only [Act.put, List.setIfInBounds_toArray, List.set_cons_zero, List.set_cons_succ]
        refine anyB_takeW (i := 1) (v := ?_) rfl (by kernel_rfl) (by kernel_rfl) (by kernel_rfl) (by kernel_rfl) (fun _ _ _ h => h) hShut (fun _ => hHeld) (Or.inl ⟨by rfl, ?_⟩) (fun hShut => ?_)
        case refine_2 => (rintro wz -; go_simp; try with_reducible rfl)
        try simp only [Act.put, List.setIfInBounds_toArray, List.set_cons_zero, List.set_cons_succ]
        refine anyB_takeW (i := 2) (v := ?_) rfl (by kernel_rfl) (by kernel_rfl) (by kernel_rfl) (by kernel_rfl) (fun _ _ _ h => h) hShut (fun _ => hHeld) (Or.inl ⟨by rfl, ?_⟩) (fun hShut => ?_)
        case refine_2 => (rintro wz -; go_simp; try with_reducible rfl)
        try simp only [Act.put, List.setIfInBounds_toArray, List.set_cons_zero, List.set_cons_succ]
        refine anyB_takeW (i := 3) (v := ?_) rfl (by kernel_rfl) (by kernel_rfl) (by kernel_rfl) (by kernel_rfl) (fun _ _ _ h => h) hShut (fun _ => hHeld) (Or.inl ⟨by rfl, ?_⟩) (fun hShut => ?_)
        case refine_2 => (rintro wz -; go_simp; try with_reducible rfl)
        try simp only [Act.put, List.setIfInBounds_toArray, List.set_cons_zero, List.set_cons_succ]
        refine anyB_takeW (i := 4) (v := ?_) rfl (by kernel_rfl) (by kernel_rfl) (by kernel_rfl) (by kernel_rfl) (fun _ _ _ h => h) hShut (fun _ => hHeld) (Or.inl ⟨by rfl, ?_⟩) (fun hShut => ?_)
        case refine_2 => (rintro wz -; go_simp; try with_reducible rfl)
        try simp only [Act.put, List.setIfInBounds_toArray, List.set_cons_zero, List.set_cons_succ]
        refine anyB_takeW (i := 5) (v := ?_) rfl (by kernel_rfl) (by kernel_rfl) (by kernel_rfl) (by kernel_rfl) (fun _ _ _ h => h) hShut (fun _ => hHeld) (Or.inl ⟨by rfl, ?_⟩) (fun hShut => ?_)
        case refine_2 => (rintro wz -; go_simp; try with_reducible rfl)
        try simp only [Act.put, List.setIfInBounds_toArray, List.set_cons_zero, List.set_cons_succ]
        refine anyB_takeW (i := 6) (v := ?_) rfl (by kernel_rfl) (by kernel_rfl) (by kernel_rfl) (by kernel_rfl) (fun _ _ _ h => h) hShut (fun _ => hHeld) (Or.inl ⟨by rfl, ?_⟩) (fun hShut => ?_)
        case refine_2 => (rintro wz -; go_simp; try with_reducible rfl)
        try simp only [Act.put, List.setIfInBounds_toArray, List.set_cons_zero, List.set_cons_succ]
        refine anyB_take 16 (i := 7) (v := ?_) rfl (by kernel_rfl) (by kernel_rfl) (by kernel_rfl) (by kernel_rfl) (by kernel_rfl) (fun _ _ _ h => h) hShut hHeld (Or.inl ⟨by rfl, ?_⟩) (fun hShut => ?_)
        case refine_2 => (rintro wz ⟨sz0, sz1⟩; go_simp; try with_reducible rfl)
        try simp only [Act.put, List.setIfInBounds_toArray, List.set_cons_zero, List.set_cons_succ]
        refine anyB_takeW (i := 8) (v := ?_) rfl (by kernel_rfl) (by kernel_rfl) (by kernel_rfl) (by kernel_rfl) (fun _ _ _ h => h) hShut (fun _ => hHeld) (Or.inl ⟨by rfl, ?_⟩) (fun hShut => ?_)
        case refine_2 => (rintro wz -; go_simp; try with_reducible rfl)
        try simp only [Act.put, List.setIfInBounds_toArray, List.set_cons_zero, List.set_cons_succ]
        refine anyB_takeW (i := 9) (v := ?_) rfl (by kernel_rfl) (by kernel_rfl) (by kernel_rfl) (by kernel_rfl) (fun _ _ _ h => h) hShut (fun _ => hHeld) (Or.inl ⟨by rfl, ?_⟩) (fun hShut => ?_)
        case refine_2 => (rintro wz -; go_simp; try with_reducible rfl)
        try simp only [Act.put, List.setIfInBounds_toArray, List.set_cons_zero, List.set_cons_succ]
        refine anyB_takeW (i := 10) (v := ?_) rfl (by kernel_rfl) (by kernel_rfl) (by kernel_rfl) (by kernel_rfl) (fun _ _ _ h => h) hShut (fun _ => hHeld) (Or.inl ⟨by rfl, ?_⟩) (fun hShut => ?_)
        case refine_2 => (rintro wz -; go_simp; try with_reducible rfl)
        try simp only [Act.put, List.setIfInBounds_toArray, List.set_cons_zero, List.set_cons_succ]
        refine anyB_take 16 (i := 11) (v := ?_) rfl (by kernel_rfl) (by kernel_rfl) (by kernel_rfl) (by kernel_rfl) (by kernel_rfl) (fun _ _ _ h => h) hShut hHeld (Or.inl ⟨by rfl, ?_⟩) (fun hShut => ?_)
        case refine_2 => (rintro wz ⟨sz0, sz1⟩; go_simp; try with_reducible rfl)
        try simp only [Act.put, List.setIfInBounds_toArray, List.set_cons_zero, List.set_cons_succ]
        refine anyB_takeW (i := 12) (v := ?_) rfl (by kernel_rfl) (by kernel_rfl) (by kernel_rfl) (by kernel_rfl) (fun _ _ _ h => h) hShut (fun _ => hHeld) (Or.inl ⟨by rfl, ?_⟩) (fun hShut => ?_)
        case refine_2 => (rintro wz -; go_simp; try with_reducible rfl)
        try simp only [Act.put, List.setIfInBounds_toArray, List.set_cons_zero, List.set_cons_succ]
        refine anyB_each (rs := [13]) hShut (by kernel_rfl) (by simp) ?_
        refine List.forall_mem_cons.2 ⟨fun hShut => wpOp_step rfl (fun K hK => ?_), fun _ h => by cases h⟩
        go_simp
        refine unheld hK (by kernel_rfl) ?_
        clear hK K
        refine anyB_takeW (i := 14) (v := ?_) rfl (by kernel_rfl) (by kernel_rfl) (by kernel_rfl) (by kernel_rfl) (fun _ _ _ h => h) hShut (fun c => absurd c (by decide +kernel)) (Or.inl ⟨by rfl, ?_⟩) (fun hShut => ?_)
        case refine_2 => (rintro wz -; go_simp; try with_reducible rfl)
        try simp only [Act.put, List.setIfInBounds_toArray, List.set_cons_zero, List.set_cons_succ]
        refine anyB_each (rs := [15]) hShut (by kernel_rfl) (by simp) ?_
        refine List.forall_mem_cons.2 ⟨fun hShut => wpOp_step rfl (fun K hK => ?_), fun _ h => by cases h⟩
        go_simp
        refine unheld hK (by kernel_rfl) ?_
        clear hK K
        refine anyB_done (by kernel_rfl) ?_ _
        have HO2 := Lib.hid ((HO.out.set_ k xj yj).set_ j xi yi)
        have HB2 := Lib.hid ((HBR.out.setCell (p := ⟨g, k, none⟩) hg0 (.complex .f64 xj yj)).setCell (p := ⟨g, j, none⟩) hg0 (.complex .f64 xi yi))
        clear q0 q1 f0 hHeld
        go_wp2_with fail
        go_roundw
        case rel =>
          refine ⟨k + 1, by omega, by go_num, by go_num, ?_, ?_⟩
          · refine OwR.congr_ (X := up_ (up_ (rv n k X) k xj) j xi) (Y := up_ (up_ (rv n k Y) k yj) j yi) ?_ (fun i hi => ⟨?_, ?_⟩)
            · first | exact HO2.out | exact HO2.out.drew_ | exact HO2.out.drewN_ _
            · rw [← rv_step X hj2 hjk i hi, EXI.out, EXJ.out]
            · rw [← rv_step Y hj2 hjk i hi, EYI.out, EYJ.out]
          · first | exact HB2.out | exact HB2.out.drew | exact bdrewN HB2.out _
        case measure => simp [intOf]; omega
      · have HO := Lib.hid ho
        have HBR := Lib.hid hbr
        clear ho hbr
        go_wp2_with fail
        all_goals (first | refine bodyPost_end (results_none rfl _ _ _) rfl ?_ | refine bodyPost_ret (results_none rfl _ _ _) rfl ?_)
        refine ⟨rfl, HO.out.shut fun i hi => ?_, HBR.out⟩
        have e : ∀ Z : Nat → Nat, rv n k Z i = Z (n - 1 - i) := fun Z => by
          unfold rv; split
          · congr 1; omega
          · rfl
        rw [e X, e Y]
        exact HF.out (n - 1 - i) (by omega)
end Go.Proofs.Ytcbpocannmconaa
