/- Classes of how long one stayed: the program's and the document's; Spread. -/
import Derived.Test.YtidkemgibehpcaaTlg
import Derived.Test.YtidkemgibehpcaaShelf
import Derived.Lib.BitFns
namespace Go.Proofs.Ytidkemgibehpcaa
open Go.RowKit Go.Shelf
set_option linter.unusedVariables false
set_option linter.unusedSimpArgs false
attribute [local go_sem] Oper.semAt_some
/-- The class of a time: how many binary digits. -/
def clsE (s : Int) : Nat := Lib.bitLen s.toNat
theorem cls_zero {s : Int} (h : s ≤ 0) : clsE s = 0 := by
  unfold clsE
  rw [show s.toNat = 0 by omega]
  decide
theorem cls_half {s : Int} (h : 0 < s) (h1 : s ≤ 9223372036854775807) : clsE s = 1 + clsE (s / 2) := by
  unfold clsE
  rw [Lib.bitLen_half s.toNat (by omega) (by omega), show s.toNat / 2 = (s / 2).toNat by omega]
theorem cls_le {s : Int} (h1 : s ≤ 9223372036854775807) : clsE s ≤ 63 := by
  unfold clsE
  exact Lib.bitLen_le _ 63 (by omega) (by omega)
theorem len_of (s : Int) (w : World) (h0 : 0 ≤ s) (h1 : s ≤ 9223372036854775807) (c : Nat) (hc : clsE s = c) : Calls Try.prog 31 #[.int .u64 s] w fun e w' => e = .returned (.int .i64 (c : Int)) ∧ w = w' :=
  (Try.bits_Len64 s w h0 (by omega)).mono fun e w' h => ⟨by rw [h.1, ← hc]; rfl, h.2.symm⟩
set_option maxHeartbeats 1000000 in
theorem tclass (s : Int) (w : World) (h1 : s ≤ 9223372036854775807) : Calls Try.prog 26 #[.int .i64 s] w fun e w' => e = .returned (.int .i64 (clsE s : Int)) ∧ w = w' := by
  by_cases h : s < 0
  · rw [cls_zero (by omega)]
    have hm : max s 0 = 0 := by omega
    have HL := Lib.hid (fun w => len_of 0 w (by omega) (by omega) 0 (cls_zero (Int.le_refl 0)))
    go_enter Try.func26, Try.ntmps26
    go_wp2_with (go_at_call 31; refine (HL.out _).mono ?_; rintro e w' ⟨rfl, rfl⟩)
    go_ret
    exact ⟨rfl, rfl⟩
  · have h0 : 0 ≤ s := by omega
    have hw : IntKind.u64.wrap s = s := IntWalk.u64_in _ (by omega)
    obtain ⟨c, hc⟩ : ∃ c, clsE s = c := ⟨_, rfl⟩
    rw [hc]
    have hm : max s 0 = s := by omega
    have HL := Lib.hid (fun w => len_of s w h0 h1 c hc)
    clear hc
    go_enter Try.func26, Try.ntmps26
    go_wp2_with (go_at_call 31; refine (HL.out _).mono ?_; rintro e w' ⟨rfl, rfl⟩)
    go_ret
    exact ⟨rfl, rfl⟩
set_option maxRecDepth 20000 in
set_option maxHeartbeats 2000000 in
theorem rrow (s : Int) (w : World) (h1 : s ≤ 9223372036854775807) (h2 : -9223372036854775808 ≤ s) : Calls Try.prog 27 #[.int .i64 s] w fun e w' => e = .returned (.int .i64 (clsE s : Int)) ∧ w = w' := by
  obtain ⟨c, hc⟩ : ∃ c, clsE s = c := ⟨_, rfl⟩
  have hcl : c ≤ 63 := by rw [← hc]; exact cls_le h1
  rw [hc]
  have HC := Lib.hid hc
  clear hc
  go_enter Try.func27, Try.ntmps27
  go_wp2_with fail
  go_loopw [0, 3] (fun s0 s3 wr => ∃ (z : Int) (k : Nat), s0 = .int .i64 z ∧ s3 = .int .i64 (k : Int) ∧ clsE s = k + clsE z ∧ k ≤ 63 ∧ z ≤ 9223372036854775807 ∧ -9223372036854775808 ≤ z ∧ wr = w) (fun s _ _ => (intOf s).toNat)
  case atStart => exact ⟨s, 0, rfl, rfl, by omega, by omega, h1, h2, rfl⟩
  case round =>
    obtain ⟨z, k, rfl, rfl, hk, hk2, hz1, hz2, rfl⟩ := hrel
    have HK := Lib.hid hk
    clear hk
    by_cases hz : 0 < z
    · have hh := cls_half hz hz1
      have hq : z.tdiv 2 = z / 2 := Int.tdiv_eq_ediv_of_nonneg (by omega)
      obtain ⟨y, hy⟩ : ∃ y, z / 2 = y := ⟨_, rfl⟩
      rw [hy] at hq hh
      have hy1 : 0 ≤ y ∧ y < z := by omega
      have hk3 : k + 1 ≤ 63 := by have := HK.out; have := HC.out; omega
      have hw1 : IntKind.i64.wrap y = y := IntWalk.i64_in _ (by omega)
      have hw2 : IntKind.i64.wrap ((k : Int) + 1) = (k : Int) + 1 := IntWalk.i64_in _ (by omega)
      have HH := Lib.hid hh
      have HY := Lib.hid hy1
      clear hh hy hy1
      go_wp2_with fail
      go_roundw
      case rel => exact ⟨y, k + 1, rfl, by go_num, by have := HK.out; have := HH.out; omega, hk3, by have := HY.out; omega, by have := HY.out; omega, by trivial⟩
      case measure => simp only [intOf]; have := HY.out; omega
    · have hcz : clsE z = 0 := cls_zero (by omega)
      have e : clsE s = k := by have := HK.out; omega
      clear hcz
      have e2 : k = c := by rw [← e]; exact HC.out
      subst e2
      clear e
      have hz3 : decide (0 < z) = false := decide_eq_false hz
      go_wp2_with fail
      go_ret
      exact ⟨rfl, rfl⟩
/-- A row of counts. -/
def rowF (f : Nat → Nat) (n : Nat) : List Value := (List.range n).map fun k => .int .i64 (f k : Int)
theorem rowF_len (f : Nat → Nat) (n : Nat) : (rowF f n).length = n := by simp [rowF]
theorem rowF_succ (f : Nat → Nat) (n : Nat) : rowF f (n + 1) = rowF f n ++ [.int .i64 (f n : Int)] := by simp [rowF, List.range_succ]
theorem rowF_get (f : Nat → Nat) {n i : Nat} (h : i < n) : (rowF f n)[i]? = some (.int .i64 (f i : Int)) := by simp [rowF, h]
theorem rowF_set (f f' : Nat → Nat) {n c : Nat} (h : c < n) (hc : f' c = f c + 1) (ho : ∀ k, k ≠ c → f' k = f k) : (rowF f n).set c (.int .i64 ((f c : Int) + 1)) = rowF f' n := by
  apply List.ext_getElem?
  intro i
  by_cases hi : i < n
  · rw [rowF_get f' hi]
    by_cases e : c = i
    · subst e
      rw [List.getElem?_set_self (by rw [rowF_len]; exact h), hc]
      congr 2
    · rw [List.getElem?_set_ne e, rowF_get f hi, ho i (fun x => e x.symm)]
  · rw [List.getElem?_eq_none (by rw [List.length_set, rowF_len]; omega), List.getElem?_eq_none (by rw [rowF_len]; omega)]
theorem rowF_congr {f f' : Nat → Nat} {n : Nat} (h : ∀ k, k < n → f k = f' k) : rowF f n = rowF f' n := by
  unfold rowF
  refine List.map_congr_left fun k hk => ?_
  rw [h k (List.mem_range.1 hk)]
/-- How many are of class k; how many classes there are up to the last one. -/
def cntK (D : List Oc) (k : Nat) : Nat := (D.filter fun o => clsE o.f == k).length
def topK (D : List Oc) : Nat := D.foldl (fun m o => max m (clsE o.f + 1)) 0
theorem cntK_snoc (D : List Oc) (o : Oc) (k : Nat) : cntK (D ++ [o]) k = if clsE o.f = k then cntK D k + 1 else cntK D k := by
  unfold cntK
  rw [List.filter_append, List.length_append]
  by_cases h : clsE o.f = k
  · rw [if_pos h, List.filter_cons_of_pos (by simp [h])]; rfl
  · rw [if_neg h, List.filter_cons_of_neg (by simp [h])]; rfl
theorem topK_snoc (D : List Oc) (o : Oc) : topK (D ++ [o]) = max (topK D) (clsE o.f + 1) := by unfold topK; rw [List.foldl_append]; rfl
theorem foldl_max_le (D : List Oc) (m : Nat) : m ≤ D.foldl (fun m o => max m (clsE o.f + 1)) m ∧ ∀ o ∈ D, clsE o.f + 1 ≤ D.foldl (fun m o => max m (clsE o.f + 1)) m := by
  induction D generalizing m with
  | nil => exact ⟨Nat.le_refl _, fun o h => absurd h (by simp)⟩
  | cons a l ih =>
    have h := ih (max m (clsE a.f + 1))
    refine ⟨Nat.le_trans (Nat.le_max_left _ _) h.1, fun o ho => ?_⟩
    rcases List.mem_cons.1 ho with rfl | ho
    · exact Nat.le_trans (Nat.le_max_right _ _) h.1
    · exact h.2 o ho
theorem topK_ge {D : List Oc} {o : Oc} (h : o ∈ D) : clsE o.f + 1 ≤ topK D := (foldl_max_le D 0).2 o h
theorem cntK_zero {D : List Oc} {k : Nat} (h : topK D ≤ k) : cntK D k = 0 := by
  unfold cntK
  rw [List.length_eq_zero_iff, List.filter_eq_nil_iff]
  intro o ho hk
  have := topK_ge ho
  simp only [beq_iff_eq] at hk
  omega
theorem topK_le {D : List Oc} (h : OkL D) : topK D ≤ 64 := by
  unfold topK
  have : ∀ (l : List Oc) (m : Nat), OkL l → m ≤ 64 → l.foldl (fun m o => max m (clsE o.f + 1)) m ≤ 64 := by
    intro l
    induction l with
    | nil => intro m _ h; exact h
    | cons a l ih =>
      intro m ho hm
      have h1 := cls_le (ho a (List.mem_cons_self ..)).2.2.2.2.2.2
      exact ih _ (fun o h => ho o (List.mem_cons_of_mem _ h)) (Nat.max_le.2 ⟨hm, by omega⟩)
  exact this D 0 h (by omega)
end Go.Proofs.Ytidkemgibehpcaa
