/- A line of a text is applied. -/
import Derived.Test.YtbajmmgdnegoiaaDoorCnl
namespace Go.Proofs.YtbajmmgdnegoiaaDoor
open Go.ChangeShapes Go.WideShapes Go.ChangeAt Go.RowKit Kn
set_option linter.unusedVariables false
set_option linter.unusedSimpArgs false
def cfgL (v : Nat → Int) : List Value := (List.range 16).map fun i => .int .i64 (v i)
/-- A config under way: its fields, its numbers. -/
structure PAt (w : World) (gf gc : Nat) (bx : Nat → Nat) (sn : Nat → Bool) (v : Nat → Int) : Prop where
  f : FlAt w gf gc bx sn
  c : Blk w gc 24 (cfgL v).toArray
def setB (f : Nat → Bool) (i : Nat) (b : Bool) : Nat → Bool := fun j => if j = i then b else f j
def setI (f : Nat → Int) (i : Nat) (b : Int) : Nat → Int := fun j => if j = i then b else f j
theorem cfgL_at (v : Nat → Int) {i : Nat} (hi : i < 16) : (cfgL v).toArray[i]? = some (.int .i64 (v i)) := by
  unfold cfgL
  rw [List.getElem?_toArray, List.getElem?_map, List.getElem?_range hi]
  rfl
theorem cfgL_set (v : Nat → Int) (i : Nat) (n : Int) : (cfgL v).toArray.setIfInBounds i (.int .i64 n) = (cfgL (setI v i n)).toArray := by
  refine Array.ext_getElem? fun j => ?_
  rw [Array.getElem?_setIfInBounds]
  unfold cfgL setI
  simp only [List.size_toArray, List.length_map, List.length_range, List.getElem?_toArray, List.getElem?_map]
  by_cases hj : j < 16
  · rw [List.getElem?_range hj]
    by_cases hi : i = j
    · subst hi; simp [hj]
    · rw [if_neg hi]; simp [Ne.symm hi]
  · rw [List.getElem?_eq_none (by simp; omega)]
    by_cases hi : i = j
    · subst hi; simp [hj]
    · rw [if_neg hi]; rfl
section
variable {w w' : World} {gf gc : Nat} {bx : Nat → Nat} {sn : Nat → Bool} {v : Nat → Int}
theorem PAt.below (h : PAt w gf gc bx sn v) (hb : Below w.heap.size w w') : PAt w' gf gc bx sn v := ⟨h.f.below hb, h.c.below_ hb h.c.size⟩
theorem fpt_ne : ∀ i, i < 16 → fpt i ≠ 67 ∧ fpt i ≠ 24 := by decide +kernel
theorem PAt.apart (h : PAt w gf gc bx sn v) : gf ≠ gc ∧ ∀ i, i < 16 → bx i ≠ gf ∧ bx i ≠ gc := by
  obtain ⟨cs, hr, -⟩ := h.f.rows
  exact ⟨hr.other h.c (by decide), fun i hi => ⟨(h.f.boxes i hi).other hr (fpt_ne i hi).1, (h.f.boxes i hi).other h.c (fpt_ne i hi).2⟩⟩
theorem PAt.see (h : PAt w gf gc bx sn v) (i : Nat) (hi : i < 16) : PAt (w.setCell ⟨gf, i * 4 + 3, none⟩ (.bool true)) gf gc bx (setB sn i true) v := by
  obtain ⟨ha, hb⟩ := h.apart
  obtain ⟨cs, hr, hc⟩ := h.f.rows
  refine ⟨⟨⟨_, hr.set_ _ _, fun a ha j hj => ?_⟩, fun a ha' => (h.f.boxes a ha').far _ (hb a ha').1⟩, h.c.far _ (Ne.symm ha)⟩
  by_cases e : i * 4 + 3 = a * 4 + j
  · have e1 : a = i := by omega
    have e2 : j = 3 := by omega
    subst e1 e2
    have hin : a * 4 + 3 < cs.size := by
      have := hc a ha 3 (by omega)
      refine Nat.lt_of_not_le fun c => ?_
      rw [Array.getElem?_eq_none c] at this
      cases this
    rw [get_set_same hin]
    unfold rowF setB
    simp
  · rw [get_set_far e, hc a ha j hj]
    unfold rowF setB
    by_cases e1 : a = i
    · have e2 : j ≠ 3 := by omega
      subst e1
      match j, hj, e2 with
      | 0, _, _ => rfl
      | 1, _, _ => rfl
      | 2, _, _ => rfl
      | 3, _, h3 => exact absurd rfl h3
    · rw [if_neg e1]
theorem PAt.put (h : PAt w gf gc bx sn v) (i : Nat) (n : Int) : PAt (w.setCell ⟨gc, i, none⟩ (.int .i64 n)) gf gc bx sn (setI v i n) := by
  obtain ⟨ha, hb⟩ := h.apart
  obtain ⟨cs, hr, hc⟩ := h.f.rows
  refine ⟨⟨⟨cs, hr.far _ ha, hc⟩, fun a ha' => (h.f.boxes a ha').far _ (hb a ha').2⟩, ?_⟩
  have := h.c.set_ i (.int .i64 n)
  rw [cfgL_set] at this
  exact this
theorem PAt.val (h : PAt w gf gc bx sn v) {i : Nat} (hi : i < 16) : w.cell? ⟨gc, i, none⟩ = some (.int .i64 (v i)) := h.c.val (cfgL_at v hi)
end
def fidx (s : ByteArray) : Option Nat := (List.range 16).find? fun j => decide (fnm j = s)
theorem fidx_some {s : ByteArray} {i : Nat} (h : fidx s = some i) : i < 16 ∧ fnm i = s := by
  unfold fidx at h
  have h1 := List.mem_of_find?_eq_some h
  have h2 := List.find?_some h
  exact ⟨List.mem_range.1 h1, by simpa using h2⟩
theorem fidx_none {s : ByteArray} (h : fidx s = none) : ∀ n, n < 16 → fnm n ≠ s := by
  unfold fidx at h
  intro n hn e
  have := List.find?_eq_none.1 h n (List.mem_range.2 hn)
  simp [e] at this
/-- A line of no bytes, or a note. -/
def noteL (s : ByteArray) : Bool := if h : 0 < s.size then ((s[0].toNat : Int) == 35) else true
theorem cut_small (s : ByteArray) (c : UInt8) : (cutAt s c).1.size ≤ s.size ∧ (cutAt s c).2.1.size ≤ s.size := by
  unfold cutAt
  split
  · exact ⟨Nat.le_refl _, Nat.zero_le _⟩
  · constructor
    · show (s.extract 0 _).size ≤ s.size
      rw [ByteArray.size_extract]; omega
    · show (s.extract _ s.size).size ≤ s.size
      rw [ByteArray.size_extract]; omega
section
variable {gf gc : Nat} {bx : Nat → Nat} {sn : Nat → Bool} {v : Nat → Int}
set_option maxHeartbeats 4000000 in
theorem apply_note (s : ByteArray) (hn : noteL s = true) (w : World) :
    Calls Tryd.prog 34 #[.string s, .slice (some ⟨gf, 0, none⟩) 16 16] w fun e w' => e = .returned (.int .i64 0) ∧ w = w' := by
  by_cases h0 : 0 < s.size
  · have e1 : s.toList.isEmpty = false := by
      rw [ByteArray.toList_eq]
      cases hl : s.data.toList with
      | nil =>
        exfalso
        have h9 : s.data.toList.length = 0 := by rw [hl]; rfl
        rw [Array.length_toList] at h9
        have h8 : s.data.size = s.size := rfl
        omega
      | cons a l => rfl
    unfold noteL at hn
    rw [dif_pos h0] at hn
    go_enter Tryd.func34, Tryd.ntmps34
    go_wp2_with fail
    go_ret
    exact ⟨rfl, rfl⟩
  · have hs : s = ⟨#[]⟩ := by
      apply ByteArray.ext
      exact Array.eq_empty_of_size_eq_zero (by have : s.data.size = s.size := rfl; omega)
    subst hs
    have e1 : (⟨#[]⟩ : ByteArray).toList.isEmpty = true := by rw [ByteArray.toList_eq]; rfl
    go_enter Tryd.func34, Tryd.ntmps34
    go_wp2_with fail
    go_ret
    exact ⟨rfl, rfl⟩
/-- What stands ahead of a line's form. -/
theorem not_note {s : ByteArray} (hn : noteL s = false) : ∃ h0 : 0 < s.size, ((s[0].toNat : Int) == 35) = false ∧ s.toList.isEmpty = false := by
  unfold noteL at hn
  by_cases h0 : 0 < s.size
  · rw [dif_pos h0] at hn
    refine ⟨h0, hn, ?_⟩
    rw [ByteArray.toList_eq]
    cases hl : s.data.toList with
    | nil =>
        exfalso
        have h9 : s.data.toList.length = 0 := by rw [hl]; rfl
        rw [Array.length_toList] at h9
        have h8 : s.data.size = s.size := rfl
        omega
    | cons a l => rfl
  · rw [dif_neg h0] at hn; cases hn
set_option maxHeartbeats 4000000 in
theorem apply_noname (s nm ds : ByteArray) (d : Bool) (hn : noteL s = false) (hc : cutAt s 32 = (nm, ds, d)) (hi : fidx nm = none) (hl : s.size ≤ 1000000) (w : World) (hs : Std w) (h : PAt w gf gc bx sn v) :
    Calls Tryd.prog 34 #[.string s, .slice (some ⟨gf, 0, none⟩) 16 16] w fun e w' => e = .returned (.int .i64 9) ∧ Below w.heap.size w w' := by
  obtain ⟨h0, hq, e1⟩ := not_note hn
  have k1 := scut_any s 32 hl w
  have hds : ds.size ≤ 1000000 := by have := (cut_small s 32).2; rw [hc] at this; exact Nat.le_trans this hl
  rw [hc] at k1
  have HI := Lib.hid (fidx_none hi)
  have H := Lib.hid h
  have HS := Lib.hid hs
  clear hc hi h hs hn
  obtain ⟨m, r, hr⟩ : ∃ (m : Int) (r : Bool), numV ds = .tuple #[.int .i64 m, .bool r] := by
    unfold numV; cases numB ds with
    | none => exact ⟨0, false, rfl⟩
    | some m => exact ⟨m, true, rfl⟩
  go_enter Tryd.func34, Tryd.ntmps34
  go_wp2_with fail
  refine k1.mono ?_
  rintro e w2 ⟨rfl, hb⟩
  go_wp2_with fail
  refine (number_any ds hds _ (HS.out.below hb)).mono ?_
  rw [hr]
  clear hr
  rintro e w3 ⟨rfl, hb3⟩
  have hb4 := hb.trans (hb3.mono hb.size)
  clear hb hb3
  go_wp2_with fail
  refine (find_no gf gc bx sn nm HI.out _ (H.out.f.below hb4)).mono ?_
  rintro e w4 ⟨rfl, rfl⟩
  go_wp2_with fail
  go_ret
  exact ⟨rfl, hb4⟩
set_option maxHeartbeats 4000000 in
theorem apply_nonum (s nm ds : ByteArray) (d : Bool) (i : Nat) (hn : noteL s = false) (hc : cutAt s 32 = (nm, ds, d)) (hi : fidx nm = some i) (hz : numB ds = none) (hl : s.size ≤ 1000000) (w : World) (hs : Std w) (h : PAt w gf gc bx sn v) :
    Calls Tryd.prog 34 #[.string s, .slice (some ⟨gf, 0, none⟩) 16 16] w fun e w' => e = .returned (.int .i64 9) ∧ Below w.heap.size w w' := by
  obtain ⟨h0, hq, e1⟩ := not_note hn
  have k1 := scut_any s 32 hl w
  have hds : ds.size ≤ 1000000 := by have := (cut_small s 32).2; rw [hc] at this; exact Nat.le_trans this hl
  rw [hc] at k1
  have HI := Lib.hid (fidx_some hi)
  have H := Lib.hid h
  have HS := Lib.hid hs
  have hr : numV ds = .tuple #[.int .i64 0, .bool false] := by unfold numV; rw [hz]
  clear hc hi h hs hn hz
  go_enter Tryd.func34, Tryd.ntmps34
  go_wp2_with fail
  refine k1.mono ?_
  rintro e w2 ⟨rfl, hb⟩
  go_wp2_with fail
  refine (number_any ds hds _ (HS.out.below hb)).mono ?_
  rw [hr]
  clear hr
  rintro e w3 ⟨rfl, hb3⟩
  have hb4 := hb.trans (hb3.mono hb.size)
  clear hb hb3
  go_wp2_with fail
  refine (find_yes gf gc bx sn nm i HI.out.1 HI.out.2 _ (H.out.f.below hb4)).mono ?_
  rintro e w4 ⟨rfl, rfl⟩
  go_wp2_with fail
  go_ret
  exact ⟨rfl, hb4⟩
set_option maxHeartbeats 4000000 in
theorem apply_again (s nm ds : ByteArray) (d : Bool) (i : Nat) (n : Int) (hn : noteL s = false) (hc : cutAt s 32 = (nm, ds, d)) (hi : fidx nm = some i) (hz : numB ds = some n) (hsn : sn i = true) (hl : s.size ≤ 1000000) (w : World) (hs : Std w) (h : PAt w gf gc bx sn v) :
    Calls Tryd.prog 34 #[.string s, .slice (some ⟨gf, 0, none⟩) 16 16] w fun e w' => e = .returned (.int .i64 2) ∧ Below w.heap.size w w' := by
  obtain ⟨h0, hq, e1⟩ := not_note hn
  have k1 := scut_any s 32 hl w
  have hds : ds.size ≤ 1000000 := by have := (cut_small s 32).2; rw [hc] at this; exact Nat.le_trans this hl
  rw [hc] at k1
  have HI := Lib.hid (fidx_some hi)
  have H := Lib.hid h
  have HS := Lib.hid hs
  have hr : numV ds = .tuple #[.int .i64 n, .bool true] := by unfold numV; rw [hz]
  have HN := Lib.hid hsn
  clear hc hi h hs hn hz hsn
  go_enter Tryd.func34, Tryd.ntmps34
  go_wp2_with fail
  refine k1.mono ?_
  rintro e w2 ⟨rfl, hb⟩
  go_wp2_with fail
  refine (number_any ds hds _ (HS.out.below hb)).mono ?_
  rw [hr]
  clear hr
  rintro e w3 ⟨rfl, hb3⟩
  have hb4 := hb.trans (hb3.mono hb.size)
  clear hb hb3
  go_wp2_with fail
  refine (find_yes gf gc bx sn nm i HI.out.1 HI.out.2 _ (H.out.f.below hb4)).mono ?_
  rintro e w4 ⟨rfl, rfl⟩
  have c3 := (H.out.f.below hb4).seen HI.out.1
  rw [HN.out] at c3
  go_wp2_with fail
  go_ret
  exact ⟨rfl, hb4⟩
set_option maxHeartbeats 4000000 in
theorem apply_set0 (s nm ds : ByteArray) (d : Bool) (i : Nat) (n : Int) (hk : fr2 i = 48) (hn : noteL s = false) (hc : cutAt s 32 = (nm, ds, d)) (hi : fidx nm = some i) (hz : numB ds = some n) (hsn : sn i = false) (hl : s.size ≤ 1000000) (w : World) (hs : Std w) (h : PAt w gf gc bx sn v) :
    Calls Tryd.prog 34 #[.string s, .slice (some ⟨gf, 0, none⟩) 16 16] w fun e w' => e = .returned (.int .i64 0) ∧ PAt w' gf gc bx (setB sn i true) (setI v i n) ∧ Kept (fun g => g = gf ∨ g = gc) w w' := by
  obtain ⟨h0, hq, e1⟩ := not_note hn
  have k1 := scut_any s 32 hl w
  have hds : ds.size ≤ 1000000 := by have := (cut_small s 32).2; rw [hc] at this; exact Nat.le_trans this hl
  rw [hc] at k1
  have HI := Lib.hid (fidx_some hi)
  have H := Lib.hid h
  have HS := Lib.hid hs
  have hr : numV ds = .tuple #[.int .i64 n, .bool true] := by unfold numV; rw [hz]
  have HN := Lib.hid hsn
  have HK := Lib.hid hk
  clear hc hi h hs hn hz hsn hk
  go_enter Tryd.func34, Tryd.ntmps34
  go_wp2_with fail
  refine k1.mono ?_
  rintro e w2 ⟨rfl, hb⟩
  go_wp2_with fail
  refine (number_any ds hds _ (HS.out.below hb)).mono ?_
  rw [hr]
  clear hr
  rintro e w3 ⟨rfl, hb3⟩
  have hb4 := hb.trans (hb3.mono hb.size)
  clear hb hb3
  go_wp2_with fail
  refine (find_yes gf gc bx sn nm i HI.out.1 HI.out.2 _ (H.out.f.below hb4)).mono ?_
  rintro e w4 ⟨rfl, rfl⟩
  have HP := Lib.hid (H.out.below hb4)
  have c3 := HP.out.f.seen HI.out.1
  rw [HN.out] at c3
  have c2 := HP.out.f.write HI.out.1
  rw [HK.out] at c2
  obtain ⟨cs, hr, -⟩ := HP.out.f.rows
  have z3 := hr.free
  have y3 := hr.size
  clear hr
  go_wp2_with fail
  have HP2 := Lib.hid (HP.out.see i HI.out.1)
  have hap := HP.out.apart
  refine (fwrite_int (bx i) ⟨gc, i, none⟩ (v i) n _ ((HP2.out.f.boxes i HI.out.1).val rfl) (HP2.out.val HI.out.1) (HP2.out.c.free i)).mono ?_
  rintro e w5 ⟨rfl, rfl⟩
  go_wp2_with fail
  go_ret
  exact ⟨rfl, HP2.out.put i n, ((Kept.of_below hb4).set_ (.inl (.inl rfl)) _).set_ (.inl (.inr rfl)) _⟩
set_option maxHeartbeats 4000000 in
theorem apply_set1 (s nm ds : ByteArray) (d : Bool) (i : Nat) (n : Int) (hk : fr2 i = 50) (hn : noteL s = false) (hc : cutAt s 32 = (nm, ds, d)) (hi : fidx nm = some i) (hz : numB ds = some n) (hsn : sn i = false) (hl : s.size ≤ 1000000) (w : World) (hs : Std w) (h : PAt w gf gc bx sn v) :
    Calls Tryd.prog 34 #[.string s, .slice (some ⟨gf, 0, none⟩) 16 16] w fun e w' => e = .returned (.int .i64 0) ∧ PAt w' gf gc bx (setB sn i true) (setI v i n) ∧ Kept (fun g => g = gf ∨ g = gc) w w' := by
  obtain ⟨h0, hq, e1⟩ := not_note hn
  have k1 := scut_any s 32 hl w
  have hds : ds.size ≤ 1000000 := by have := (cut_small s 32).2; rw [hc] at this; exact Nat.le_trans this hl
  rw [hc] at k1
  have HI := Lib.hid (fidx_some hi)
  have H := Lib.hid h
  have HS := Lib.hid hs
  have hr : numV ds = .tuple #[.int .i64 n, .bool true] := by unfold numV; rw [hz]
  have HN := Lib.hid hsn
  have HK := Lib.hid hk
  clear hc hi h hs hn hz hsn hk
  go_enter Tryd.func34, Tryd.ntmps34
  go_wp2_with fail
  refine k1.mono ?_
  rintro e w2 ⟨rfl, hb⟩
  go_wp2_with fail
  refine (number_any ds hds _ (HS.out.below hb)).mono ?_
  rw [hr]
  clear hr
  rintro e w3 ⟨rfl, hb3⟩
  have hb4 := hb.trans (hb3.mono hb.size)
  clear hb hb3
  go_wp2_with fail
  refine (find_yes gf gc bx sn nm i HI.out.1 HI.out.2 _ (H.out.f.below hb4)).mono ?_
  rintro e w4 ⟨rfl, rfl⟩
  have HP := Lib.hid (H.out.below hb4)
  have c3 := HP.out.f.seen HI.out.1
  rw [HN.out] at c3
  have c2 := HP.out.f.write HI.out.1
  rw [HK.out] at c2
  obtain ⟨cs, hr, -⟩ := HP.out.f.rows
  have z3 := hr.free
  have y3 := hr.size
  clear hr
  go_wp2_with fail
  have HP2 := Lib.hid (HP.out.see i HI.out.1)
  have hap := HP.out.apart
  refine (fwrite_i64 (bx i) ⟨gc, i, none⟩ (v i) n _ ((HP2.out.f.boxes i HI.out.1).val rfl) (HP2.out.val HI.out.1) (HP2.out.c.free i)).mono ?_
  rintro e w5 ⟨rfl, rfl⟩
  go_wp2_with fail
  go_ret
  exact ⟨rfl, HP2.out.put i n, ((Kept.of_below hb4).set_ (.inl (.inl rfl)) _).set_ (.inl (.inr rfl)) _⟩
set_option maxHeartbeats 4000000 in
theorem apply_set2 (s nm ds : ByteArray) (d : Bool) (i : Nat) (n : Int) (hk : fr2 i = 52) (hn : noteL s = false) (hc : cutAt s 32 = (nm, ds, d)) (hi : fidx nm = some i) (hz : numB ds = some n) (hsn : sn i = false) (hl : s.size ≤ 1000000) (w : World) (hs : Std w) (h : PAt w gf gc bx sn v) :
    Calls Tryd.prog 34 #[.string s, .slice (some ⟨gf, 0, none⟩) 16 16] w fun e w' => e = .returned (.int .i64 0) ∧ PAt w' gf gc bx (setB sn i true) (setI v i n) ∧ Kept (fun g => g = gf ∨ g = gc) w w' := by
  obtain ⟨h0, hq, e1⟩ := not_note hn
  have k1 := scut_any s 32 hl w
  have hds : ds.size ≤ 1000000 := by have := (cut_small s 32).2; rw [hc] at this; exact Nat.le_trans this hl
  rw [hc] at k1
  have HI := Lib.hid (fidx_some hi)
  have H := Lib.hid h
  have HS := Lib.hid hs
  have hr : numV ds = .tuple #[.int .i64 n, .bool true] := by unfold numV; rw [hz]
  have HN := Lib.hid hsn
  have HK := Lib.hid hk
  clear hc hi h hs hn hz hsn hk
  go_enter Tryd.func34, Tryd.ntmps34
  go_wp2_with fail
  refine k1.mono ?_
  rintro e w2 ⟨rfl, hb⟩
  go_wp2_with fail
  refine (number_any ds hds _ (HS.out.below hb)).mono ?_
  rw [hr]
  clear hr
  rintro e w3 ⟨rfl, hb3⟩
  have hb4 := hb.trans (hb3.mono hb.size)
  clear hb hb3
  go_wp2_with fail
  refine (find_yes gf gc bx sn nm i HI.out.1 HI.out.2 _ (H.out.f.below hb4)).mono ?_
  rintro e w4 ⟨rfl, rfl⟩
  have HP := Lib.hid (H.out.below hb4)
  have c3 := HP.out.f.seen HI.out.1
  rw [HN.out] at c3
  have c2 := HP.out.f.write HI.out.1
  rw [HK.out] at c2
  obtain ⟨cs, hr, -⟩ := HP.out.f.rows
  have z3 := hr.free
  have y3 := hr.size
  clear hr
  go_wp2_with fail
  have HP2 := Lib.hid (HP.out.see i HI.out.1)
  have hap := HP.out.apart
  refine (fwrite_q (bx i) ⟨gc, i, none⟩ (v i) n _ ((HP2.out.f.boxes i HI.out.1).val rfl) (HP2.out.val HI.out.1) (HP2.out.c.free i)).mono ?_
  rintro e w5 ⟨rfl, rfl⟩
  go_wp2_with fail
  go_ret
  exact ⟨rfl, HP2.out.put i n, ((Kept.of_below hb4).set_ (.inl (.inl rfl)) _).set_ (.inl (.inr rfl)) _⟩
end
end Go.Proofs.YtbajmmgdnegoiaaDoor
