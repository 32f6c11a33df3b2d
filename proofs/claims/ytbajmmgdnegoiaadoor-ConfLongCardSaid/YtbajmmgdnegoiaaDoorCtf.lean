/- ConfTexts' walk. -/
import Derived.Test.YtbajmmgdnegoiaaDoorCte
import Derived.Test.YtbajmmgdnegoiaaDoorCnob
import Derived.Test.YtbajmmgdnegoiaaDoorCnu
import Derived.Test.YtbajmmgdnegoiaaDoorLdr
namespace Go.Proofs.YtbajmmgdnegoiaaDoor
open Go.ChangeShapes Go.WideShapes Go.ChangeAt Go.RowKit Kn
set_option linter.unusedVariables false
set_option linter.unusedSimpArgs false
def Cf.zero : Cf := ⟨0, 0, 0, 0, 0, 0, 0, 0, 0, 0, 0, 0, 0, 0, 0, 0⟩
theorem cfOf_congr {v u : Nat → Int} (h : ∀ i, i < 16 → u i = v i) : cfOf u = cfOf v := by
  unfold cfOf
  simp only [h _ (show 0 < 16 by decide), h _ (show 1 < 16 by decide), h _ (show 2 < 16 by decide), h _ (show 3 < 16 by decide), h _ (show 4 < 16 by decide), h _ (show 5 < 16 by decide), h _ (show 6 < 16 by decide), h _ (show 7 < 16 by decide), h _ (show 8 < 16 by decide), h _ (show 9 < 16 by decide), h _ (show 10 < 16 by decide), h _ (show 11 < 16 by decide), h _ (show 12 < 16 by decide), h _ (show 13 < 16 by decide), h _ (show 14 < 16 by decide), h _ (show 15 < 16 by decide)]
theorem ends_of {R : Int × (Nat → Int)} {c : Cf} (h0 : R.1 = 0) (h : ∀ i, i < 16 → R.2 i = vOf c i) : endE R = validE c ∧ endV R = if validE c = 0 then c else Cf.zero := by
  have e : cfOf R.2 = c := (cfOf_congr h).trans (cfOf_vOf c)
  have e1 : endE R = validE c := by unfold endE; rw [if_pos h0, e]
  refine ⟨e1, ?_⟩
  unfold endV
  rw [e1, e]
  rfl
theorem tx_back (c : Cf) (hc : c.ok) : endE (linesE ((txtK (vOf c) 16).size + 1) (txtK (vOf c) 16) (fun _ => false) dfv) = validE c ∧ endV (linesE ((txtK (vOf c) 16).size + 1) (txtK (vOf c) 16) (fun _ => false) dfv) = if validE c = 0 then c else Cf.zero := by
  have hl : 16 < (txtK (vOf c) 16).size + 1 := by
    have e : txtK (vOf c) 16 = txtK (vOf c) 15 ++ (((fnm 15 ++ ⟨#[32]⟩) ++ itoaB (vOf c 15)) ++ ⟨#[10]⟩) := (txt_next _ 15).symm
    have key : ∀ k, k ≤ 16 → k ≤ (txtK (vOf c) k).size := by
      intro k
      induction k with
      | zero => intro _; omega
      | succ k ih =>
        intro hk
        have h1 := ih (by omega)
        rw [← txt_next, ByteArray.size_append, ByteArray.size_append]
        have : (⟨#[10]⟩ : ByteArray).size = 1 := rfl
        omega
    have := key 16 (by omega)
    omega
  have h := lines_all (vOf c) (vOf_fits hc) (List.range 16) ((txtK (vOf c) 16).size + 1) (fun _ => false) dfv (by rw [List.length_range]; exact hl) (fun i m => List.mem_range.1 m) List.nodup_range (fun _ _ => rfl)
  have e2 : mkT (linesL (vOf c) (List.range 16)) = txtK (vOf c) 16 := rfl
  rw [e2] at h
  exact ends_of h.1 fun i hi => by rw [h.2 i, if_pos (List.mem_range.2 hi)]
theorem validE_or (c : Cf) : validE c = 0 ∨ validE c = 1 := by unfold validE; split <;> simp
/-- What a config's text is read as. -/
theorem parse_text (c : Cf) (hc : c.ok) (w : World) (hs : Std w) : Calls Tryd.prog 21 #[.string (txtK (vOf c) 16)] w fun e w' => e = .returned (.tuple #[(if validE c = 0 then c else Cf.zero).v, .int .i64 (validE c)]) ∧ Below w.heap.size w w' := by
  have h := parse_short (txtK (vOf c) 16) (by have := txt_len (vOf c) (vOf_fits hc) 16 (Nat.le_refl _); omega) w hs
  rw [(tx_back c hc).1, (tx_back c hc).2] at h
  exact h
theorem cf_info : (Tryd.prog.info? 24).map (·.size) = some 16 := by kernel_rfl
theorem ld_cf {w : World} {g : Nat} {c : Cf} (h : Blk w g 24 (cfL c).toArray) : (loadVar 24 ⟨g, 0, none⟩).run Tryd.prog w = .ok c.v w := run_loadVar_row w g _ _ _ _ _ h Tryd.underlying24 rfl cf_info
abbrev CfBox (w : World) (g : Nat) (c : Cf) : Prop := Blk w g 24 (cfL c).toArray
set_option maxRecDepth 20000 in
set_option maxHeartbeats 4000000 in
theorem walkt (c : Cf) (hc : c.ok) (w : World) (hs : Std w) : Calls Tryd.prog 4 #[c.v] w fun e w' => e = .returned (.bool true) ∧ Below w.heap.size w w' := by
  have HS := Lib.hid hs
  have HO := Lib.hid hc
  clear hs hc
  obtain ⟨T, hT⟩ : ∃ T, txtK (vOf c) 16 = T := ⟨_, rfl⟩
  obtain ⟨ve, hve⟩ : ∃ z, validE c = z := ⟨_, rfl⟩
  have hP := parse_text c HO.out
  rw [hT, hve] at hP
  have hX := text_any c HO.out
  rw [hT] at hX
  have hR := rtext_any c HO.out
  rw [hT] at hR
  have hV := valid_any c
  rw [hve] at hV
  have hvo : ve = 0 ∨ ve = 1 := by rw [← hve]; exact validE_or c
  have HP := Lib.hid hP
  have HX := Lib.hid hX
  have HR := Lib.hid hR
  have HV := Lib.hid hV
  clear hP hX hR hV hT hve
  go_enter Tryd.func4, Tryd.ntmps4
  go_upto_region 1 with fail
  refine wp_worldx (fun wx => CfBox wx w.heap.size c ∧ Below w.heap.size w wx) ⟨Blk.made _ _ _, (Below.refl _ _).alloc (Nat.le_refl _) _⟩ ?_
  rintro x1 ⟨hb1, hw1⟩
  have HB1 := Lib.hid hb1
  have HW1 := Lib.hid hw1
  clear hb1 hw1
  go_wp2_with fail
  refine (awake13 _ (HS.out.below HW1.out)).mono ?_
  rintro e x2 ⟨rfl, hw2⟩
  have HB2 := Lib.hid (HB1.out.below_ hw2 HB1.out.size)
  have HW2 := Lib.hid (HW1.out.trans (hw2.mono HW1.out.size))
  clear hw2 HB1 HW1
  go_wp2_with (refine wpList_load_row rfl 24 (.tmp 1) rfl _ rfl _ _ _ _ HB2.out Tryd.underlying24 rfl cf_info ?_)
  refine (HX.out _ (HS.out.below HW2.out)).mono ?_
  rintro e x3 ⟨rfl, hw3⟩
  have HB3 := Lib.hid (HB2.out.below_ hw3 HB2.out.size)
  have HW3 := Lib.hid (HW2.out.trans (hw3.mono (Nat.le_of_lt HB2.out.size)))
  clear hw3 HB2 HW2
  go_wp2_with fail
  refine (HP.out _ (HS.out.below HW3.out)).mono ?_
  rintro e x4 ⟨rfl, hw4⟩
  have HB4 := Lib.hid (HB3.out.below_ hw4 HB3.out.size)
  have HW4 := Lib.hid (HW3.out.trans (hw4.mono (Nat.le_of_lt HB3.out.size)))
  clear hw4 HB3 HW3
  rcases hvo with rfl | rfl
  · rw [if_pos (by rfl)]
    go_upto_region 5 with fail
    refine wp_worldx (fun wx => CfBox wx w.heap.size c ∧ CfBox wx x4.heap.size c ∧ Below w.heap.size w wx) ⟨HB4.out.alloc_ _, Blk.made _ _ _, HW4.out.alloc HW4.out.size _⟩ ?_
    rintro x5 ⟨hb5, hd5, hw5⟩
    have HB5 := Lib.hid hb5
    have HD5 := Lib.hid hd5
    have HW5 := Lib.hid hw5
    clear hb5 hd5 hw5 HB4 HW4
    go_wp2_with (refine wpList_load_row rfl 24 (.tmp 1) rfl _ rfl _ _ _ _ HB5.out Tryd.underlying24 rfl cf_info ?_)
    refine (lown13 c _).mono ?_
    rintro e x6 ⟨rfl, hr6, hw6⟩
    have HR6 := Lib.hid hr6
    have HB6 := Lib.hid (HB5.out.below_ hw6 HB5.out.size)
    have HD6 := Lib.hid (HD5.out.below_ hw6 HD5.out.size)
    have HW6 := Lib.hid (HW5.out.trans (hw6.mono (Nat.le_of_lt HB5.out.size)))
    clear hr6 hw6 HB5 HD5 HW5
    go_wp2_with fail
    refine (HR.out _ _ HR6.out).mono ?_
    rintro e x7 ⟨rfl, hw7⟩
    have HB7 := Lib.hid (HB6.out.below_ hw7 HB6.out.size)
    have HD7 := Lib.hid (HD6.out.below_ hw7 HD6.out.size)
    have HW7 := Lib.hid (HW6.out.trans (hw7.mono (Nat.le_of_lt HB6.out.size)))
    clear hw7 HB6 HD6 HW6 HR6
    go_wp2_with (refine wpList_load_row rfl 24 (.tmp 1) rfl _ rfl _ _ _ _ HB7.out Tryd.underlying24 rfl cf_info ?_)
    refine (HV.out _).mono ?_
    rintro e x8 ⟨rfl, hw8⟩
    have HB8 := Lib.hid (HB7.out.below_ hw8 HB7.out.size)
    have HD8 := Lib.hid (HD7.out.below_ hw8 HD7.out.size)
    have HW8 := Lib.hid (HW7.out.trans (hw8.mono (Nat.le_of_lt HB7.out.size)))
    clear hw8 HB7 HD7 HW7
    go_wp2_with (first | refine wpList_load_rowg (by kernel_rfl) 24 (.tmp 1) rfl _ rfl _ #[.int .i64 c.ti, .int .i64 c.ro, .int .i64 c.ta, .int .i64 c.iv, .int .i64 c.hg, .int .i64 c.lo, .int .i64 c.dw, .int .i64 c.ho, .int .i64 c.sp, .int .i64 c.kp, .int .i64 c.ki, .int .i64 c.kd, .int .i64 c.lm, .int .i64 c.st, .int .i64 c.th, .int .i64 c.rg] _ HB8.out Tryd.underlying24 rfl cf_info ?_ | refine wpList_load_rowg (by kernel_rfl) 24 (.tmp 4) rfl _ rfl _ #[.int .i64 c.ti, .int .i64 c.ro, .int .i64 c.ta, .int .i64 c.iv, .int .i64 c.hg, .int .i64 c.lo, .int .i64 c.dw, .int .i64 c.ho, .int .i64 c.sp, .int .i64 c.kp, .int .i64 c.ki, .int .i64 c.kd, .int .i64 c.lm, .int .i64 c.st, .int .i64 c.th, .int .i64 c.rg] _ HD8.out Tryd.underlying24 rfl cf_info ?_)
    go_ret
    exact ⟨by trivial, HW8.out⟩
  · rw [if_neg (by decide)]
    simp only [Cf.zero]
    go_upto_region 5 with fail
    refine wp_worldx (fun wx => CfBox wx w.heap.size c ∧ CfBox wx x4.heap.size Cf.zero ∧ Below w.heap.size w wx) ⟨HB4.out.alloc_ _, Blk.made _ _ _, HW4.out.alloc HW4.out.size _⟩ ?_
    rintro x5 ⟨hb5, hd5, hw5⟩
    have HB5 := Lib.hid hb5
    have HD5 := Lib.hid hd5
    have HW5 := Lib.hid hw5
    clear hb5 hd5 hw5 HB4 HW4
    go_wp2_with (refine wpList_load_row rfl 24 (.tmp 1) rfl _ rfl _ _ _ _ HB5.out Tryd.underlying24 rfl cf_info ?_)
    refine (lown13 c _).mono ?_
    rintro e x6 ⟨rfl, hr6, hw6⟩
    have HR6 := Lib.hid hr6
    have HB6 := Lib.hid (HB5.out.below_ hw6 HB5.out.size)
    have HD6 := Lib.hid (HD5.out.below_ hw6 HD5.out.size)
    have HW6 := Lib.hid (HW5.out.trans (hw6.mono (Nat.le_of_lt HB5.out.size)))
    clear hr6 hw6 HB5 HD5 HW5
    go_wp2_with fail
    refine (HR.out _ _ HR6.out).mono ?_
    rintro e x7 ⟨rfl, hw7⟩
    have HB7 := Lib.hid (HB6.out.below_ hw7 HB6.out.size)
    have HD7 := Lib.hid (HD6.out.below_ hw7 HD6.out.size)
    have HW7 := Lib.hid (HW6.out.trans (hw7.mono (Nat.le_of_lt HB6.out.size)))
    clear hw7 HB6 HD6 HW6 HR6
    go_wp2_with (refine wpList_load_row rfl 24 (.tmp 1) rfl _ rfl _ _ _ _ HB7.out Tryd.underlying24 rfl cf_info ?_)
    refine (HV.out _).mono ?_
    rintro e x8 ⟨rfl, hw8⟩
    have HB8 := Lib.hid (HB7.out.below_ hw8 HB7.out.size)
    have HD8 := Lib.hid (HD7.out.below_ hw8 HD7.out.size)
    have HW8 := Lib.hid (HW7.out.trans (hw8.mono (Nat.le_of_lt HB7.out.size)))
    clear hw8 HB7 HD7 HW7
    go_wp2_with (first | refine wpList_load_rowg (by kernel_rfl) 24 (.tmp 1) rfl _ rfl _ #[.int .i64 c.ti, .int .i64 c.ro, .int .i64 c.ta, .int .i64 c.iv, .int .i64 c.hg, .int .i64 c.lo, .int .i64 c.dw, .int .i64 c.ho, .int .i64 c.sp, .int .i64 c.kp, .int .i64 c.ki, .int .i64 c.kd, .int .i64 c.lm, .int .i64 c.st, .int .i64 c.th, .int .i64 c.rg] _ HB8.out Tryd.underlying24 rfl cf_info ?_ | refine wpList_load_rowg (by kernel_rfl) 24 (.tmp 4) rfl _ rfl _ #[.int .i64 0, .int .i64 0, .int .i64 0, .int .i64 0, .int .i64 0, .int .i64 0, .int .i64 0, .int .i64 0, .int .i64 0, .int .i64 0, .int .i64 0, .int .i64 0, .int .i64 0, .int .i64 0, .int .i64 0, .int .i64 0] _ HD8.out Tryd.underlying24 rfl cf_info ?_)
    go_ret
    exact ⟨by trivial, HW8.out⟩
end Go.Proofs.YtbajmmgdnegoiaaDoor
