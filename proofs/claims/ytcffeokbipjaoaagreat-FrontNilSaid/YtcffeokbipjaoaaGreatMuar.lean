/- Texts of this claim, one behind the other: Gat. -/
import Derived.Deep.DeepCutAuto
import Derived.Deep.RegionHeld3
import Derived.BigQuiet
import Derived.Deep.QuietTactic
import Derived.Test.YtcffeokbipjaoaaGreatMuaa
import Derived.Test.YtcffeokbipjaoaaGreatMual
import Derived.Test.YtcffeokbipjaoaaGreatMuaq
namespace Go.Proofs.YtcffeokbipjaoaaGreat
open Go.ChangeShapes Go.WideShapes Go.ChangeAt Go.RowKit Kn
set_option linter.unusedVariables false
set_option linter.unusedSimpArgs false
structure Cf where
 (ti ro ta iv hg lo dw ho sp kp ki kd lm st th rg : Int)
abbrev Cf.l (c : Cf) : List Value := [.int .i64 c.ti, .int .i64 c.ro, .int .i64 c.ta, .int .i64 c.iv, .int .i64 c.hg, .int .i64 c.lo, .int .i64 c.dw, .int .i64 c.ho, .int .i64 c.sp, .int .i64 c.kp, .int .i64 c.ki, .int .i64 c.kd, .int .i64 c.lm, .int .i64 c.st, .int .i64 c.th, .int .i64 c.rg]
abbrev Cf.v (c : Cf) : Value := .agg #[.int .i64 c.ti, .int .i64 c.ro, .int .i64 c.ta, .int .i64 c.iv, .int .i64 c.hg, .int .i64 c.lo, .int .i64 c.dw, .int .i64 c.ho, .int .i64 c.sp, .int .i64 c.kp, .int .i64 c.ki, .int .i64 c.kd, .int .i64 c.lm, .int .i64 c.st, .int .i64 c.th, .int .i64 c.rg]
def Cf.dflt : Cf := ⟨4, 64, 5, 100, 50, 10, 20, 1000, 2147483648, 4294967296, 1073741824, 0, 1099511627776, 64, 4, 4⟩
def rightG (n t c : Int) : Bool := decide (0 ≤ t) && decide (t < n) && decide (0 ≤ c) && decide (c < 128)
def edgeG (n l : Int) : Int := sat (n * 128 - l)
def deadG (h now d : Int) : Int := if sat (now + h) < d then sat (now + h) else d
def judgeG (n l now t c d : Int) : Int := if rightG n t c = false then 2 else if d ≤ now then 3 else if edgeG n l ≤ t * 128 + c then 4 else 0
theorem sat_is (x : Int) (h0 : -9223372036854775808 ≤ x) (h1 : x ≤ 9223372036854775807) : sat x = x := by unfold sat; omega
set_option maxHeartbeats 1000000 in
theorem cdef_any  (w : World) :
   Calls Tryz.prog 34 #[] w fun e w' => e = .returned Cf.dflt.v ∧ Below w.heap.size w w' := by
 go_enter Tryz.func34, Tryz.ntmps34
 go_upto_region 1 with fail
 refine wp_worldx (fun wx => Bxs w wx [(w.heap.size, 24, [.int .i64 0, .int .i64 0, .int .i64 0, .int .i64 0, .int .i64 0, .int .i64 0, .int .i64 0, .int .i64 0, .int .i64 0, .int .i64 0, .int .i64 0, .int .i64 0, .int .i64 0, .int .i64 0, .int .i64 0, .int .i64 0])]) ((Bxs.nil_ w).alloc_ _ _ (by simp)) ?_
 rintro x1 bx
 have BX := Lib.hid bx
 clear bx
 obtain ⟨p0_0, p0_1, p0_2, p0_3, p0_4, p0_5, p0_6, p0_7, p0_8, p0_9, p0_10, p0_11, p0_12, p0_13, p0_14, p0_15, z0, y0⟩ := bl16 (BX.out.bl 0 _ _ _ rfl)
 go_wp2_with fail
 refine bodyPost_ret (v := .agg #[.int .i64 4, .int .i64 64, .int .i64 5, .int .i64 100, .int .i64 50, .int .i64 10, .int .i64 20, .int .i64 1000, .int .i64 2147483648, .int .i64 4294967296, .int .i64 1073741824, .int .i64 0, .int .i64 1099511627776, .int .i64 64, .int .i64 4, .int .i64 4]) (by simp [results, Tryz.results34, go_sem, *]) rfl ⟨rfl, ?_⟩
 exact (((((((((((((((((BX.out).set_ 0 0 rfl _).set_ 0 1 rfl _).set_ 0 2 rfl _).set_ 0 3 rfl _).set_ 0 4 rfl _).set_ 0 5 rfl _).set_ 0 6 rfl _).set_ 0 7 rfl _).set_ 0 8 rfl _).set_ 0 9 rfl _).set_ 0 10 rfl _).set_ 0 11 rfl _).set_ 0 12 rfl _).set_ 0 13 rfl _).set_ 0 14 rfl _).set_ 0 15 rfl _).be
set_option maxHeartbeats 1000000 in
theorem cmost_any (c : Cf) (h0 : 0 ≤ c.ti) (h1 : c.ti ≤ 1000) (w : World) :
   Calls Tryz.prog 113 #[c.v] w fun e w' => e = .returned (.int .i64 (c.ti * 128)) ∧ Below w.heap.size w w' := by
 have e1 : IntKind.i64.wrap (c.ti * 128) = c.ti * 128 := by rw [IntKind.wrap_i64]; omega
 go_enter Tryz.func113, Tryz.ntmps113
 go_upto_region 1 with fail
 refine wp_worldx (fun wx => Bxs w wx [(w.heap.size, 24, [.int .i64 c.ti, .int .i64 c.ro, .int .i64 c.ta, .int .i64 c.iv, .int .i64 c.hg, .int .i64 c.lo, .int .i64 c.dw, .int .i64 c.ho, .int .i64 c.sp, .int .i64 c.kp, .int .i64 c.ki, .int .i64 c.kd, .int .i64 c.lm, .int .i64 c.st, .int .i64 c.th, .int .i64 c.rg])]) ((Bxs.nil_ w).alloc_ _ _ (by simp)) ?_
 rintro x1 bx
 have BX := Lib.hid bx
 clear bx
 obtain ⟨p0_0, p0_1, p0_2, p0_3, p0_4, p0_5, p0_6, p0_7, p0_8, p0_9, p0_10, p0_11, p0_12, p0_13, p0_14, p0_15, z0, y0⟩ := bl16 (BX.out.bl 0 _ _ _ rfl)
 go_wp2_with fail
 refine bodyPost_ret (v := .int .i64 (c.ti * 128)) (by simp [results, Tryz.results113, go_sem, *]) rfl ⟨rfl, ?_⟩
 exact (BX.out).be
set_option maxHeartbeats 1000000 in
theorem gkey_any (t k : Int) (t0 : 0 ≤ t) (t1 : t ≤ 1000) (k0 : 0 ≤ k) (k1 : k ≤ 1000) (w : World) :
   Calls Tryz.prog 158 #[.int .i64 t, .int .i64 k] w fun e w' => e = .returned (.int .i64 (t * 128 + k)) ∧ w = w' := by
 have e1 : IntKind.i64.wrap (t * 128) = t * 128 := by rw [IntKind.wrap_i64]; omega
 have e2 : IntKind.i64.wrap (t * 128 + k) = t * 128 + k := by rw [IntKind.wrap_i64]; omega
 go_enter Tryz.func158, Tryz.ntmps158
 go_wp2_with fail
 go_ret
 exact ⟨rfl, rfl⟩
set_option maxHeartbeats 1000000 in
theorem gright_any (c : Cf) (t k : Int) (w : World) :
   Calls Tryz.prog 157 #[c.v, .int .i64 t, .int .i64 k] w fun e w' => e = .returned (.bool (rightG c.ti t k)) ∧ Below w.heap.size w w' := by
 go_enter Tryz.func157, Tryz.ntmps157
 go_upto_region 1 with fail
 refine wp_worldx (fun wx => Bxs w wx [(w.heap.size, 24, [.int .i64 c.ti, .int .i64 c.ro, .int .i64 c.ta, .int .i64 c.iv, .int .i64 c.hg, .int .i64 c.lo, .int .i64 c.dw, .int .i64 c.ho, .int .i64 c.sp, .int .i64 c.kp, .int .i64 c.ki, .int .i64 c.kd, .int .i64 c.lm, .int .i64 c.st, .int .i64 c.th, .int .i64 c.rg])]) ((Bxs.nil_ w).alloc_ _ _ (by simp)) ?_
 rintro x1 bx
 have BX := Lib.hid bx
 clear bx
 obtain ⟨p0_0, p0_1, p0_2, p0_3, p0_4, p0_5, p0_6, p0_7, p0_8, p0_9, p0_10, p0_11, p0_12, p0_13, p0_14, p0_15, z0, y0⟩ := bl16 (BX.out.bl 0 _ _ _ rfl)
 go_wp2_with fail
 all_goals (go_ret; exact ⟨ret_bool (by unfold rightG; (try simp [*]); (try omega)), (BX.out).be⟩)
set_option maxHeartbeats 1000000 in
theorem gedge_any (c : Cf) (l : Int) (h0 : 0 ≤ c.ti) (h1 : c.ti ≤ 1000) (l0 : -9223372036854775808 ≤ l) (l1 : l ≤ 9223372036854775807) (w : World) :
   Calls Tryz.prog 131 #[c.v, .int .i64 l] w fun e w' => e = .returned (.int .i64 (edgeG c.ti l)) ∧ Below w.heap.size w w' := by
 go_enter Tryz.func131, Tryz.ntmps131
 go_upto_region 1 with fail
 refine wp_worldx (fun wx => Bxs w wx [(w.heap.size, 24, [.int .i64 c.ti, .int .i64 c.ro, .int .i64 c.ta, .int .i64 c.iv, .int .i64 c.hg, .int .i64 c.lo, .int .i64 c.dw, .int .i64 c.ho, .int .i64 c.sp, .int .i64 c.kp, .int .i64 c.ki, .int .i64 c.kd, .int .i64 c.lm, .int .i64 c.st, .int .i64 c.th, .int .i64 c.rg])]) ((Bxs.nil_ w).alloc_ _ _ (by simp)) ?_
 rintro x1 bx
 have BX := Lib.hid bx
 clear bx
 obtain ⟨p0_0, p0_1, p0_2, p0_3, p0_4, p0_5, p0_6, p0_7, p0_8, p0_9, p0_10, p0_11, p0_12, p0_13, p0_14, p0_15, z0, y0⟩ := bl16 (BX.out.bl 0 _ _ _ rfl)
 go_wp2_with fail
 refine (cmost_any c h0 h1 _).mono ?_
 rintro e x2 ⟨rfl, hb⟩
 have bx : Bxs w x2 [(w.heap.size, 24, [.int .i64 c.ti, .int .i64 c.ro, .int .i64 c.ta, .int .i64 c.iv, .int .i64 c.hg, .int .i64 c.lo, .int .i64 c.dw, .int .i64 c.ho, .int .i64 c.sp, .int .i64 c.kp, .int .i64 c.ki, .int .i64 c.kd, .int .i64 c.lm, .int .i64 c.st, .int .i64 c.th, .int .i64 c.rg])] := (BX.out).below hb
 clear p0_0 p0_1 p0_2 p0_3 p0_4 p0_5 p0_6 p0_7 p0_8 p0_9 p0_10 p0_11 p0_12 p0_13 p0_14 p0_15 z0 y0
 clear hb BX
 have BX := Lib.hid bx
 clear bx
 obtain ⟨p0_0, p0_1, p0_2, p0_3, p0_4, p0_5, p0_6, p0_7, p0_8, p0_9, p0_10, p0_11, p0_12, p0_13, p0_14, p0_15, z0, y0⟩ := bl16 (BX.out.bl 0 _ _ _ rfl)
 go_wp2_with fail
 refine (fsub_any _ _ _ (by omega) (by omega) l0 l1).mono ?_
 rintro e x3 ⟨rfl, rfl⟩
 go_wp2_with fail
 refine bodyPost_ret (v := .int .i64 (sat (c.ti * 128 - l))) (by simp [results, Tryz.results131, go_sem, *]) rfl ⟨rfl, ?_⟩
 exact (BX.out).be
set_option maxHeartbeats 1000000 in
theorem gdead_any (c : Cf) (now d : Int) (n0 : -9223372036854775808 ≤ now) (n1 : now ≤ 9223372036854775807) (h0 : -9223372036854775808 ≤ c.ho) (h1 : c.ho ≤ 9223372036854775807) (w : World) :
   Calls Tryz.prog 124 #[c.v, .int .i64 now, .int .i64 d] w fun e w' => e = .returned (.int .i64 (deadG c.ho now d)) ∧ Below w.heap.size w w' := by
 go_enter Tryz.func124, Tryz.ntmps124
 go_upto_region 1 with fail
 refine wp_worldx (fun wx => Bxs w wx [(w.heap.size, 24, [.int .i64 c.ti, .int .i64 c.ro, .int .i64 c.ta, .int .i64 c.iv, .int .i64 c.hg, .int .i64 c.lo, .int .i64 c.dw, .int .i64 c.ho, .int .i64 c.sp, .int .i64 c.kp, .int .i64 c.ki, .int .i64 c.kd, .int .i64 c.lm, .int .i64 c.st, .int .i64 c.th, .int .i64 c.rg])]) ((Bxs.nil_ w).alloc_ _ _ (by simp)) ?_
 rintro x1 bx
 have BX := Lib.hid bx
 clear bx
 obtain ⟨p0_0, p0_1, p0_2, p0_3, p0_4, p0_5, p0_6, p0_7, p0_8, p0_9, p0_10, p0_11, p0_12, p0_13, p0_14, p0_15, z0, y0⟩ := bl16 (BX.out.bl 0 _ _ _ rfl)
 go_wp2_with fail
 refine (fadd_any _ _ _ n0 n1 h0 h1).mono ?_
 rintro e x2 ⟨rfl, rfl⟩
 go_wp2_with fail
 all_goals (go_ret; exact ⟨ret_int (by unfold deadG; split <;> omega), (BX.out).be⟩)
theorem rightG_iff {n t k : Int} : rightG n t k = true ↔ 0 ≤ t ∧ t < n ∧ 0 ≤ k ∧ k < 128 := by unfold rightG; simp [and_assoc]
set_option maxHeartbeats 2000000 in
theorem gjudge_any (c : Cf) (l now t k d : Int) (h1 : c.ti ≤ 1000) (l0 : -9223372036854775808 ≤ l) (l1 : l ≤ 9223372036854775807) (w : World) :
   Calls Tryz.prog 116 #[c.v, .int .i64 l, .int .i64 now, .int .i64 t, .int .i64 k, .int .i64 d] w fun e w' => e = .returned (.int .u8 (judgeG c.ti l now t k d)) ∧ Below w.heap.size w w' := by
 go_enter Tryz.func116, Tryz.ntmps116
 go_upto_region 1 with fail
 refine wp_worldx (fun wx => Bxs w wx [(w.heap.size, 24, [.int .i64 c.ti, .int .i64 c.ro, .int .i64 c.ta, .int .i64 c.iv, .int .i64 c.hg, .int .i64 c.lo, .int .i64 c.dw, .int .i64 c.ho, .int .i64 c.sp, .int .i64 c.kp, .int .i64 c.ki, .int .i64 c.kd, .int .i64 c.lm, .int .i64 c.st, .int .i64 c.th, .int .i64 c.rg])]) ((Bxs.nil_ w).alloc_ _ _ (by simp)) ?_
 rintro x1 bx
 have BX := Lib.hid bx
 clear bx
 obtain ⟨p0_0, p0_1, p0_2, p0_3, p0_4, p0_5, p0_6, p0_7, p0_8, p0_9, p0_10, p0_11, p0_12, p0_13, p0_14, p0_15, z0, y0⟩ := bl16 (BX.out.bl 0 _ _ _ rfl)
 go_wp2_with fail
 refine (gright_any c t k _).mono ?_
 rintro e x2 ⟨rfl, hb⟩
 have bx : Bxs w x2 [(w.heap.size, 24, [.int .i64 c.ti, .int .i64 c.ro, .int .i64 c.ta, .int .i64 c.iv, .int .i64 c.hg, .int .i64 c.lo, .int .i64 c.dw, .int .i64 c.ho, .int .i64 c.sp, .int .i64 c.kp, .int .i64 c.ki, .int .i64 c.kd, .int .i64 c.lm, .int .i64 c.st, .int .i64 c.th, .int .i64 c.rg])] := (BX.out).below hb
 clear p0_0 p0_1 p0_2 p0_3 p0_4 p0_5 p0_6 p0_7 p0_8 p0_9 p0_10 p0_11 p0_12 p0_13 p0_14 p0_15 z0 y0
 clear hb BX
 have BX := Lib.hid bx
 clear bx
 obtain ⟨p0_0, p0_1, p0_2, p0_3, p0_4, p0_5, p0_6, p0_7, p0_8, p0_9, p0_10, p0_11, p0_12, p0_13, p0_14, p0_15, z0, y0⟩ := bl16 (BX.out.bl 0 _ _ _ rfl)
 have HJ := Lib.hid (rfl : judgeG c.ti l now t k d = judgeG c.ti l now t k d)
 cases hr : rightG c.ti t k with
 | false =>
   go_wp2_with fail
   refine bodyPost_ret (v := .int .u8 2) (by simp [results, Tryz.results116, go_sem, *]) rfl ⟨?_, BX.out.be⟩
   unfold judgeG; rw [if_pos hr]
 | true =>
   obtain ⟨t0, t1, k0, k1⟩ := rightG_iff.1 hr
   have hr2 : ¬ rightG c.ti t k = false := by rw [hr]; simp
   have HR := Lib.hid hr2
   clear hr hr2
   by_cases hd : d ≤ now
   · go_wp2_with fail
     refine bodyPost_ret (v := .int .u8 3) (by simp [results, Tryz.results116, go_sem, *]) rfl ⟨?_, BX.out.be⟩
     unfold judgeG; rw [if_neg HR.out, if_pos hd]
   · have HD := Lib.hid hd
     go_upto_region 5 with fail
     have HOLD := Lib.hid (show True from trivial)
     obtain ⟨E, hE⟩ : ∃ E, edgeG c.ti l = E := ⟨_, rfl⟩
     have kk := fun wq => gkey_any t k t0 (by omega) k0 (by omega) wq
     have ke := fun wq => gedge_any c l (by omega) h1 l0 l1 wq
     rw [hE] at ke
     have KK := Lib.hid kk
     have KE := Lib.hid ke
     have HE := Lib.hid hE
     clear kk ke hE
     by_cases hk : E ≤ t * 128 + k
     · go_upto_region 5 with fail
       go_region_with (first | (go_at_call 158; refine (KK.out _).mono ?_; rintro e wk ⟨rfl, rfl⟩) | (go_at_call 131; refine (KE.out _).mono ?_; rintro e wn ⟨rfl, hbn⟩; replace BX := Lib.hid (show Bxs w wn [(w.heap.size, 24, [.int .i64 c.ti, .int .i64 c.ro, .int .i64 c.ta, .int .i64 c.iv, .int .i64 c.hg, .int .i64 c.lo, .int .i64 c.dw, .int .i64 c.ho, .int .i64 c.sp, .int .i64 c.kp, .int .i64 c.ki, .int .i64 c.kd, .int .i64 c.lm, .int .i64 c.st, .int .i64 c.th, .int .i64 c.rg])] from by first | exact BX.out.below hbn | exact BX.out.drew_.below hbn | exact (BX.out.drewN_ _).below hbn | exact BX.out.drew_.drew_.below hbn | exact BX.out.drew_.drew_.drew_.below hbn); clear hbn))
       all_goals (go_wp2_with fail)
       all_goals (refine bodyPost_ret (v := .int .u8 4) (by simp [results, Tryz.results116, go_sem, *]) rfl ⟨?_, ?_⟩)
       all_goals first | (with_reducible exact BX.out.be) | (with_reducible exact BX.out.drew_.be) | (with_reducible exact BX.out.drew_.drew_.be) | (unfold judgeG; rw [if_neg HR.out, if_neg (by have := HD.out; omega), HE.out, if_pos (by omega)])
     · go_upto_region 5 with fail
       go_region_with (first | (go_at_call 158; refine (KK.out _).mono ?_; rintro e wk ⟨rfl, rfl⟩) | (go_at_call 131; refine (KE.out _).mono ?_; rintro e wn ⟨rfl, hbn⟩; replace BX := Lib.hid (show Bxs w wn [(w.heap.size, 24, [.int .i64 c.ti, .int .i64 c.ro, .int .i64 c.ta, .int .i64 c.iv, .int .i64 c.hg, .int .i64 c.lo, .int .i64 c.dw, .int .i64 c.ho, .int .i64 c.sp, .int .i64 c.kp, .int .i64 c.ki, .int .i64 c.kd, .int .i64 c.lm, .int .i64 c.st, .int .i64 c.th, .int .i64 c.rg])] from by first | exact BX.out.below hbn | exact BX.out.drew_.below hbn | exact (BX.out.drewN_ _).below hbn | exact BX.out.drew_.drew_.below hbn | exact BX.out.drew_.drew_.drew_.below hbn); clear hbn))
       all_goals (go_wp2_with fail)
       all_goals (refine bodyPost_ret (v := .int .u8 0) (by simp [results, Tryz.results116, go_sem, *]) rfl ⟨?_, ?_⟩)
       all_goals first | (with_reducible exact BX.out.be) | (with_reducible exact BX.out.drew_.be) | (with_reducible exact BX.out.drew_.drew_.be) | (unfold judgeG; rw [if_neg HR.out, if_neg (by have := HD.out; omega), HE.out, if_neg (by omega)])
end Go.Proofs.YtcffeokbipjaoaaGreat
