/- FixBack is true of every a and b of 32 bits and q of 64 bits, and changes nothing that it was given. -/
import Derived.Test.YtbmbapklbnhnpabAwakeb
import Derived.Test.YtbmbapklbnhnpabSatb
import Derived.Test.YtbmbapklbnhnpabRow
import Derived.Test.YtbmbapklbnhnpabRows
import Derived.WalkKit
import Derived.ProofKit
import Derived.OpenShut
namespace Go.Proofs.Ytbmbapklbnhnpab.fixBack
open Go.ChangeShapes Go.WideShapes Go.ChangeAt Go.RowKit Kn
set_option linter.unusedVariables false
theorem own : ownKnob Try.prog.godebug = none := by kernel_rfl
theorem back_hi (x y : Int) (hy : ¬ y = 0) (x0 : -1073741824 ≤ x) (x1 : x ≤ 1073741824) : -4611686018427387904 ≤ ratioN x y ∧ ratioN x y ≤ 4611686018427387904 := by
  obtain ⟨h1, h2⟩ := ratio_spec x y hy
  rcases Int.lt_or_gt_of_ne hy with h | h
  · obtain ⟨a, b⟩ := h2 h
    refine ⟨?_, ?_⟩
    · apply Int.not_lt.1; intro hr
      have := Int.mul_le_mul_of_nonpos_right (show ratioN x y + 1 ≤ -4611686018427387904 by omega) (show y ≤ 0 by omega)
      omega
    · apply Int.not_lt.1; intro hr
      have := Int.mul_le_mul_of_nonpos_right (show 4611686018427387905 ≤ ratioN x y by omega) (show y ≤ 0 by omega)
      omega
  · obtain ⟨a, b⟩ := h1 h
    refine ⟨?_, ?_⟩
    · apply Int.not_lt.1; intro hr
      have := Int.mul_le_mul_of_nonneg_right (show ratioN x y + 1 ≤ -4611686018427387904 by omega) (show 0 ≤ y by omega)
      omega
    · apply Int.not_lt.1; intro hr
      have := Int.mul_le_mul_of_nonneg_right (show 4611686018427387905 ≤ ratioN x y by omega) (show 0 ≤ y by omega)
      omega
theorem times_one (q : Int) (q0 : -9223372036854775808 ≤ q) (q1 : q ≤ 9223372036854775807) : sat (prodN q 4294967296) = q := by
  rw [prod_floor, Int.mul_ediv_cancel _ (by decide), sat_id q q0 q1]
theorem over_one (q : Int) (q0 : -9223372036854775808 ≤ q) (q1 : q ≤ 9223372036854775807) : quotN q 4294967296 = q := by
  obtain ⟨h1, _⟩ := ratio_spec q 4294967296 (by decide)
  have := h1 (by decide)
  have e : ratioN q 4294967296 = q := by omega
  unfold quotN
  rw [if_neg (by decide), e, sat_id q q0 q1]
set_option maxHeartbeats 1000000 in
theorem walk (a b q : Int) (w : World) (a0 : -2147483648 ≤ a) (a1 : a ≤ 2147483647) (b0 : -2147483648 ≤ b) (b1 : b ≤ 2147483647) (q0 : -9223372036854775808 ≤ q) (q1 : q ≤ 9223372036854775807) :
    Calls Try.prog 5 #[.int .i32 a, .int .i32 b, .int .i64 q] w fun e w' => e = .returned (.bool true) ∧ Below w.heap.size w w' := by
  obtain ⟨x, hx⟩ : ∃ x, a.tdiv 2 = x := ⟨_, rfl⟩
  have hx2 : x = if 0 ≤ a then a / 2 else -(-a / 2) := by
    rw [← hx]
    split
    · exact Int.tdiv_eq_ediv_of_nonneg ‹_›
    · have := Int.neg_tdiv (-a) 2
      rw [Int.neg_neg] at this
      rw [this, Int.tdiv_eq_ediv_of_nonneg (by omega)]
  have x0 : -1073741824 ≤ x := by rw [hx2]; split <;> omega
  have x1 : x ≤ 1073741824 := by rw [hx2]; split <;> omega
  clear hx2
  have t1 := times_one q q0 q1
  have t2 := over_one q q0 q1
  have p0 : -4611686018427387904 ≤ x * b := by
    by_cases h : 0 ≤ b
    · have := Int.mul_le_mul_of_nonneg_right x0 h
      omega
    · have := Int.mul_le_mul_of_nonpos_right x1 (show b ≤ 0 by omega)
      omega
  have p1 : x * b ≤ 4611686018427387904 := by
    by_cases h : 0 ≤ b
    · have := Int.mul_le_mul_of_nonneg_right x1 h
      omega
    · have := Int.mul_le_mul_of_nonpos_right x0 (show b ≤ 0 by omega)
      omega
  have s1 : sat (x + b) = x + b := sat_id _ (by omega) (by omega)
  have s2 : sat x = x := sat_id _ (by omega) (by omega)
  have s3 : sat (x * b) = x * b := sat_id _ (by omega) (by omega)
  have s4 : sat (-x) = -x := sat_id _ (by omega) (by omega)
  have s5 : sat (x * 4294967296) = x * 4294967296 := sat_id _ (by omega) (by omega)
  have s6 : x * 4294967296 / 4294967296 = x := Int.mul_ediv_cancel _ (by decide)
  have s7 : sat (x + b - b) = x := by rw [Int.add_sub_cancel, s2]
  have s8 : x + b - b = x := Int.add_sub_cancel _ _
  have s9 : sat (- -x) = x := by rw [Int.neg_neg, s2]
  by_cases hz : b = 0
  · subst hz
    have hb := Below.refl w.heap.size w
    go_enter Try.func5, Try.ntmps5
    go_wp2_with (first
      | (go_at_call 6; refine (awakeb _).mono ?_; rintro e wn ⟨rfl, hbn⟩; replace hb := hb.trans (hbn.mono hb.size); clear hbn)
      | (go_at_call 7; refine (fadd_any _ _ _ (by omega) (by omega) (by omega) (by omega)).mono ?_; rintro e w2 ⟨rfl, rfl⟩)
      | (go_at_call 8; refine (fsub_any _ _ _ (by omega) (by omega) (by omega) (by omega)).mono ?_; rintro e w2 ⟨rfl, rfl⟩)
      | (go_at_call 9; refine (fneg_any _ _ (by omega) (by omega)).mono ?_; rintro e w2 ⟨rfl, rfl⟩)
      | (go_at_call 10; refine (fmul_any _ _ _ (by omega) (by omega) (by omega) (by omega)).mono ?_; rintro e wn ⟨rfl, hbn⟩; replace hb := hb.trans (hbn.mono hb.size); clear hbn)
      | (go_at_call 11; refine (qof_any _ _ _ (by omega) (by omega) (by omega) (by omega)).mono ?_; rintro e wn ⟨rfl, hbn⟩; replace hb := hb.trans (hbn.mono hb.size); clear hbn)
      | (go_at_call 17; refine (qtimes_any _ _ _ (by omega) (by omega) (by omega) (by omega)).mono ?_; rintro e wn ⟨rfl, hbn⟩; replace hb := hb.trans (hbn.mono hb.size); clear hbn)
      | (go_at_call 14; refine (ratio_all _ _ _ (by omega) (by omega) (by omega) (by omega)).mono ?_; rintro e wn ⟨rfl, hbn⟩; replace hb := hb.trans (hbn.mono hb.size); clear hbn)
      | (go_at_call 18; refine (qover_any _ _ _ (by omega) (by omega) (by omega) (by omega)).mono ?_; rintro e wn ⟨rfl, hbn⟩; replace hb := hb.trans (hbn.mono hb.size); clear hbn)
      | (go_at_call 15; refine (whole_any _ _ (by omega) (by omega)).mono ?_; rintro e wn ⟨rfl, hbn⟩; replace hb := hb.trans (hbn.mono hb.size); clear hbn)
      | (go_at_call 16; refine (qfloor_any _ _ (by omega) (by omega)).mono ?_; rintro e w2 ⟨rfl, rfl⟩))
    go_ret
    exact ⟨rfl, hb⟩
  · obtain ⟨r, hr⟩ : ∃ r, ratioN x b = r := ⟨_, rfl⟩
    obtain ⟨r0, r1⟩ := back_hi x b hz x0 x1
    obtain ⟨sp1, sp2⟩ := ratio_spec x b hz
    rw [hr] at r0 r1 sp1 sp2
    have eR : quotN x b = r := by unfold quotN; rw [if_neg hz, hr, sat_id _ (by omega) (by omega)]
    clear hr
    obtain ⟨lo, hlo⟩ : ∃ lo, sat (prodN r b) = lo := ⟨_, rfl⟩
    obtain ⟨hi, hhi⟩ : ∃ hi, sat (prodN (r + 1) b) = hi := ⟨_, rfl⟩
    by_cases hn : b < 0
    · obtain ⟨u1, u2⟩ := sp2 hn
      clear sp1 sp2
      have k1 : x ≤ lo := by
        rw [← hlo, ← s2]; apply sat_mono; rw [prod_floor]; omega
      have k2 : hi ≤ x := by
        rw [← hhi, ← s2]; apply sat_mono; rw [prod_floor]; omega
      clear u1 u2
      have hb := Below.refl w.heap.size w
      go_enter Try.func5, Try.ntmps5
      go_wp2_with (first
        | (go_at_call 6; refine (awakeb _).mono ?_; rintro e wn ⟨rfl, hbn⟩; replace hb := hb.trans (hbn.mono hb.size); clear hbn)
        | (go_at_call 7; refine (fadd_any _ _ _ (by omega) (by omega) (by omega) (by omega)).mono ?_; rintro e w2 ⟨rfl, rfl⟩)
        | (go_at_call 8; refine (fsub_any _ _ _ (by omega) (by omega) (by omega) (by omega)).mono ?_; rintro e w2 ⟨rfl, rfl⟩)
        | (go_at_call 9; refine (fneg_any _ _ (by omega) (by omega)).mono ?_; rintro e w2 ⟨rfl, rfl⟩)
        | (go_at_call 10; refine (fmul_any _ _ _ (by omega) (by omega) (by omega) (by omega)).mono ?_; rintro e wn ⟨rfl, hbn⟩; replace hb := hb.trans (hbn.mono hb.size); clear hbn)
        | (go_at_call 11; refine (qof_any _ _ _ (by omega) (by omega) (by omega) (by omega)).mono ?_; rintro e wn ⟨rfl, hbn⟩; replace hb := hb.trans (hbn.mono hb.size); clear hbn)
        | (go_at_call 17; refine (qtimes_any _ _ _ (by omega) (by omega) (by omega) (by omega)).mono ?_; rintro e wn ⟨rfl, hbn⟩; replace hb := hb.trans (hbn.mono hb.size); clear hbn)
        | (go_at_call 14; refine (ratio_all _ _ _ (by omega) (by omega) (by omega) (by omega)).mono ?_; rintro e wn ⟨rfl, hbn⟩; replace hb := hb.trans (hbn.mono hb.size); clear hbn)
        | (go_at_call 18; refine (qover_any _ _ _ (by omega) (by omega) (by omega) (by omega)).mono ?_; rintro e wn ⟨rfl, hbn⟩; replace hb := hb.trans (hbn.mono hb.size); clear hbn)
        | (go_at_call 15; refine (whole_any _ _ (by omega) (by omega)).mono ?_; rintro e wn ⟨rfl, hbn⟩; replace hb := hb.trans (hbn.mono hb.size); clear hbn)
        | (go_at_call 16; refine (qfloor_any _ _ (by omega) (by omega)).mono ?_; rintro e w2 ⟨rfl, rfl⟩))
      go_ret
      exact ⟨rfl, hb⟩
    · obtain ⟨u1, u2⟩ := sp1 (by omega)
      clear sp1 sp2
      have k1 : lo ≤ x := by
        rw [← hlo, ← s2]; apply sat_mono; rw [prod_floor]; omega
      have k2 : x ≤ hi := by
        rw [← hhi, ← s2]; apply sat_mono; rw [prod_floor]; omega
      clear u1 u2
      have hb := Below.refl w.heap.size w
      go_enter Try.func5, Try.ntmps5
      go_wp2_with (first
        | (go_at_call 6; refine (awakeb _).mono ?_; rintro e wn ⟨rfl, hbn⟩; replace hb := hb.trans (hbn.mono hb.size); clear hbn)
        | (go_at_call 7; refine (fadd_any _ _ _ (by omega) (by omega) (by omega) (by omega)).mono ?_; rintro e w2 ⟨rfl, rfl⟩)
        | (go_at_call 8; refine (fsub_any _ _ _ (by omega) (by omega) (by omega) (by omega)).mono ?_; rintro e w2 ⟨rfl, rfl⟩)
        | (go_at_call 9; refine (fneg_any _ _ (by omega) (by omega)).mono ?_; rintro e w2 ⟨rfl, rfl⟩)
        | (go_at_call 10; refine (fmul_any _ _ _ (by omega) (by omega) (by omega) (by omega)).mono ?_; rintro e wn ⟨rfl, hbn⟩; replace hb := hb.trans (hbn.mono hb.size); clear hbn)
        | (go_at_call 11; refine (qof_any _ _ _ (by omega) (by omega) (by omega) (by omega)).mono ?_; rintro e wn ⟨rfl, hbn⟩; replace hb := hb.trans (hbn.mono hb.size); clear hbn)
        | (go_at_call 17; refine (qtimes_any _ _ _ (by omega) (by omega) (by omega) (by omega)).mono ?_; rintro e wn ⟨rfl, hbn⟩; replace hb := hb.trans (hbn.mono hb.size); clear hbn)
        | (go_at_call 14; refine (ratio_all _ _ _ (by omega) (by omega) (by omega) (by omega)).mono ?_; rintro e wn ⟨rfl, hbn⟩; replace hb := hb.trans (hbn.mono hb.size); clear hbn)
        | (go_at_call 18; refine (qover_any _ _ _ (by omega) (by omega) (by omega) (by omega)).mono ?_; rintro e wn ⟨rfl, hbn⟩; replace hb := hb.trans (hbn.mono hb.size); clear hbn)
        | (go_at_call 15; refine (whole_any _ _ (by omega) (by omega)).mono ?_; rintro e wn ⟨rfl, hbn⟩; replace hb := hb.trans (hbn.mono hb.size); clear hbn)
        | (go_at_call 16; refine (qfloor_any _ _ (by omega) (by omega)).mono ?_; rintro e w2 ⟨rfl, rfl⟩))
      go_ret
      exact ⟨rfl, hb⟩
set_option maxRecDepth 100000 in
theorem lifted (os : Os) (started : os.Started) (H : Type) (enc : TypeId × Value → H) :
    ReturnsInHanded {} Try.checked os 5 .any (Rows.fixBackSpec.pre6 enc Try.prog Try.f5 Rows.fixBackRow.domain false) (Rows.fixBackSpec.post enc Try.prog Try.f5 false true false false) := by
  refine returnsInHanded_of_change (C := Try.checked) own started (by kernel_rfl) Try.func5
    (ChangeSpec.witness6 (enc := enc) (C := Try.checked) false ⟨#[], #[.int .i32 0, .int .i32 0, .int .i64 0], []⟩ 8 (by kernel_rfl) (by kernel_rfl) (by kernel_rfl) (by kernel_rfl)) ?_
  intro W base args ds gs before hval0 hW hcnd _
  have hval : ∀ (j : Nat) t v, Try.f5.params[j]? = some t → args[j]? = some v → Value.okWide Try.prog W .any base t v := hval0
  have hW' := hW
  obtain ⟨p, q, hA0, hV, rfl, hfz, hnd⟩ := hW
  have hA : DataW.TrodAll enc Try.prog W 0 (fun _ => true) true Try.f5.params.toList args.toList ds p := hA0
  rw [Try.params5] at hA hval
  obtain ⟨v0, vs0, d0, ds0, p0, q0, hargs, rfl, rfl, h0, r0⟩ := trodAll_cons hA
  obtain ⟨v1, vs1, d1, ds1, p1, q1, rfl, rfl, rfl, h1, r1⟩ := trodAll_cons r0
  obtain ⟨v2, vs2, d2, ds2, p2, q2, rfl, rfl, rfl, h2, r2⟩ := trodAll_cons r1
  obtain ⟨rfl, rfl, rfl⟩ := trodAll_nil r2
  obtain rfl : args = #[v0, v1, v2] := by cases args; simp_all
  obtain ⟨rfl, rfl⟩ := trodVars_none hV
  obtain ⟨a0, rfl, rfl, rfl, w0⟩ := open_int Try.underlying21 (hval 0 _ v0 rfl rfl) h0
  obtain ⟨a1, rfl, rfl, rfl, w1⟩ := open_int Try.underlying21 (hval 1 _ v1 rfl rfl) h1
  obtain ⟨a2, rfl, rfl, rfl, w2⟩ := open_int Try.underlying2 (hval 2 _ v2 rfl rfl) h2
  clear hA0 hval0
  simp only [List.append_nil] at hW'
  obtain ⟨l0, m0⟩ := wf_i32 w0
  obtain ⟨l1, m1⟩ := wf_i32 w1
  obtain ⟨l2, m2⟩ := wf_i64 w2
  refine (walk a0 a1 a2 W l0 m0 l1 m1 l2 m2).mono fun e W' ⟨he, hg⟩ => ?_
  subst he
  exact ⟨_, rfl, post_of_under (pa := []) (pv := []) hW' (fun _ _ _ => (trodAll_cons_mk (shut_bool Try.underlying4 _) trodAll_mk0)) (fun sp _ => (trodAll_cons_mk (shut_int Try.underlying21 w0) (trodAll_cons_mk (shut_int Try.underlying21 w1) (trodAll_cons_mk (shut_int Try.underlying2 w2) trodAll_mk0)))) (fun _ _ => rfl) rfl
    hg (ok_one (by kernel_rfl) rfl (okWide_bool_mk Try.underlying4 _))⟩
theorem over : Rows.fixBackRow.holds Try.pinned (OpenSpec.ofChange Rows.fixBackSpec) :=
  OpenClaim.holds_of_wide 5 Try.f5 rfl rfl rfl rfl rfl rfl rfl ⟨rfl, rfl, rfl, rfl, rfl⟩ rfl rfl rfl rfl rfl (by kernel_rfl) Try.func5 (by kernel_rfl)
    (of_decide_eq_true (by kernel_rfl)) (by unfold Func.isWrapper; first | (rw [if_pos (by decide +kernel)]; kernel_rfl) | (rw [if_neg (by decide +kernel)]; exact ⟨rfl, rfl⟩))
    (fun os started H enc _ => lifted os started H enc)
theorem proved : Rows.FixBackSaid := over
end Go.Proofs.Ytbmbapklbnhnpab.fixBack
