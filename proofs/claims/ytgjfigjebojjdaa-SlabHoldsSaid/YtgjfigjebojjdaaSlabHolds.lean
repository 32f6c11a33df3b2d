/- SlabHolds is true of every list of requests and every request, and changes nothing that it was given. -/
import Derived.Test.YtgjfigjebojjdaaSlabd
import Derived.Test.YtgjfigjebojjdaaRowb
import Derived.Test.YtgjfigjebojjdaaRows
import Derived.WalkKit
import Derived.ProofKit
import Derived.OpenShut
import Derived.Deep.DeepCutAuto
namespace Go.Proofs.Ytgjfigjebojjdaa.slabHolds
open Go.ChangeShapes Go.WideShapes Go.ChangeAt Go.RowKit
set_option linter.unusedVariables false
theorem own : ownKnob Try.prog.godebug = none := by kernel_rfl
theorem laidOut : laidOutB Try.prog = true := by kernel_rfl
theorem reads : (Try.f6.params.toList.all fun t => Try.prog.readableRec t && decide (t < Try.prog.types.size)) = true := by kernel_rfl
set_option maxRecDepth 100000 in
set_option maxHeartbeats 4000000 in
theorem walk (A : Option Addr) (len cap : Nat) (Q : Nat → Rq) (a b c d e : Int) (w : World) (hl : len ≤ cap) (hc : cap ≤ maxLen) (hQ : SeqAt w w.heap.size A len 5 (fun i => reqRow (Q i))) (hok : ∀ i, i < len → (Q i).ok) (a0 : 0 ≤ a) (a1 : a ≤ 18446744073709551615) (b0 : -9223372036854775808 ≤ b) (b1 : b ≤ 9223372036854775807) (c0 : -9223372036854775808 ≤ c) (c1 : c ≤ 9223372036854775807) (d0 : -9223372036854775808 ≤ d) (d1 : d ≤ 9223372036854775807) (e0 : -9223372036854775808 ≤ e) (e1 : e ≤ 9223372036854775807) :
    Calls Try.prog 6 #[.slice A len cap, .agg #[.int .u64 a, .int .i64 b, .int .i64 c, .int .i64 d, .int .i64 e]] w fun e w' => e = .returned (.bool true) ∧ Below w.heap.size w w' := by
  unfold maxLen at hc
  have hb := Below.refl w.heap.size w
  have bx := Blk.made w 44 #[.int .u64 a, .int .i64 b, .int .i64 c, .int .i64 d, .int .i64 e]
  by_cases hz : len = 0
  · subst hz
    go_enter Try.func6, Try.ntmps6
    go_wp2_with (go_at_call 18; refine (awakes _).mono ?_; rintro e wn ⟨rfl, hbn⟩; replace hb := (hb.alloc (Nat.le_refl _) _).trans (hbn.mono (by simp)); clear hbn)
    go_ret
    exact ⟨rfl, hb⟩
  obtain ⟨n, hn⟩ : ∃ n, min len 60 = n := ⟨_, rfl⟩
  have n0 : 1 ≤ n := by omega
  have n1 : n ≤ len := by omega
  have n2 : n ≤ 60 := by omega
  obtain ⟨qb, qo, rfl, hqb, hqc⟩ := hQ (by omega)
  have HN := Lib.hid hn
  have HQ := Lib.hid hqc
  clear hn hQ hok a0 a1 b0 b1 c0 c1 d0 d1 e0 e1 hqc
  go_enter Try.func6, Try.ntmps6
  go_upto_region 3 with (go_at_call 18; refine (awakes _).mono ?_; rintro e wn ⟨rfl, hbn⟩; replace bx := bx.below_ hbn bx.size; replace hb := (hb.alloc (Nat.le_refl _) _).trans (hbn.mono (by simp)); clear hbn)
  go_cut [0] (fun s0 wx => s0 = .slice (some ⟨qb, qo, none⟩) n cap ∧ Blk wx w.heap.size 44 #[.int .u64 a, .int .i64 b, .int .i64 c, .int .i64 d, .int .i64 e] ∧ Below w.heap.size w wx)
  case first =>
    by_cases h60 : len ≤ 60
    · obtain rfl : len = n := by have := HN.out; omega
      go_wp2
      go_meet
      exact ⟨rfl, bx, hb⟩
    · obtain rfl : n = 60 := by have := HN.out; omega
      go_wp2
      go_meet
      exact ⟨rfl, bx, hb⟩
  case rest =>
    clear bx hb
    obtain ⟨rfl, bx, hb⟩ := hcut
    go_wp2_with fail
    refine (slnew_yes n _ n0 (by omega)).mono ?_
    rintro e w1 ⟨p, c', f, rfl, hp, hcc, hf, h1, hbn⟩
    replace bx := bx.below_ hbn bx.size
    have hw := hb.size
    replace hb := hb.trans (hbn.mono hb.size)
    have H1 := Lib.hid h1
    clear h1 hbn
    go_wp2
    go_loopw [7, 36] (fun s7 s36 wr => ∃ k m : Nat, k + m = n ∧ s36 = .int .i64 k ∧ wr.ownsRow w.heap.size 47 1 s7 k ((List.range k).map fun j : Nat => Value.int .u64 (4294967296 + (j : Int))) ∧
        SlabAt wr p c' f n (fun j => if j < k then 4294967296 + (j : Int) else (j : Int)) (fun j => decide (j < k)) (fun j => if j < k then Q j else ⟨0, 0, 0, 0, 0⟩) m (fun j => n - 1 - j) ∧
        Blk wr w.heap.size 44 #[.int .u64 a, .int .i64 b, .int .i64 c, .int .i64 d, .int .i64 e] ∧ Below w.heap.size w wr) (fun _ i _ => n - (intOf i).toNat)
    case atStart => exact ⟨0, n, by omega, rfl, World.ownsRow_nil _ _ _ _, H1.out.congr (fun j hj => ⟨by simp, by simp, by simp⟩) (fun j hj => rfl), bx, hb⟩
    case round =>
      obtain ⟨k, m, hkm, rfl, hown, hs, bxr, hbr⟩ := hrel
      by_cases hlt : k < n
      · obtain ⟨m, rfl⟩ : ∃ m', m = m' + 1 := ⟨m - 1, by omega⟩
        have hq : ∀ j, j < 5 → wr.cell? ⟨qb, qo + k * 5 + j, none⟩ = (reqRow (Q k))[j]? := fun j hj => (hbr.cell hqb).trans (HQ.out k (by omega) j hj)
        have q0 : wr.cell? ⟨qb, qo + k * 5, none⟩ = some (.int .u64 (Q k).a) := hq 0 (by omega)
        have q1 : wr.cell? ⟨qb, qo + k * 5 + 1, none⟩ = some (.int .i64 (Q k).b) := hq 1 (by omega)
        have q2 : wr.cell? ⟨qb, qo + k * 5 + 2, none⟩ = some (.int .i64 (Q k).c) := hq 2 (by omega)
        have q3 : wr.cell? ⟨qb, qo + k * 5 + 3, none⟩ = some (.int .i64 (Q k).d) := hq 3 (by omega)
        have q4 : wr.cell? ⟨qb, qo + k * 5 + 4, none⟩ = some (.int .i64 (Q k).e) := hq 4 (by omega)
        have HS := Lib.hid hs
        have HK := Lib.hid hkm
        have hqr : qb < wr.heap.size := by have := hbr.size; omega
        clear hq hs hkm
        obtain ⟨i0, hi0, hz0, hz1, hz2⟩ := info_parts hinfo
        obtain ⟨Al, cl, rfl⟩ := own_form hown
        go_wp2_with (first
          | (go_at_call 21; refine (sltake_any (i := k) _ _ _ _ _ _ (HS.out.alloc_ _) (by have := HK.out; omega) hlt (by simp) (by simp; omega)).mono ?_; rintro e wn ⟨rfl, h2, k2⟩; rw [show (if k < k then 4294967296 + (k : Int) else (k : Int)) + 4294967296 = 4294967296 + (k : Int) by simp; omega]; have HS2 := Lib.hid h2; have HK2 := Lib.hid k2; have hown2 := own_kept (hown.alloc _) k2 (fun g cs hg => (HS.out.alloc_ _).apart hg (by decide) (by decide) (by decide)); have hsz2 := k2.size; (try simp at hsz2); clear h2 k2)
          | (go_at_call 30; refine (slcell_is _ k _ (by omega) (by omega) (by omega)).mono ?_; rintro e w3 ⟨rfl, rfl⟩)
          | (at_builtin; refine wpList_append_own _ rfl (.tmp 55) (.tmp 57) 66 rfl w.heap.size 47 i0 (.int .u64 0) 1 8 Try.underlying66 hi0 hz0 hz1 hz2 rfl (by decide) _ _ _ rfl (hown2.alloc _) ⟨wn.heap.size, 0, none⟩ 1 1 [.int .u64 (4294967296 + (k : Int))] rfl rfl (by intro j u hj; match j, hj with | 0, hj => simp at hj; subst hj; simp [Addr.add]) (by intro u hu; simp at hu; subst hu; rfl) (by unfold maxLen; omega) (by omega) (by have := hbr.size; simp; omega) ?_; intro v3 w3 hown3 hgrow3 _))
        go_roundw
        case rel =>
          have hs3 := ((HS2.out.alloc_ (.cells #[.int .u64 (4294967296 + (k : Int))] 47)).grown_ hgrow3 (hown2.alloc _) (by decide) (by decide) (by decide))
          have hbx := ((((bxr.alloc_ _).kept HK2.out (HS.out.apart bxr (by decide) (by decide) (by decide))).alloc_ (.cells #[.int .u64 (4294967296 + (k : Int))] 47)).grown_ hgrow3 (hown2.alloc _) (by decide))
          refine ⟨k + 1, m, by have := HK.out; omega, by go_num, by rw [List.range_succ, List.map_append]; exact hown3, hs3.congr (fun j hj => ⟨?_, ?_, ?_⟩) (fun _ _ => rfl), hbx, ?_⟩
          · rw [upto_at k j (fun j => 4294967296 + (j : Int)) (j : Int)]
            by_cases e : j = k
            · simp [e]; omega
            · simp [e]
          · by_cases e : j = k
            · simp [e]
            · simp [e]; omega
          · rw [upto_at k j Q _]
          · refine Below.grown (((hbr.alloc (by have := hbr.size; omega) _).trans (HK2.out.below (fun g hg => by omega) (by have := hbr.size; simp; omega))).alloc (by have := hbr.size; omega) _) hgrow3 (by have := hbr.size; simp; omega) (fun g hg => ?_)
            rcases hown2.2 with ⟨h5, _⟩ | ⟨g', cap', cur', h5, h6, _⟩
            · simp only [Value.slice.injEq] at h5
              obtain ⟨rfl, _⟩ := h5
              simp [Act.eval, Value.ownBlock] at hg
            · simp only [Value.slice.injEq] at h5
              obtain ⟨rfl, _⟩ := h5
              simp [Act.eval, Value.ownBlock] at hg
              omega
        case measure => simp [intOf]; omega
      · obtain rfl : k = n := by omega
        obtain rfl : m = 0 := by omega
        have e0 : wr.cell? ⟨w.heap.size, 0, none⟩ = some (.int .u64 a) := bxr.val (i := 0) rfl
        have e1 : wr.cell? ⟨w.heap.size, 1, none⟩ = some (.int .i64 b) := bxr.val (i := 1) rfl
        have e2 : wr.cell? ⟨w.heap.size, 2, none⟩ = some (.int .i64 c) := bxr.val (i := 2) rfl
        have e3 : wr.cell? ⟨w.heap.size, 3, none⟩ = some (.int .i64 d) := bxr.val (i := 3) rfl
        have e4 : wr.cell? ⟨w.heap.size, 4, none⟩ = some (.int .i64 e) := bxr.val (i := 4) rfl
        obtain ⟨gl, cl, rfl, hgl, hll⟩ := own_at hown (by omega)
        have HS := Lib.hid hs
        have HO := Lib.hid hown
        have hl1 := hs.lts.1
        have hl2 := hs.lts.2.1
        have hl3 := hs.lts.2.2
        have hqr : qb < wr.heap.size := by have := hbr.size; omega
        clear hs hown hkm
        obtain ⟨wo, rfl⟩ : ∃ wo, wo = wr := ⟨wr, rfl⟩
        go_wp2_with (go_at_call 21; refine (sltake_full _ _ _ _ _ _ HS.out).mono ?_; rintro e wn ⟨rfl, hb2⟩)
        go_loopw [74] (fun s74 wt => ∃ j : Nat, j ≤ k ∧ s74 = .int .i64 j ∧ Below wo.heap.size wo wt) (fun i _ => k - (intOf i).toNat)
        case atStart => exact ⟨0, Nat.zero_le _, rfl, hb2⟩
        case round =>
          obtain ⟨j, hj, rfl, hbt⟩ := hrel
          by_cases hjk : j < k
          · have x0 : wr.cell? ⟨gl, j, none⟩ = some (.int .u64 (4294967296 + (j : Int))) := (hbt.cell hll).trans ((HO.out.cellAt j (by omega)).trans (by simp [hjk]))
            have hq : ∀ l, l < 5 → wr.cell? ⟨qb, qo + j * 5 + l, none⟩ = (reqRow (Q j))[l]? := fun l hl => (hbt.cell hqr).trans ((hbr.cell hqb).trans (HQ.out j (by omega) l hl))
            have q0 : wr.cell? ⟨qb, qo + j * 5, none⟩ = some (.int .u64 (Q j).a) := hq 0 (by omega)
            have q1 : wr.cell? ⟨qb, qo + j * 5 + 1, none⟩ = some (.int .i64 (Q j).b) := hq 1 (by omega)
            have q2 : wr.cell? ⟨qb, qo + j * 5 + 2, none⟩ = some (.int .i64 (Q j).c) := hq 2 (by omega)
            have q3 : wr.cell? ⟨qb, qo + j * 5 + 3, none⟩ = some (.int .i64 (Q j).d) := hq 3 (by omega)
            have q4 : wr.cell? ⟨qb, qo + j * 5 + 4, none⟩ = some (.int .i64 (Q j).e) := hq 4 (by omega)
            have HT := Lib.hid (HS.out.below hbt hl1 hl2 hl3)
            have hqt : qb < wr.heap.size := by have := hbt.size; omega
            clear hq
            go_wp2_with (go_at_call 25; refine (slget_yes (i := j) _ _ HT.out (by omega) (by omega) (by unfold aliveB; rw [show ((4294967296 + (j : Int)) % 4294967296).toNat = j by omega]; simp [hjk]) (by omega)).mono ?_; rintro e wn2 ⟨rfl, hb3⟩; simp only [rqv, hjk, if_true]; have y0 := (hb3.cell (p := ⟨qb, qo + j * 5, none⟩) hqt).trans q0; have y1 := (hb3.cell (p := ⟨qb, qo + j * 5 + 1, none⟩) hqt).trans q1; have y2 := (hb3.cell (p := ⟨qb, qo + j * 5 + 2, none⟩) hqt).trans q2; have y3 := (hb3.cell (p := ⟨qb, qo + j * 5 + 3, none⟩) hqt).trans q3; have y4 := (hb3.cell (p := ⟨qb, qo + j * 5 + 4, none⟩) hqt).trans q4; have hq2 := Nat.lt_of_lt_of_le hqt hb3.size)
            go_quiet (fail)
            go_wp2
            go_roundw
            case rel => exact ⟨j + 1, by omega, by go_num, hbt.trans (by repeat (first | with_reducible exact hb3.mono hbt.size | with_reducible apply Below.drew | with_reducible refine below_drewN_ ?_ _ | refine Below.alloc ?_ (by have := hbt.size; have := hb3.size; (try simp); omega) _))⟩
            case measure => simp [intOf]; omega
          · obtain rfl : j = k := by omega
            have HT := Lib.hid (HS.out.below hbt hl1 hl2 hl3)
            go_wp2_with (go_at_call 27; refine (sllen_any _ HT.out).mono ?_; rintro e wn2 ⟨nq, rfl, rfl⟩)
            go_ret
            exact ⟨rfl, (hbr.trans (hbt.mono hbr.size)).trans (below_drewN_ (Below.refl _ _) _)⟩
set_option maxRecDepth 100000 in
theorem lifted (os : Os) (started : os.Started) (H : Type) (enc : TypeId × Value → H) :
    ReturnsInHanded {} Try.checked os 6 .any (Rows.slabHoldsSpec.pre6 enc Try.prog Try.f6 Rows.slabHoldsRow.domain false) (Rows.slabHoldsSpec.post enc Try.prog Try.f6 false true false false) := by
  refine returnsInHanded_of_change (C := Try.checked) own started (by kernel_rfl) Try.func6
    (ChangeSpec.witness6 (enc := enc) (C := Try.checked) false ⟨#[], #[.slice none 0 0, .agg #[.int .u64 0, .int .i64 0, .int .i64 0, .int .i64 0, .int .i64 0]], []⟩ 8 (by kernel_rfl) (by kernel_rfl) (by kernel_rfl) (by kernel_rfl)) ?_
  intro W base args ds gs before hval0 hW hcnd _
  have hval : ∀ (j : Nat) t v, Try.f6.params[j]? = some t → args[j]? = some v → Value.okWide Try.prog W .any base t v := hval0
  have hW' := hW
  obtain ⟨p, q, hA0, hV, rfl, hfz, hnd⟩ := hW
  have hA : DataW.TrodAll enc Try.prog W 0 (fun _ => true) true Try.f6.params.toList args.toList ds p := hA0
  rw [Try.params6] at hA hval
  obtain ⟨v0, vs0, d0, ds0, p0, q0, hargs, rfl, rfl, h0, r0⟩ := trodAll_cons hA
  obtain ⟨v1, vs1, d1, ds1, p1, q1, rfl, rfl, rfl, h1, r1⟩ := trodAll_cons r0
  obtain ⟨rfl, rfl, rfl⟩ := trodAll_nil r1
  obtain rfl : args = #[v0, v1] := by cases args; simp_all
  obtain ⟨rfl, rfl⟩ := trodVars_none hV
  obtain ⟨A0, len0, cap0, rfl⟩ := okWide_slice Try.underlying68 (hval 0 _ v0 rfl rfl)
  obtain ⟨fu0, g0⟩ := h0
  obtain ⟨s0, t0, Q0, u0, o0⟩ := open_reqs g0
  obtain ⟨x10, x11, x12, x13, x14, y10, y11, y12, y13, y14, n1, rfl, g10, g11, g12, g13, g14⟩ := open_five Try.underlying44 (by kernel_rfl) (by kernel_rfl) (hval 1 _ v1 rfl rfl) h1
  obtain ⟨a10, e10, ez10, w10⟩ := DataW.trod_int Try.underlying23 g10
  simp at e10
  subst e10
  obtain ⟨a11, e11, ez11, w11⟩ := DataW.trod_int Try.underlying3 g11
  simp at e11
  subst e11
  obtain ⟨a12, e12, ez12, w12⟩ := DataW.trod_int Try.underlying3 g12
  simp at e12
  subst e12
  obtain ⟨a13, e13, ez13, w13⟩ := DataW.trod_int Try.underlying2 g13
  simp at e13
  subst e13
  obtain ⟨a14, e14, ez14, w14⟩ := DataW.trod_int Try.underlying2 g14
  simp at e14
  subst e14
  clear hA0 hval0
  obtain ⟨l10, m10⟩ := wf_u64 w10
  obtain ⟨l11, m11⟩ := wf_i64 w11
  obtain ⟨l12, m12⟩ := wf_i64 w12
  obtain ⟨l13, m13⟩ := wf_i64 w13
  obtain ⟨l14, m14⟩ := wf_i64 w14
  refine (walk A0 len0 cap0 Q0 a10 a11 a12 a13 a14 W s0 t0 u0 o0 l10 m10 l11 m11 l12 m12 l13 m13 l14 m14).mono fun e W' ⟨he, hg⟩ => ?_
  subst he
  exact ⟨_, rfl, post_of_law hW' rfl laidOut reads rfl Try.underlying4 rfl rfl rfl hg⟩
theorem over : Rows.slabHoldsRow.holds Try.pinned (OpenSpec.ofChange Rows.slabHoldsSpec) :=
  OpenClaim.holds_of_wide 6 Try.f6 rfl rfl rfl rfl rfl rfl rfl ⟨rfl, rfl, rfl, rfl, rfl⟩ rfl rfl rfl rfl rfl (by kernel_rfl) Try.func6 (by kernel_rfl)
    (of_decide_eq_true (by kernel_rfl)) (by unfold Func.isWrapper; first | (rw [if_pos (by decide +kernel)]; kernel_rfl) | (rw [if_neg (by decide +kernel)]; exact ⟨rfl, rfl⟩))
    (fun os started H enc _ => lifted os started H enc)
theorem proved : Rows.SlabHoldsSaid := over
end Go.Proofs.Ytgjfigjebojjdaa.slabHolds
