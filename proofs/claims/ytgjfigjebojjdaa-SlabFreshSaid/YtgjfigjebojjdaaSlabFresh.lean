/- SlabFresh is true of every room and every list of keeps, and changes nothing that it was given. -/
import Derived.Test.YtgjfigjebojjdaaFresh
import Derived.Test.YtgjfigjebojjdaaRowb
import Derived.Test.YtgjfigjebojjdaaRows
import Derived.WalkKit
import Derived.ProofKit
import Derived.OpenShut
import Derived.Deep.DeepCutAuto
import Derived.Deep.LoopGhost
namespace Go.Proofs.Ytgjfigjebojjdaa.slabFresh
open Go.ChangeShapes Go.WideShapes Go.ChangeAt Go.RowKit
set_option linter.unusedVariables false
theorem own : ownKnob Try.prog.godebug = none := by kernel_rfl
theorem laidOut : laidOutB Try.prog = true := by kernel_rfl
theorem reads : (Try.f5.params.toList.all fun t => Try.prog.readableRec t && decide (t < Try.prog.types.size)) = true := by kernel_rfl
theorem open_bools {H : Type} {enc : TypeId × Value → H} {w : World} {fuel : Nat} {A : Option Addr} {len cap : Nat} {x : DataW H × List MemPlace} (h : DataW.trod enc Try.prog w 0 (fun _ => true) true fuel 58 [.slice A len cap] = some x) :
    len ≤ cap ∧ cap ≤ maxLen ∧ ∃ K : Nat → Bool, SeqAt w w.heap.size A len 1 (fun i => [.bool (K i)]) ∧ True := open_bools_ Try.underlying58 Try.underlying4 (by kernel_rfl) h
set_option maxRecDepth 100000 in
set_option maxHeartbeats 4000000 in
theorem walk (r : Int) (A : Option Addr) (len cap : Nat) (K : Nat → Bool) (w : World) (hl : len ≤ cap) (hc : cap ≤ maxLen) (hK : SeqAt w w.heap.size A len 1 (fun i => [.bool (K i)])) (_ : True) (r0 : 0 ≤ r) (r1 : r ≤ 255) :
    Calls Try.prog 5 #[.int .u8 r, .slice A len cap] w fun e w' => e = .returned (.bool true) ∧ Below w.heap.size w w' := by
  unfold maxLen at hc
  have hb := Below.refl w.heap.size w
  obtain ⟨n, hn⟩ : ∃ n : Nat, 1 + r % 9 = (n : Int) := ⟨(1 + r % 9).toNat, by omega⟩
  have n0 : 1 ≤ n := by omega
  have n1 : n ≤ 9 := by omega
  have hmm := @run_makeMap Try.prog
  have HN := Lib.hid hn
  have HK := Lib.hid hK
  clear hn hK
  go_enter Try.func5, Try.ntmps5
  go_wp2_with (go_at_call 18; refine (awakes _).mono ?_; rintro e wn ⟨rfl, hbn⟩; replace hb := hb.trans hbn; clear hbn)
  rw [HN.out]
  refine (slnew_yes n _ n0 (by omega)).mono ?_
  rintro e w1 ⟨p, c, f, rfl, hp, hcc, hf, h1, hbn⟩
  have hw := hb.size
  replace hb := hb.trans (hbn.mono hb.size)
  have hw1 := hbn.size
  have H1 := Lib.hid h1
  clear h1 hbn
  go_wp2
  clear hmm
  go_loopg [9, 33] len (fun g s9 s33 wr => ∃ (i m : Nat) (H : Nat → Int) (T : Nat → Bool) (R : Nat → Rq) (F : Nat → Nat) (L G : List Int), i ≤ len ∧ i ≤ 80 ∧ g = len - i ∧ s33 = .int .i64 i ∧
    SlabAt wr p c f n H T R m F ∧ Fresh n m i H T F L G ∧ MapAt wr w1.heap.size L ∧ wr.ownsRow w.heap.size 47 1 s9 G.length (G.map (Value.int .u64)) ∧ Below w.heap.size w wr)
  case atStart =>
    refine ⟨0, n, _, _, _, _, [], [], Nat.zero_le _, by omega, rfl, rfl, (H1.out.alloc_ _).alloc_ _, Fresh.start n (by omega), (MapAt.made w1).alloc _, own_empty _ (by omega) (Blk.new_ (by simp)), (hb.alloc hb.size _).alloc (by have := hb.size; simp; omega) _⟩
  case round =>
    obtain ⟨i, m, H, T, R, F, L, G, hi, hi8, rfl, rfl, hs, hF, hM, hown, hbr⟩ := hrel
    obtain ⟨Al, cl, rfl⟩ := own_form hown
    have HS := Lib.hid hs
    have HF := Lib.hid hF
    have HM := Lib.hid hM
    have HO := Lib.hid hown
    have hnp := hs.lts
    have ⟨hp1, hp2, hp3⟩ := hnp
    have hmb : w1.heap.size < wr.heap.size := hM.lt
    have hmn := hs.mn
    have hcnt := hF.count
    have hll := hF.len
    have HLL := Lib.hid hll
    clear hs hF hM hown hnp hll
    by_cases hil : i < len
    · obtain ⟨kb, ko, rfl, hkb, hkc⟩ := HK.out (by omega)
      have k0 : wr.cell? ⟨kb, ko + i, none⟩ = some (.bool (K i)) := (hbr.cell hkb).trans (by have := hkc i hil 0 (by omega); simpa using this)
      clear hkc
      by_cases h80 : 80 ≤ i
      · have he : ((n : Int) - (m : Int) == (i : Int) - (G.length : Int)) = true := by simp; omega
        go_wp2_with (go_at_call 27; refine (sllen_any _ HS.out).mono ?_; rintro e wn3 ⟨nq, rfl, rfl⟩; have hln := HM.out.lenN nq; rw [HLL.out] at hln)
        go_ret
        exact ⟨rfl, below_drewN_ hbr _⟩
      · cases m with
        | zero =>
          have he : ((i : Int) - (G.length : Int) == (n : Int)) = true := by simp; omega
          go_wp2_with (first
            | (go_at_call 21; refine (sltake_full _ _ _ _ _ _ HS.out).mono ?_; rintro e wn3 ⟨rfl, hb3⟩; have HS3 := Lib.hid (HS.out.below hb3 hp1 hp2 hp3); have HM3 := Lib.hid (HM.out.below hb3 hmb))
            | (go_at_call 27; refine (sllen_any _ HS3.out).mono ?_; rintro e wn4 ⟨nq, rfl, rfl⟩; have hln := HM3.out.lenN nq; rw [HLL.out] at hln))
          go_ret
          exact ⟨rfl, below_drewN_ (hbr.trans (hb3.mono hbr.size)) _⟩
        | succ m =>
          obtain ⟨j, hj⟩ : ∃ j, F m = j := ⟨_, rfl⟩
          have hjn : j < n := by have := HF.out.free m (by omega); omega
          have ⟨cj1, cj2, cj3⟩ := HF.out.cells j hjn
          have ⟨hF2, hnot⟩ := HF.out.take hj
          obtain ⟨q, hq⟩ : ∃ q, H j + 4294967296 = q := ⟨_, rfl⟩
          have q0 : 0 ≤ q := by omega
          have q1 : q ≤ 18446744073709551615 := by omega
          have qm : (q % 4294967296).toNat = j := by omega
          rw [hq] at hF2 hnot
          have HJ := Lib.hid hj
          have HQ := Lib.hid hq
          have HQM := Lib.hid qm
          have HN2 := Lib.hid hnot
          have HF2 := Lib.hid hF2
          have hap : ¬ (w1.heap.size = p ∨ w1.heap.size = c ∨ w1.heap.size = f) := by
            obtain ⟨cs, bc, _, _⟩ := HS.out.rows
            obtain ⟨fs, bf, _, _⟩ := HS.out.frees
            rintro (e | e | e)
            · exact HM.out.noBlk (e ▸ HS.out.head)
            · exact HM.out.noBlk (e ▸ bc)
            · exact HM.out.noBlk (e ▸ bf)
          have HAP := Lib.hid hap
          clear hj hq qm hF2 hnot hap cj1
          obtain ⟨i0, hi0, hz0, hz1, hz2⟩ := info_parts hinfo
          by_cases hk : K i = true
          · rw [hk] at k0
            go_wp2_with (first
              | (go_at_call 21; refine (sltake_any _ _ _ _ _ _ HS.out HJ.out hjn cj2 (by have := HQ.out; omega)).mono ?_; rintro e wn ⟨rfl, h2, k2⟩; rw [HQ.out] at h2 ⊢; have hlk := (HM.out.kept k2 HAP.out).look q0 q1; rw [decide_eq_false HN2.out] at hlk; have HM2 := Lib.hid (HM.out.kept k2 HAP.out); have HO2 := Lib.hid (own_kept HO.out k2 (fun g cs hg => HS.out.apart hg (by decide) (by decide) (by decide))); have HS2 := Lib.hid h2; have hb2 := hbr.trans (k2.below (fun g hg => by omega) hbr.size); have hs2 := k2.size; clear h2 k2)
              | (at_mapUpdate; refine wpList_put rfl _ _ _ rfl HM2.out (by rw [HLL.out]; omega) HN2.out q0 q1 rfl rfl rfl ?_; intro w3 hm3 hg3; have HM3 := Lib.hid hm3; have k3 := (Kept.refl (fun g => g = w1.heap.size) wn).grown hg3 (fun g hg => .inl (by cases hg; rfl)); have HS3 := Lib.hid (HS2.out.kept k3 (fun e => HAP.out (.inl e.symm)) (fun e => HAP.out (.inr (.inl e.symm))) (fun e => HAP.out (.inr (.inr e.symm)))); have HO3 := Lib.hid (own_kept HO2.out k3 (fun g cs hg e => HM2.out.noBlk (e ▸ hg))); have hb3 := hb2.trans (k3.below (fun g hg => by omega) hb2.size); have hs3 := k3.size; clear hlk hm3 hg3 k3))

            go_loopg [90] G.length (fun g s90 wt => ∃ j : Nat, j ≤ G.length ∧ g = G.length - j ∧ s90 = .int .i64 j ∧ Below w3.heap.size w3 wt)
            case atStart => exact ⟨0, Nat.zero_le _, rfl, rfl, Below.refl _ _⟩
            case round =>
              obtain ⟨j2, hj2, rfl, rfl, hbt⟩ := hrel
              by_cases hjl : j2 < G.length
              · obtain ⟨gl, cl', ea, hgl, hll⟩ := own_at HO3.out (by omega)
                simp only [Value.slice.injEq] at ea
                obtain ⟨rfl, -, rfl⟩ := ea
                obtain ⟨kk, hkk⟩ : ∃ kk, G[j2]? = some kk := ⟨_, List.getElem?_eq_getElem (by (try simp); omega)⟩
                have x0 : wr.cell? ⟨gl, j2, none⟩ = some (.int .u64 kk) := (hbt.cell hll).trans ((HO3.out.cellAt j2 (by omega)).trans (by rw [List.getElem?_map, hkk]; rfl))
                have ⟨st1, st2, st3⟩ := HF2.out.stale (by omega) (List.mem_of_getElem? hkk)
                have HT := Lib.hid (HS3.out.below hbt (by omega) (by omega) (by omega))
                have ST := Lib.hid st1
                have KK := Lib.hid hkk
                clear st1 hkk
                go_wp2_with (go_at_call 25; refine (slget_no _ _ HT.out st2 st3 ST.out).mono ?_; rintro e wn2 ⟨rfl, hb3⟩; simp only [rqv])
                go_roundg (G.length - (j2 + 1))
                case measure => omega
                case rel => exact ⟨j2 + 1, by omega, rfl, by go_num, hbt.trans (by repeat (first | with_reducible exact hb3.mono hbt.size | with_reducible apply Below.drew | with_reducible refine below_drewN_ ?_ _ | refine Below.alloc ?_ (by have := hbt.size; have := hb3.size; (try simp); omega) _))⟩
              · go_wp2
                go_roundg (len - (i + 1))
                case measure => omega
                case rel => exact ⟨i + 1, m, _, _, _, _, _, _, by omega, by omega, rfl, by go_num, HS3.out.below hbt (by omega) (by omega) (by omega), HF2.out, HM3.out.below hbt (by omega), own_below HO3.out hbt, hb3.trans (hbt.mono hb3.size)⟩
          · have hkf : K i = false := by simpa using hk
            rw [hkf] at k0
            clear hk hkf
            go_wp2_with (first
              | (go_at_call 21; refine (sltake_any _ _ _ _ _ _ HS.out HJ.out hjn cj2 (by have := HQ.out; omega)).mono ?_; rintro e wn ⟨rfl, h2, k2⟩; rw [HQ.out] at h2 ⊢; have hlk := (HM.out.kept k2 HAP.out).look q0 q1; rw [decide_eq_false HN2.out] at hlk; have HM2 := Lib.hid (HM.out.kept k2 HAP.out); have HO2 := Lib.hid (own_kept HO.out k2 (fun g cs hg => HS.out.apart hg (by decide) (by decide) (by decide))); have HS2 := Lib.hid h2; have hb2 := hbr.trans (k2.below (fun g hg => by omega) hbr.size); have hs2 := k2.size; clear h2 k2)
              | (at_mapUpdate; refine wpList_put rfl _ _ _ rfl HM2.out (by rw [HLL.out]; omega) HN2.out q0 q1 rfl rfl rfl ?_; intro w3 hm3 hg3; have HM3 := Lib.hid hm3; have k3 := (Kept.refl (fun g => g = w1.heap.size) wn).grown hg3 (fun g hg => .inl (by cases hg; rfl)); have HS3 := Lib.hid (HS2.out.kept k3 (fun e => HAP.out (.inl e.symm)) (fun e => HAP.out (.inr (.inl e.symm))) (fun e => HAP.out (.inr (.inr e.symm)))); have HO3 := Lib.hid (own_kept HO2.out k3 (fun g cs hg e => HM2.out.noBlk (e ▸ hg))); have hb3 := hb2.trans (k3.below (fun g hg => by omega) hb2.size); have hs3 := k3.size; clear hlk hm3 hg3 k3)
              | (go_at_call 23; refine (slfree_no _ _ HS4.out q0 q1 (by unfold aliveB; rw [HQM.out]; simp)).mono ?_; rintro e w4n ⟨rfl, nq, rfl⟩)
              | (go_at_call 23; refine (slfree_yes (i := j) _ _ HS3.out q0 q1 (by unfold aliveB; rw [HQM.out]; simp [hjn]) HQM.out (by omega)).mono ?_; rintro e w4 ⟨rfl, h4, k4⟩; have HS4 := Lib.hid h4; have HM4 := Lib.hid (HM3.out.kept k4 HAP.out); have HO4 := Lib.hid (own_kept HO3.out k4 (fun g cs hg => HS3.out.apart hg (by decide) (by decide) (by decide))); have hb4 := hb3.trans (k4.below (fun g hg => by omega) hb3.size); have hs4 := k4.size; clear h4 k4)
              | (at_builtin; refine wpList_append_own _ rfl (.tmp 84) (.tmp 86) 66 rfl w.heap.size 47 i0 (.int .u64 0) 1 8 Try.underlying66 hi0 hz0 hz1 hz2 rfl (by decide) _ _ _ rfl ((own_drewN HO4.out nq).alloc _) ⟨w4.heap.size, 0, none⟩ 1 1 [.int .u64 q] rfl rfl (by intro j u hj; match j, hj with | 0, hj => simp at hj; subst hj; (try simp [Addr.add]); (try exact (Blk.new_ (by simp)).val rfl)) (by intro u hu; simp at hu; subst hu; rfl) (by unfold maxLen; omega) (by omega) (by have := hb4.size; simp; omega) ?_; intro v5 w5 hown5 hg5 _; obtain ⟨A5, c5, rfl⟩ := own_form hown5; have hO5 := hown5; rw [show G.map (Value.int .u64) ++ [Value.int .u64 q] = (G ++ [q]).map (Value.int .u64) by simp] at hO5; have HO5 := Lib.hid hO5; have HOW := Lib.hid ((own_drewN HO4.out nq).alloc (.cells #[.int .u64 q] 47)); have HS5 := Lib.hid (((HS4.out.drewN_ nq).alloc_ (.cells #[.int .u64 q] 47)).grown_ hg5 HOW.out (by decide) (by decide) (by decide)); have HM5 := Lib.hid (((HM4.out.drewN nq).alloc (.cells #[.int .u64 q] 47)).grown hg5 HOW.out); have hb5 := Below.grown ((below_drewN_ hb4 nq).alloc (by have := hb4.size; simp; omega) (.cells #[.int .u64 q] 47)) hg5 (by have := hb4.size; simp; omega) (fun g hg => own_base HOW.out hg); have hs5 := hg5.size; (try simp at hs5); have HF5 := Lib.hid (show Fresh n (m + 1) (i + 1) _ _ _ _ (G ++ [q]) from by have h := HF2.out.drop hjn; have e : (if j = j then q else H j) = q := if_pos rfl; (try dsimp only at h); rw [e] at h; exact h); clear hown5 hO5 hg5))

            go_loopg [90] (G.length + 1) (fun g s90 wt => ∃ j : Nat, j ≤ (G.length + 1) ∧ g = (G.length + 1) - j ∧ s90 = .int .i64 j ∧ Below w5.heap.size w5 wt)
            case atStart => exact ⟨0, Nat.zero_le _, rfl, rfl, Below.refl _ _⟩
            case round =>
              obtain ⟨j2, hj2, rfl, rfl, hbt⟩ := hrel
              by_cases hjl : j2 < (G.length + 1)
              · obtain ⟨gl, cl', ea, hgl, hll⟩ := own_at HO5.out (by omega)
                simp only [Value.slice.injEq] at ea
                obtain ⟨rfl, -, rfl⟩ := ea
                obtain ⟨kk, hkk⟩ : ∃ kk, (G ++ [q])[j2]? = some kk := ⟨_, List.getElem?_eq_getElem (by (try simp); omega)⟩
                have x0 : wr.cell? ⟨gl, j2, none⟩ = some (.int .u64 kk) := (hbt.cell hll).trans ((HO5.out.cellAt j2 (by omega)).trans (by rw [List.getElem?_map, hkk]; rfl))
                have ⟨st1, st2, st3⟩ := HF5.out.stale (by omega) (List.mem_of_getElem? hkk)
                have HT := Lib.hid (HS5.out.below hbt (by omega) (by omega) (by omega))
                have ST := Lib.hid st1
                have KK := Lib.hid hkk
                clear st1 hkk
                go_wp2_with (go_at_call 25; refine (slget_no _ _ HT.out st2 st3 ST.out).mono ?_; rintro e wn2 ⟨rfl, hb3⟩; simp only [rqv])
                go_roundg ((G.length + 1) - (j2 + 1))
                case measure => omega
                case rel => exact ⟨j2 + 1, by omega, rfl, by go_num, hbt.trans (by repeat (first | with_reducible exact hb3.mono hbt.size | with_reducible apply Below.drew | with_reducible refine below_drewN_ ?_ _ | refine Below.alloc ?_ (by have := hbt.size; have := hb3.size; (try simp); omega) _))⟩
              · go_wp2
                go_roundg (len - (i + 1))
                case measure => omega
                case rel => exact ⟨i + 1, (m + 1), _, _, _, _, _, _, by omega, by omega, rfl, by go_num, HS5.out.below hbt (by omega) (by omega) (by omega), HF5.out, HM5.out.below hbt (by omega), (by rw [show (G ++ [q]).length = G.length + 1 by simp]; exact own_below HO5.out hbt), hb5.trans (hbt.mono hb5.size)⟩
    · have he : ((n : Int) - (m : Int) == (i : Int) - (G.length : Int)) = true := by simp; omega
      go_wp2_with (go_at_call 27; refine (sllen_any _ HS.out).mono ?_; rintro e wn3 ⟨nq, rfl, rfl⟩; have hln := HM.out.lenN nq; rw [HLL.out] at hln)
      go_ret
      exact ⟨rfl, below_drewN_ hbr _⟩
set_option maxRecDepth 100000 in
theorem lifted (os : Os) (started : os.Started) (H : Type) (enc : TypeId × Value → H) :
    ReturnsInHanded {} Try.checked os 5 .any (Rows.slabFreshSpec.pre6 enc Try.prog Try.f5 Rows.slabFreshRow.domain false) (Rows.slabFreshSpec.post enc Try.prog Try.f5 false true false false) := by
  refine returnsInHanded_of_change (C := Try.checked) own started (by kernel_rfl) Try.func5
    (ChangeSpec.witness6 (enc := enc) (C := Try.checked) false ⟨#[], #[.int .u8 0, .slice none 0 0], []⟩ 8 (by kernel_rfl) (by kernel_rfl) (by kernel_rfl) (by kernel_rfl)) ?_
  intro W base args ds gs before hval0 hW hcnd _
  have hval : ∀ (j : Nat) t v, Try.f5.params[j]? = some t → args[j]? = some v → Value.okWide Try.prog W .any base t v := hval0
  have hW' := hW
  obtain ⟨p, q, hA0, hV, rfl, hfz, hnd⟩ := hW
  have hA : DataW.TrodAll enc Try.prog W 0 (fun _ => true) true Try.f5.params.toList args.toList ds p := hA0
  rw [Try.params5] at hA hval
  obtain ⟨v0, vs0, d0, ds0, p0, q0, hargs, rfl, rfl, h0, r0⟩ := trodAll_cons hA
  obtain ⟨v1, vs1, d1, ds1, p1, q1, rfl, rfl, rfl, h1, r1⟩ := trodAll_cons r0
  obtain ⟨rfl, rfl, rfl⟩ := trodAll_nil r1
  obtain rfl : args = #[v0, v1] := by cases args; simp_all
  obtain ⟨rfl, rfl⟩ := trodVars_none hV
  obtain ⟨a0, rfl, rfl, rfl, w0⟩ := open_int Try.underlying5 (hval 0 _ v0 rfl rfl) h0
  obtain ⟨A1, len1, cap1, rfl⟩ := okWide_slice Try.underlying58 (hval 1 _ v1 rfl rfl)
  obtain ⟨fu1, g1⟩ := h1
  obtain ⟨s1, t1, Q1, u1, o1⟩ := open_bools g1
  clear hA0 hval0
  obtain ⟨l0, m0⟩ := wf_u8 w0
  refine (walk a0 A1 len1 cap1 Q1 W s1 t1 u1 o1 l0 m0).mono fun e W' ⟨he, hg⟩ => ?_
  subst he
  exact ⟨_, rfl, post_of_law hW' rfl laidOut reads rfl Try.underlying4 rfl rfl rfl hg⟩
theorem over : Rows.slabFreshRow.holds Try.pinned (OpenSpec.ofChange Rows.slabFreshSpec) :=
  OpenClaim.holds_of_wide 5 Try.f5 rfl rfl rfl rfl rfl rfl rfl ⟨rfl, rfl, rfl, rfl, rfl⟩ rfl rfl rfl rfl rfl (by kernel_rfl) Try.func5 (by kernel_rfl)
    (of_decide_eq_true (by kernel_rfl)) (by unfold Func.isWrapper; first | (rw [if_pos (by decide +kernel)]; kernel_rfl) | (rw [if_neg (by decide +kernel)]; exact ⟨rfl, rfl⟩))
    (fun os started H enc _ => lifted os started H enc)
theorem proved : Rows.SlabFreshSaid := over
end Go.Proofs.Ytgjfigjebojjdaa.slabFresh
