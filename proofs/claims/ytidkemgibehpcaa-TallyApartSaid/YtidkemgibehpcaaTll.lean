/- The document's Same and Spread; the law's filled. -/
import Derived.Test.YtidkemgibehpcaaTlk
import Derived.Test.YtidkemgibehpcaaTlh
import Derived.Test.YtidkemgibehpcaaTli
namespace Go.Proofs.Ytidkemgibehpcaa
open Go.RowKit
set_option linter.unusedVariables false
set_option linter.unusedSimpArgs false
section
variable {w : World} {B B' : Nat} {A A' : Option Addr} {c c' : Nat} {L : List Oc}
set_option maxRecDepth 20000 in
set_option maxHeartbeats 2000000 in
theorem rsame (w : World) (h : RdO w B A L) (h' : RdO w B' A' L) (hB : B ≤ w.heap.size) (hB' : B' ≤ w.heap.size) (hl : L.length ≤ 1000) :
    Calls Try.prog 16 #[.slice A L.length c, .slice A' L.length c'] w fun e w' => e = .returned (.bool true) ∧ Below w.heap.size w w' := by
  obtain ⟨m, hm⟩ : ∃ m, L.length = m := ⟨_, rfl⟩
  have HM := Lib.hid hm
  have HR := Lib.hid h
  have HR' := Lib.hid h'
  rw [hm] at hl ⊢
  clear h h' hm
  go_enter Try.func16, Try.ntmps16
  go_wp2_with fail
  go_loopw [13] (fun s8 wr => ∃ (k : Nat), k ≤ m ∧ s8 = .int .i64 (k : Int) ∧ Below w.heap.size w wr) (fun s _ => m - (intOf s).toNat)
  case atStart => exact ⟨0, Nat.zero_le _, rfl, Below.refl _ _⟩
  case round =>
    obtain ⟨k, hk, rfl, hb⟩ := hrel
    have hsz := hb.size
    by_cases hkm : k < m
    · have hkL : k < L.length := by rw [HM.out]; exact hkm
      obtain ⟨g, off, rfl, hg, r0, r1, r2, r3, r4, r5⟩ := RdO.cells (SeqAt.below HR.out (hb.mono hB)) hkL
      obtain ⟨g', off', rfl, hg', s0, s1, s2, s3, s4, s5⟩ := RdO.cells (SeqAt.below HR'.out (hb.mono hB')) hkL
      obtain ⟨⟨ya, yb, yc, yd, ye, yf⟩, hy⟩ : ∃ y, L[k]! = y := ⟨_, rfl⟩
      rw [hy] at r0 r1 r2 r3 r4 r5 s0 s1 s2 s3 s4 s5
      simp only at r0 r1 r2 r3 r4 r5 s0 s1 s2 s3 s4 s5
      have HB := Lib.hid hb
      have k0 : (0 : Int) ≤ (k : Int) := by omega
      have k1 : (k : Int) < (m : Int) := by omega
      clear hb hy
      go_wp2_with fail
      go_quiet (fail)
      go_wp2_with fail
      exact ⟨⟨k + 1, by omega, by go_num, ⟨HB.out.os, HB.out.tape, HB.out.output, HB.out.size, HB.out.block⟩⟩, by simp [intOf]; omega⟩
    · obtain rfl : k = m := by omega
      go_wp2_with fail
      go_ret
      exact ⟨rfl, hb⟩
theorem okL_filter {f : Oc → Bool} (h : OkL L) : OkL (L.filter f) := fun o ho => h o (List.mem_filter.1 ho).1
theorem okL_take {n : Nat} (h : OkL L) : OkL (L.take n) := fun o ho => h o (List.mem_of_mem_take ho)
theorem okL_drop {n : Nat} (h : OkL L) : OkL (L.drop n) := fun o ho => h o (List.mem_of_mem_drop ho)
theorem cntK_le (k : Nat) : cntK L k ≤ L.length := List.length_filter_le _ _
set_option maxRecDepth 20000 in
set_option maxHeartbeats 4000000 in
theorem rspread (tier : Int) (w : World) (h : RdO w B A L) (hB : B ≤ w.heap.size) (hl : L.length ≤ 1000) (hok : OkL L) :
    Calls Try.prog 15 #[.slice A L.length c, .int .i64 tier] w fun e w' => ∃ v, e = .returned v ∧ w'.ownsRow w.heap.size 3 1 v (topK (L.filter (someB tier 1))) (rowF (cntK (L.filter (someB tier 1))) (topK (L.filter (someB tier 1)))) ∧ Below w.heap.size w w' := by
  obtain ⟨D, hD⟩ : ∃ D, L.filter (someB tier 1) = D := ⟨_, rfl⟩
  have hcs := rsome (c := c) tier 1 w h hB hl
  have hDl : D.length ≤ 1000 := by rw [← hD]; exact Nat.le_trans (List.length_filter_le _ _) hl
  have hDo : OkL D := by rw [← hD]; exact okL_filter hok
  rw [hD] at hcs ⊢
  obtain ⟨lm, hlm⟩ : ∃ lm, L.length = lm := ⟨_, rfl⟩
  rw [hlm] at hcs ⊢
  obtain ⟨m, hm⟩ : ∃ m, D.length = m := ⟨_, rfl⟩
  have HM := Lib.hid hm
  have HCS := Lib.hid hcs
  have HDO := Lib.hid hDo
  rw [hm] at hDl
  obtain ⟨i0, hi, hz0, hz1, hz2⟩ := inf_of intinfo
  have HZ := Lib.hid (And.intro hi (And.intro hz0 (And.intro hz1 hz2)))
  clear h hD hcs hDo hlm hm hl hi hz0 hz1 hz2
  go_enter Try.func15, Try.ntmps15
  go_wp2_with (go_at_call 9; refine HCS.out.mono ?_; rintro e w1 ⟨v1, rfl, ho1, hb1⟩; obtain ⟨A1, c1, rfl, hd1, -⟩ := ho1.rd; rw [HM.out]; have HD1 := Lib.hid hd1; have HB1 := Lib.hid hb1; have hz1 := hb1.size; clear ho1 hb1 hd1)
  go_loopw [7, 19] (fun s7 s19 wr => ∃ (j t : Nat), j ≤ m ∧ s19 = .int .i64 (j : Int) ∧ s7 = .int .i64 ((t : Int) - 1) ∧ t = topK (D.take j) ∧ Below w1.heap.size w1 wr) (fun _ s _ => m - (intOf s).toNat)
  case atStart => exact ⟨0, 0, Nat.zero_le _, rfl, rfl, rfl, Below.refl _ _⟩
  case round =>
    obtain ⟨j, t, hj, rfl, rfl, ht, hb⟩ := hrel
    have hsz := hb.size
    have ht64 : t ≤ 64 := by rw [ht]; exact topK_le (okL_take HDO.out)
    have HB := Lib.hid hb
    have HT := Lib.hid ht
    by_cases hjm : j < m
    · have hjD : j < D.length := by rw [HM.out]; exact hjm
      have hokj := HDO.out.get j
      obtain ⟨g, off, rfl, hg, r0, r1, r2, r3, r4, r5⟩ := RdO.cells (SeqAt.below HD1.out hb) hjD
      obtain ⟨⟨ya, yb, yc, yd, ye, yf⟩, hy⟩ : ∃ y, D[j]! = y := ⟨_, rfl⟩
      rw [hy] at r0 r1 r2 r3 r4 r5 hokj
      simp only at r0 r1 r2 r3 r4 r5
      have htk : topK (D.take (j + 1)) = max t (clsE yf + 1) := by rw [take_snoc_ hjD, topK_snoc, hy, ht]
      obtain ⟨cc, hcc⟩ : ∃ cc, clsE yf = cc := ⟨_, rfl⟩
      rw [hcc] at htk
      have hcc63 : cc ≤ 63 := by rw [← hcc]; exact cls_le hokj.2.2.2.2.2.2
      have hrow := fun w => rrow yf w hokj.2.2.2.2.2.2 hokj.2.2.2.2.2.1
      rw [hcc] at hrow
      have HROW := Lib.hid hrow
      have HTK := Lib.hid htk
      have hmx : max ((t : Int) - 1) (cc : Int) = ((max t (cc + 1) : Nat) : Int) - 1 := by omega
      have k0 : (0 : Int) ≤ (j : Int) := by omega
      have k1 : (j : Int) < (m : Int) := by omega
      clear hb ht hy hokj hrow hcc htk
      go_wp2_with (go_at_call 27; refine (HROW.out _).mono ?_; rintro e w2 ⟨rfl, rfl⟩)
      exact ⟨⟨j + 1, max t (cc + 1), by omega, by go_num, rfl, HTK.out.symm, HB.out.alloc hsz _⟩, by simp [intOf]; omega⟩
    · obtain rfl : j = m := by omega
      have ht2 : t = topK D := by rw [ht, List.take_of_length_le (by rw [HM.out]; exact Nat.le_refl _)]
      have HT2 := Lib.hid ht2
      clear hb ht ht2
      go_wp2_with fail
      obtain ⟨wo, hwo⟩ : ∃ wo, wo = wr := ⟨_, rfl⟩
      rw [← hwo] at HB hsz ⊢
      clear hwo
      clear wr
      go_loopw [5, 10] (fun s5 s10 wr => ∃ (k : Nat) (Ao : Option Addr) (co : Nat), k ≤ t ∧ s10 = .int .i64 (k : Int) ∧ s5 = .slice Ao k co ∧ wr.ownsRow w1.heap.size 3 1 (.slice Ao k co) k (rowF (cntK D) k) ∧ Below w1.heap.size w1 wr) (fun _ s _ => t - (intOf s).toNat)
      case atStart => exact ⟨0, none, 0, Nat.zero_le _, rfl, rfl, World.ownsRow_nil _ _ _ _, HB.out⟩
      case round =>
        obtain ⟨k, Ao, co, hk, rfl, rfl, ho, hbw⟩ := hrel
        have HO := Lib.hid ho
        have HBW := Lib.hid hbw
        clear ho hbw
        by_cases hkt : k < t
        · have hkt2 : (k : Int) ≤ (t : Int) - 1 := by omega
          have ek : decide ((k : Int) ≤ (t : Int) - 1) = true := decide_eq_true hkt2
          go_wp2_with fail
          obtain ⟨wq, hwq⟩ : ∃ wq, wq = wr := ⟨_, rfl⟩
          rw [← hwq] at HO HBW ⊢
          clear hwq
          clear wr
          go_loopw [11, 36] (fun s11 s36 wr => ∃ (i n : Nat), i ≤ j ∧ s36 = .int .i64 (i : Int) ∧ s11 = .int .i64 (n : Int) ∧ n = cntK (D.take i) k ∧ wr.ownsRow w1.heap.size 3 1 (.slice Ao k co) k (rowF (cntK D) k) ∧ Below w1.heap.size w1 wr) (fun _ s _ => j - (intOf s).toNat)
          case atStart => exact ⟨0, 0, Nat.zero_le _, rfl, rfl, rfl, HO.out, HBW.out⟩
          case round =>
            obtain ⟨i, n, hij, rfl, rfl, hn, ho2, hb2⟩ := hrel
            have hsz2 := hb2.size
            have hn1000 : n ≤ 1000 := by rw [hn]; exact Nat.le_trans (cntK_le _) (by rw [List.length_take]; omega)
            have HO2 := Lib.hid ho2
            have HB2 := Lib.hid hb2
            by_cases hilt : i < j
            · have hjD : i < D.length := by rw [HM.out]; exact hilt
              have hokj := HDO.out.get i
              obtain ⟨g, off, rfl, hg, r0, r1, r2, r3, r4, r5⟩ := RdO.cells (SeqAt.below HD1.out hb2) hjD
              obtain ⟨⟨ya, yb, yc, yd, ye, yf⟩, hy⟩ : ∃ y, D[i]! = y := ⟨_, rfl⟩
              rw [hy] at r0 r1 r2 r3 r4 r5 hokj
              simp only at r0 r1 r2 r3 r4 r5
              obtain ⟨cc, hcc⟩ : ∃ cc, clsE yf = cc := ⟨_, rfl⟩
              have htk : cntK (D.take (i + 1)) k = if cc = k then n + 1 else n := by rw [take_snoc_ hjD, cntK_snoc, hy, ← hn]; simp only [hcc]
              have hrow := fun w => rrow yf w hokj.2.2.2.2.2.2 hokj.2.2.2.2.2.1
              rw [hcc] at hrow
              have HROW := Lib.hid hrow
              have HTK := Lib.hid htk
              have k0 : (0 : Int) ≤ (i : Int) := by omega
              have k1 : (i : Int) < (j : Int) := by omega
              have hw2 : IntKind.i64.wrap ((n : Int) + 1) = (n : Int) + 1 := IntWalk.i64_in _ (by omega)
              clear hb2 ho2 hn hy hokj hrow hcc htk
              by_cases hck : cc = k
              · rw [if_pos hck] at HTK
                have hck2 : (cc : Int) = (k : Int) := by omega
                subst hck
                go_wp2_with (go_at_call 27; refine (HROW.out _).mono ?_; rintro e w2 ⟨rfl, rfl⟩)
                exact ⟨⟨i + 1, n + 1, by omega, by go_num, by go_num, HTK.out.symm, HO2.out.alloc _, HB2.out.alloc hsz2 _⟩, by simp [intOf]; omega⟩
              · rw [if_neg hck] at HTK
                have hck2 : ((cc : Int) == (k : Int)) = false := by simp; omega
                go_wp2_with (go_at_call 27; refine (HROW.out _).mono ?_; rintro e w2 ⟨rfl, rfl⟩)
                exact ⟨⟨i + 1, n, by omega, by go_num, rfl, HTK.out.symm, HO2.out.alloc _, HB2.out.alloc hsz2 _⟩, by simp [intOf]; omega⟩
            · obtain rfl : i = j := by omega
              have hn2 : n = cntK D k := by rw [hn, List.take_of_length_le (by rw [HM.out]; exact Nat.le_refl _)]
              have HN2 := Lib.hid hn2
              have hk64 : k ≤ 64 := by omega
              clear hb2 ho2 hn hn2
              go_wp2_with (at_builtin; refine wpList_append_own_at _ rfl (.tmp 48) (.tmp 50) 37 rfl w1.heap.size 3 i0 (.int .i64 0) 1 8 Try.underlying37 HZ.out.1 HZ.out.2.1 HZ.out.2.2.1 HZ.out.2.2.2 rfl (by decide) (.slice Ao k co) k (rowF (cntK D) k) rfl (HO2.out.alloc _) ⟨wr.heap.size, 0, none⟩ 1 1 [.int .i64 (n : Int)] rfl rfl (cell_one_new _ _ _) (by simp [Value.oneCell']) (by have := maxbig; omega) (by omega) (by simp; omega) ?_; intro v5 w5 hown5 hg5 _ _; obtain ⟨g5, c5, rfl⟩ := ownsRow_succ hown5; have HO5 := Lib.hid hown5; have HB5 := Lib.hid ((HB2.out.alloc hsz2 _).grown hg5 (by simp; omega) (fun k e => (HO2.out.lt k e).1)); clear hown5 hg5)
              refine ⟨⟨k + 1, _, c5, by omega, by go_num, rfl, ?_, HB5.out⟩, by simp [intOf]; omega⟩
              rw [rowF_succ, ← HN2.out]; exact HO5.out
        · obtain rfl : k = t := by omega
          have ek : decide ((k : Int) ≤ (k : Int) - 1) = false := decide_eq_false (by omega)
          go_wp2_with fail
          go_ret
          refine ⟨_, rfl, ?_, HB1.out.trans (HBW.out.mono hz1)⟩
          rw [← HT2.out]
          exact own_le HO.out hz1
end
end Go.Proofs.Ytidkemgibehpcaa
