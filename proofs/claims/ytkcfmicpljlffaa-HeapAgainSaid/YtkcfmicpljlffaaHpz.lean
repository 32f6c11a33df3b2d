/- What the document's heap answers as one goes, and who is due. -/
import Derived.Test.YtkcfmicpljlffaaHpy
namespace Go.Proofs.Ytkcfmicpljlffaa
open Go.ChangeShapes Go.WideShapes Go.RowKit
set_option linter.unusedVariables false
set_option linter.unusedSimpArgs false
section
variable {w w' : World} {B k base x n : Nat} {v : Value} {L l : List En} {e b : En}
theorem rem_snoc {i : Int} : remE i (l ++ [b]) = remE i l ++ (if b.m = i then [] else [b]) := by
  unfold remE
  rw [List.filter_append]
  by_cases h : b.m = i <;> simp [h]
theorem due_snoc {key : Int} : dueE key (l ++ [b]) = dueE key l ++ (if b.k ≤ key then [b] else []) := by
  unfold dueE
  rw [List.filter_append]
  by_cases h : b.k ≤ key <;> simp [h]
theorem rrem_out (i : Int) (hi : i < 0 ∨ (n : Int) ≤ i) (w : World) (h : DocL base w x n L) : Calls Try.prog 11 #[.pointer (some ⟨x, 0, none⟩), .int .i64 i] w fun e w' => e = .returned (.int .i64 1) ∧ w = w' := by
  obtain ⟨v, hb, ho⟩ := h.ex
  have q1 := hb.val (i := 1) rfl
  clear h hb ho
  by_cases h0 : i < 0
  · go_enter Try.func11, Try.ntmps11
    go_wp2_with fail
    go_ret
    exact ⟨rfl, rfl⟩
  · have h1 : (n : Int) ≤ i := by omega
    have e0 : decide (i < 0) = false := decide_eq_false h0
    clear hi
    go_enter Try.func11, Try.ntmps11
    go_wp2_with fail
    go_ret
    exact ⟨rfl, rfl⟩
theorem rrem_none {i : Nat} (hi : i < n) (w : World) (h : DocL base w x n L) (hl : L.length ≤ 100000) (hh : hasE (i : Int) L = false) : Calls Try.prog 11 #[.pointer (some ⟨x, 0, none⟩), .int .i64 (i : Int)] w fun e w' => e = .returned (.int .i64 3) ∧ w = w' := by
  obtain ⟨v, hb, ho⟩ := h.ex
  have q1 := hb.val (i := 1) rfl
  have h0 : ¬ (i : Int) < 0 := by omega
  have h1 : ¬ (n : Int) ≤ (i : Int) := by omega
  have e0 : decide ((i : Int) < 0) = false := decide_eq_false h0
  have e1 : decide ((n : Int) ≤ (i : Int)) = false := decide_eq_false h1
  have H := Lib.hid h
  clear h hb ho
  go_enter Try.func11, Try.ntmps11
  go_wp2_with fail
  refine (rfind (i : Int) _ H.out (by omega)).mono ?_
  rintro e w1 ⟨hc, rfl⟩
  rcases hc with ⟨-, rfl⟩ | ⟨k, hk, hkm, -⟩
  · go_wp2_with fail
    go_ret
    exact ⟨rfl, rfl⟩
  · exact absurd hkm ((hasE_no.1 hh) _ (by rw [getElem!_pos L k hk]; exact List.getElem_mem hk))
set_option maxRecDepth 20000 in
set_option maxHeartbeats 4000000 in
theorem rrem_yes {i : Nat} (hi : i < n) (w : World) (h : DocL base w x n L) (hbase : base ≤ w.heap.size) (hl : L.length ≤ 100000) (hh : hasE (i : Int) L = true) (hd : L.Pairwise fun a b => a.m ≠ b.m) : Calls Try.prog 11 #[.pointer (some ⟨x, 0, none⟩), .int .i64 (i : Int)] w fun e w' => e = .returned (.int .i64 0) ∧ DocL base w' x n (remE (i : Int) L) ∧ Kept (fun g => g = x) w w' := by
  obtain ⟨v, hb, ho⟩ := h.ex
  have q1 := hb.val (i := 1) rfl
  have hz := hb.size
  have H := Lib.hid h
  have HX := Lib.hid hb
  have HO := Lib.hid ho
  obtain ⟨m, hmm⟩ : ∃ m, L.length = m := ⟨_, rfl⟩
  have HM := Lib.hid hmm
  have h0 : ¬ (i : Int) < 0 := by omega
  have h1 : ¬ (n : Int) ≤ (i : Int) := by omega
  have e0 : decide ((i : Int) < 0) = false := decide_eq_false h0
  have e1 : decide ((n : Int) ≤ (i : Int)) = false := decide_eq_false h1
  have HD := Lib.hid hd
  clear h hb ho hmm hd
  obtain ⟨i0', hi0, hzz⟩ := Option.map_eq_some_iff.1 rinfe
  simp only [Prod.mk.injEq] at hzz
  obtain ⟨hz0, hz1, hz2⟩ := hzz
  have HZ := Lib.hid (And.intro hi0 (And.intro hz0 (And.intro hz1 hz2)))
  clear hi0 hz0 hz1 hz2
  obtain ⟨A, c, rfl⟩ := own_form HO.out
  have ho := HO.out
  rw [HM.out] at ho
  have hx := HX.out
  rw [HM.out] at hx
  have HO2 := Lib.hid ho
  have HX2 := Lib.hid hx
  have hml : m ≤ 100000 := by rw [← HM.out]; exact hl
  clear ho hx HO HX
  go_enter Try.func11, Try.ntmps11
  go_wp2_with fail
  refine (rfind (i : Int) _ H.out (by omega)).mono ?_
  rintro e w1 ⟨hc, rfl⟩
  rcases hc with ⟨hno, -⟩ | ⟨a, ha, ham, rfl⟩
  · rw [hh] at hno; cases hno
  · have a0 : ¬ (a : Int) < 0 := by omega
    have ea0 : decide ((a : Int) < 0) = false := decide_eq_false a0
    have HA := Lib.hid (And.intro ha ham)
    clear h0 h1 e0 e1 ha ham
    go_wp2_with fail
    go_loopw [6, 7] (fun s6 s7 wr => ∃ (k : Nat) (Ao : Option Addr) (co : Nat) (lo : List En), k ≤ m ∧ s7 = .int .i64 (k : Int) ∧ s6 = .slice Ao lo.length co ∧ lo = remE (i : Int) (L.take k) ∧ lo.length ≤ k ∧ wr.ownsRow w.heap.size 46 3 (.slice Ao lo.length co) lo.length (flatR lo) ∧ Below w.heap.size w wr) (fun _ s _ => m - (intOf s).toNat)
    case atStart => exact ⟨0, none, 0, [], Nat.zero_le _, rfl, rfl, rfl, Nat.le_refl _, World.ownsRow_nil _ _ _ _, Below.refl _ _⟩
    case round =>
      obtain ⟨k, Ao, co, lo, hk, rfl, rfl, hlo, hll, ho, b3⟩ := hrel
      have OO := Lib.hid ho
      have B3 := Lib.hid b3
      have HLO := Lib.hid hlo
      have hsz := b3.size
      clear ho b3 hlo
      have qx : wr.cell? ⟨x, 0, none⟩ = some (.slice A m c) := (B3.out.cell (p := ⟨x, 0, none⟩) hz).trans (HX2.out.val rfl)
      by_cases hlt : k < m
      · have hkL : k < L.length := by rw [HM.out]; exact hlt
        have hts := take_snoc hkL
        have HTS := Lib.hid hts
        clear hts
        by_cases hka : k = a
        · have hkk : (k : Int) = (a : Int) := by omega
          have e5 : remE (i : Int) (L.take (k + 1)) = lo := by rw [HTS.out, rem_snoc, ← HLO.out, hka, if_pos HA.out.2, List.append_nil]
          have HE5 := Lib.hid e5
          clear e5
          subst hka
          go_wp2_with fail
          go_roundw
          case rel => exact ⟨k + 1, Ao, co, lo, by omega, by go_num, rfl, HE5.out.symm, by omega, OO.out, B3.out⟩
          case measure => simp [intOf]; omega
        · have hne : ¬ (k : Int) = (a : Int) := by omega
          obtain ⟨g, c', hv, _, hg, r0, r1, r2⟩ := own_enr HO2.out hlt
          injection hv with hv1 hv2 hv3
          subst hv1 hv3
          obtain ⟨⟨yk, yt, ym⟩, hy⟩ : ∃ y, L[k]! = y := ⟨_, rfl⟩
          rw [hy] at r0 r1 r2
          replace r0 := (B3.out.cell (p := ⟨g, k * 3, none⟩) hg).trans r0
          replace r1 := (B3.out.cell (p := ⟨g, k * 3 + 1, none⟩) hg).trans r1
          replace r2 := (B3.out.cell (p := ⟨g, k * 3 + 2, none⟩) hg).trans r2
          have hym : ym ≠ (i : Int) := by
            intro e
            have h1 : (L[k]!).m = (L[a]!).m := by rw [hy, HA.out.2]; exact e
            rw [getElem!_pos L k hkL, getElem!_pos L a HA.out.1] at h1
            rcases Nat.lt_or_gt_of_ne hka with hl | hl
            · exact (List.pairwise_iff_getElem.1 HD.out) k a hkL HA.out.1 hl h1
            · exact (List.pairwise_iff_getElem.1 HD.out) a k HA.out.1 hkL hl h1.symm
          have e5 : remE (i : Int) (L.take (k + 1)) = lo ++ [(⟨yk, yt, ym⟩ : En)] := by rw [HTS.out, rem_snoc, ← HLO.out, hy, if_neg hym]
          have HE5 := Lib.hid e5
          have k0 : (0 : Int) ≤ (k : Int) := by omega
          have k1 : (k : Int) < (m : Int) := by omega
          clear hy hv2 e5 hym
          go_upto_region 9 with (at_builtin; refine wpList_append_own _ rfl (.tmp 35) (.tmp 43) 29 rfl (w.heap.size) 46 i0' (.agg #[.int .i64 0, .int .i64 0, .int .u64 0]) 3 24 Try.underlying29 HZ.out.1 HZ.out.2.1 HZ.out.2.2.1 HZ.out.2.2.2 rfl (by decide) (.slice Ao (lo.length) co) (lo.length) (flatR lo) rfl (OO.out.alloc _) ⟨wr.heap.size, 0, none⟩ 1 1 [.int .i64 ym, .int .i64 yk, .int .u64 yt] rfl rfl (by intro j u hj; match j, hj with | 0, hj => simp at hj; subst hj; exact (Blk.new_ (by simp)).val rfl | 1, hj => simp at hj; subst hj; exact (Blk.new_ (by simp)).val rfl | 2, hj => simp at hj; subst hj; exact (Blk.new_ (by simp)).val rfl) (by intro u hu; simp at hu; rcases hu with rfl | rfl | rfl <;> rfl) (by unfold maxLen; omega) (by omega) (by simp; omega) ?_; intro v7 w7 hown7 hg7 _; have HO7 := Lib.hid hown7; have HG7 := Lib.hid hg7; clear hown7 hg7)
          have hlo2 : (lo ++ [(⟨yk, yt, ym⟩ : En)]).length = lo.length + 1 := by simp
          obtain ⟨A7, c7, rfl⟩ := own_form HO7.out
          have o7 : w7.ownsRow w.heap.size 46 3 (.slice A7 (lo ++ [(⟨yk, yt, ym⟩ : En)]).length c7) (lo ++ [(⟨yk, yt, ym⟩ : En)]).length (flatR (lo ++ [(⟨yk, yt, ym⟩ : En)])) := by rw [hlo2, flatR_append, flatR_one]; exact HO7.out
          have b7 : Below w.heap.size w w7 := (B3.out.alloc B3.out.size _).grown HG7.out (by have := B3.out.size; simp; omega) (fun g' e => own_base OO.out e)
          have O7 := Lib.hid o7
          have B7 := Lib.hid b7
          rw [← hlo2]
          clear o7 b7 HO7 HG7 qx r0 r1 r2 OO B3
          go_wp2_with fail
          go_roundw
          case rel => exact ⟨k + 1, A7, c7, lo ++ [(⟨yk, yt, ym⟩ : En)], by omega, by go_num, by first | rfl | (simp; done), HE5.out.symm, by simp; omega, O7.out, B7.out⟩
          case measure => simp [intOf]; omega
      · obtain rfl : k = m := by omega
        have htk : L.take k = L := List.take_of_length_le (by rw [HM.out]; exact Nat.le_refl _)
        have hq : lo = remE (i : Int) L := by rw [HLO.out, htk]
        have zx : wr.frozen? ⟨x, 0, none⟩ = false := (HX2.out.below_ B3.out hz).free 0
        have HQ := Lib.hid hq
        clear htk hq
        go_wp2_with fail
        go_ret
        refine ⟨rfl, ⟨.slice Ao lo.length co, ?_, ?_⟩, (show Kept (fun g => g = x) w (wr.setCell ⟨x, 0, none⟩ (.slice Ao lo.length co)) from (Kept.of_below (own := fun g => g = x) B3.out).set_ (p := ⟨x, 0, none⟩) (.inl rfl) _)⟩
        · have := (HX2.out.below_ B3.out hz).set_ 0 (.slice Ao lo.length co)
          simpa using this
        · rw [← HQ.out]
          exact own_kept (own := fun g => g = x) (own_le OO.out hbase) (show Kept (fun g => g = x) wr (wr.setCell ⟨x, 0, none⟩ (.slice Ao lo.length co)) from (Kept.refl (fun g => g = x) wr).set_ (p := ⟨x, 0, none⟩) (.inl rfl) _) (fun g cs hg e => Blk.other hg (HX2.out.below_ B3.out hz) (by decide) e)
set_option maxRecDepth 20000 in
set_option maxHeartbeats 4000000 in
theorem rdue (key : Int) (w : World) (h : DocL base w x n L) (hl : L.length ≤ 100000) : Calls Try.prog 15 #[.pointer (some ⟨x, 0, none⟩), .int .i64 key] w fun e w' => ∃ v, e = .returned v ∧ w'.ownsRow w.heap.size 3 1 v (dueE key L).length (intL ((dueE key L).map fun e => e.m)) ∧ Below w.heap.size w w' := by
  obtain ⟨v, hb, ho⟩ := h.ex
  have hz := hb.size
  have HX := Lib.hid hb
  have HO := Lib.hid ho
  obtain ⟨m, hmm⟩ : ∃ m, L.length = m := ⟨_, rfl⟩
  have HM := Lib.hid hmm
  clear h hb ho hmm
  obtain ⟨i0', hi0, hzz⟩ := Option.map_eq_some_iff.1 hinfo
  simp only [Prod.mk.injEq] at hzz
  obtain ⟨hz0, hz1, hz2⟩ := hzz
  have HZ := Lib.hid (And.intro hi0 (And.intro hz0 (And.intro hz1 hz2)))
  clear hi0 hz0 hz1 hz2
  obtain ⟨A, c, rfl⟩ := own_form HO.out
  have ho := HO.out
  rw [HM.out] at ho
  have hx := HX.out
  rw [HM.out] at hx
  have HO2 := Lib.hid ho
  have HX2 := Lib.hid hx
  have hml : m ≤ 100000 := by rw [← HM.out]; exact hl
  clear ho hx HO HX
  go_enter Try.func15, Try.ntmps15
  go_wp2_with fail
  go_loopw [5, 6] (fun s5 s6 wr => ∃ (k : Nat) (Ao : Option Addr) (co ln : Nat) (lo : List Int), k ≤ m ∧ s6 = .int .i64 (k : Int) ∧ s5 = .slice Ao ln co ∧ ln = lo.length ∧ lo = (dueE key (L.take k)).map (fun e => e.m) ∧ ln ≤ k ∧ wr.ownsRow w.heap.size 3 1 (.slice Ao ln co) ln (intL lo) ∧ Below w.heap.size w wr) (fun _ s _ => m - (intOf s).toNat)
  case atStart => exact ⟨0, none, 0, 0, [], Nat.zero_le _, rfl, rfl, rfl, rfl, Nat.le_refl _, World.ownsRow_nil _ _ _ _, Below.refl _ _⟩
  case round =>
    obtain ⟨k, Ao, co, ln, lo, hk, rfl, rfl, hln, hlo, hll, ho, b3⟩ := hrel
    have OO := Lib.hid ho
    have B3 := Lib.hid b3
    have HLO := Lib.hid (And.intro hln hlo)
    have hsz := b3.size
    clear ho b3 hlo hln
    have qx : wr.cell? ⟨x, 0, none⟩ = some (.slice A m c) := (B3.out.cell (p := ⟨x, 0, none⟩) hz).trans (HX2.out.val rfl)
    by_cases hlt : k < m
    · have hkL : k < L.length := by rw [HM.out]; exact hlt
      have hts := take_snoc hkL
      obtain ⟨g, c', hv, _, hg, r0, r1, r2⟩ := own_enr HO2.out hlt
      injection hv with hv1 hv2 hv3
      subst hv1 hv3
      obtain ⟨⟨yk, yt, ym⟩, hy⟩ : ∃ y, L[k]! = y := ⟨_, rfl⟩
      rw [hy] at r0 r1 r2 hts
      have HTS := Lib.hid hts
      replace r0 := (B3.out.cell (p := ⟨g, k * 3, none⟩) hg).trans r0
      replace r1 := (B3.out.cell (p := ⟨g, k * 3 + 1, none⟩) hg).trans r1
      have k0 : (0 : Int) ≤ (k : Int) := by omega
      have k1 : (k : Int) < (m : Int) := by omega
      clear hy hv2 hts r2
      by_cases hkk : yk ≤ key
      · have e5 : (dueE key (L.take (k + 1))).map (fun e => e.m) = lo ++ [ym] := by rw [HTS.out, due_snoc, if_pos hkk, List.map_append, ← HLO.out.2]; rfl
        have HE5 := Lib.hid e5
        clear e5
        go_upto_region 4 with (at_builtin; refine wpList_append_own _ rfl (.tmp 26) (.tmp 35) 40 rfl (w.heap.size) 3 i0' (.int .i64 0) 1 8 Try.underlying40 HZ.out.1 HZ.out.2.1 HZ.out.2.2.1 HZ.out.2.2.2 rfl (by decide) (.slice Ao (ln) co) (ln) (intL lo) rfl (OO.out.alloc _) ⟨wr.heap.size, 0, none⟩ 1 1 [.int .i64 ym] rfl rfl (by intro j u hj; match j, hj with | 0, hj => simp at hj; subst hj; exact (Blk.new_ (by simp)).val rfl) (by intro u hu; simp at hu; subst hu; rfl) (by unfold maxLen; omega) (by omega) (by simp; omega) ?_; intro v7 w7 hown7 hg7 _; have HO7 := Lib.hid hown7; have HG7 := Lib.hid hg7; clear hown7 hg7)
        have hlo2 : (lo ++ [ym]).length = ln + 1 := by rw [HLO.out.1]; simp
        obtain ⟨A7, c7, rfl⟩ := own_form HO7.out
        have o7 : w7.ownsRow w.heap.size 3 1 (.slice A7 (ln + 1) c7) (ln + 1) (intL (lo ++ [ym])) := by have := HO7.out; unfold intL at this ⊢; rw [List.map_append]; exact this
        have b7 : Below w.heap.size w w7 := (B3.out.alloc B3.out.size _).grown HG7.out (by have := B3.out.size; simp; omega) (fun g' e => own_base OO.out e)
        have O7 := Lib.hid o7
        have B7 := Lib.hid b7
        have HL2 := Lib.hid hlo2
        clear o7 b7 HO7 HG7 qx r0 r1 OO B3 hlo2
        go_wp2_with fail
        go_roundw
        case rel => exact ⟨k + 1, A7, c7, ln + 1, lo ++ [ym], by omega, by go_num, rfl, HL2.out.symm, HE5.out.symm, by omega, O7.out, B7.out⟩
        case measure => simp [intOf]; omega
      · have e6 : decide (yk ≤ key) = false := decide_eq_false hkk
        have e5 : (dueE key (L.take (k + 1))).map (fun e => e.m) = lo := by rw [HTS.out, due_snoc, if_neg hkk, List.append_nil, ← HLO.out.2]
        have HE5 := Lib.hid e5
        clear e5
        go_wp2_with fail
        go_roundw
        case rel => exact ⟨k + 1, Ao, co, ln, lo, by omega, by go_num, rfl, HLO.out.1, HE5.out.symm, by omega, OO.out, B3.out⟩
        case measure => simp [intOf]; omega
    · obtain rfl : k = m := by omega
      have htk : L.take k = L := List.take_of_length_le (by rw [HM.out]; exact Nat.le_refl _)
      go_wp2_with fail
      go_ret
      obtain ⟨h1, h2⟩ := HLO.out
      rw [htk] at h2
      have o := OO.out
      subst h2
      rw [List.length_map] at h1
      subst h1
      exact ⟨_, rfl, o, B3.out⟩
end
end Go.Proofs.Ytkcfmicpljlffaa
