/- ConfLong's walk. -/
import Derived.Test.YtbajmmgdnegoiaaDoorCtm
import Derived.Test.YtbajmmgdnegoiaaDoorCnu
import Derived.Test.YtbajmmgdnegoiaaDoorCnob
import Derived.Laws.IdiomStrings
namespace Go.Proofs.YtbajmmgdnegoiaaDoor
open Go.ChangeShapes Go.WideShapes Go.ChangeAt Go.RowKit Kn
set_option linter.unusedVariables false
set_option linter.unusedSimpArgs false
def fillL (n k : Nat) : List Value := List.replicate k (.int .u8 35) ++ List.replicate (n - k) (.int .u8 0)
theorem fillL_len (n k : Nat) (h : k ≤ n) : (fillL n k).length = n := by unfold fillL; simp; omega
theorem fillL_set (n k : Nat) (h : k < n) : (fillL n k).set k (.int .u8 35) = fillL n (k + 1) := by
  unfold fillL
  obtain ⟨d, hd⟩ : ∃ d, n - k = d + 1 := ⟨n - k - 1, by omega⟩
  rw [hd, show n - (k + 1) = d by omega, List.set_append_right _ _ (by simp), List.length_replicate, Nat.sub_self, List.replicate_succ, List.set_cons_zero, List.replicate_succ']
  simp
theorem fillL_at (n k : Nat) (h : k < n) : (fillL n k)[k]? = some (.int .u8 0) := by
  unfold fillL
  obtain ⟨d, hd⟩ : ∃ d, n - k = d + 1 := ⟨n - k - 1, by omega⟩
  rw [hd, List.getElem?_append_right (by simp), List.length_replicate, Nat.sub_self, List.replicate_succ]
  rfl
theorem fillL_all (n : Nat) : fillL n n = List.replicate n (.int .u8 35) := by unfold fillL; simp
abbrev bT : TypeId := 5
theorem byt_info : (Tryd.prog.info? bT).map (fun i => (i.zero, i.size, i.bytes)) = some (some (.int .u8 0), 1, 1) := by kernel_rfl
/-- The two readings of a text are one. -/
theorem two_ends (s : ByteArray) : endE (rlinesE (linesF s.data.toList) (fun _ => false) dfv) = endE (linesE (s.size + 1) s (fun _ => false) dfv) := by rw [lines_text]
set_option maxRecDepth 20000 in
set_option maxHeartbeats 8000000 in
theorem walkl (s : ByteArray) (m : Int) (w : World) (hs : Std w) (hm : s.size ≤ 9223372036854775807) (m0 : 0 ≤ m) (m1 : m ≤ 65535) :
    Calls Tryd.prog 6 #[.string s, .int .u16 m] w fun e w' => e = .returned (.bool true) ∧ Below w.heap.size w w' := by
  have HS := Lib.hid hs
  clear hs
  obtain ⟨i0, hi, hz0, hz1, hz2⟩ := inf_of byt_info
  have HI := Lib.hid (And.intro hi (And.intro hz0 (And.intro hz1 hz2)))
  clear hi hz0 hz1 hz2
  obtain ⟨r, hr⟩ : ∃ r : Nat, m.toNat % 3 = r := ⟨_, rfl⟩
  have hr3 : r < 3 := by omega
  have f2 : m.tmod 3 = (r : Int) := by rw [Int.tmod_eq_emod_of_nonneg m0]; omega
  have f3 : IntKind.i64.wrap (r : Int) = (r : Int) := IntWalk.i64_in _ (by omega)
  clear hr
  by_cases h100 : 100 < s.size
  · have g1 : 100 < (s.size : Int) := by omega
    have g1' : decide (100 < (s.size : Int)) = true := decide_eq_true g1
    obtain ⟨S, hS⟩ : ∃ S, s.extract 0 100 = S := ⟨_, rfl⟩
    have hS100 : S.size ≤ 100 := by rw [← hS, ByteArray.size_extract]; omega
    have HSS := Lib.hid hS
    have g2 : (100 : Int) ≤ (s.size : Int) := by omega
    clear hS
    obtain ⟨d0, hd0⟩ : ∃ d0 : Nat, 20000 - S.size = d0 := ⟨_, rfl⟩
    obtain ⟨n, hn⟩ : ∃ n : Nat, d0 + r = n := ⟨_, rfl⟩
    have f1 : IntKind.i64.wrap (20000 - (S.size : Int)) = (d0 : Int) := by rw [IntWalk.i64_in _ (by omega)]; omega
    have f4 : IntKind.i64.wrap ((d0 : Int) + (r : Int)) = (n : Int) := by rw [IntWalk.i64_in _ (by omega)]; omega
    have hns : n + S.size = 20000 + r := by omega
    have HNS := Lib.hid hns
    have hn20 : n ≤ 20002 := by omega
    clear hd0 hn hns
    go_enter Tryd.func6, Tryd.ntmps6
    go_wp2_with fail
    refine (awake13 _ HS.out).mono ?_
    rintro e x1 ⟨rfl, hb1⟩
    have HB1 := Lib.hid hb1
    have hb1s := hb1.size
    clear hb1
    have hSS := HSS.out
    go_wp2_with (refine wpList_make_full _ rfl (.tmp 26) (.tmp 26) 49 rfl w.heap.size bT i0 (.int .u8 0) 1 Tryd.underlying49 HI.out.1 HI.out.2.1 HI.out.2.2.1 .i64 .i64 (n : Int) (n : Int) n rfl rfl rfl rfl (by rw [HI.out.2.2.2]; omega) (by unfold maxLen; omega) hb1s ?_; intro x2 hown hg2; have HO2 := Lib.hid hown; have HB2 := Lib.hid (HB1.out.grown hg2 hb1s (fun k hk => by cases hk)); clear hown hg2)
    have HO3 := Lib.hid (show x2.ownsRow w.heap.size bT 1 (.slice (some ⟨x1.heap.size, 0, none⟩) n n) n (fillL n 0) by
      have h := HO2.out
      rw [Nat.mul_one] at h
      have e : (Value.int .u8 0).cells = #[Value.int .u8 0] := rfl
      rw [e, toList_madeCells_one] at h
      exact h)
    clear HO2
    go_loopw [30] (fun s30 wr => ∃ k : Nat, k ≤ n ∧ s30 = .int .i64 (k : Int) ∧ wr.ownsRow w.heap.size bT 1 (.slice (some ⟨x1.heap.size, 0, none⟩) n n) n (fillL n k) ∧ Below w.heap.size w wr) (fun s _ => 20003 - (intOf s).toNat)
    case atStart => exact ⟨0, Nat.zero_le _, rfl, HO3.out, HB2.out⟩
    case round =>
      clear HO3 HB2
      obtain ⟨k, hk, rfl, ho, hb⟩ := hrel
      have HO := Lib.hid ho
      have HB := Lib.hid hb
      clear ho hb
      have k0 : (0 : Int) ≤ (k : Int) := by omega
      have kw : IntKind.i64.wrap ((k : Int) + 1) = (k : Int) + 1 := IntWalk.i64_in _ (by omega)
      by_cases hkn : k < n
      · have k1 : (k : Int) < (n : Int) := by omega
        have c0 : wr.cell? ⟨x1.heap.size, k, none⟩ = some (.int .u8 0) := by rw [HO.out.cellAt k (by omega)]; exact fillL_at n k hkn
        have z0 : wr.frozen? ⟨x1.heap.size, k, none⟩ = false := HO.out.frozenAt k
        have st := (HO.out.stored k (.int .u8 35)).1
        rw [fillL_set n k hkn] at st
        have ST := Lib.hid st
        clear st
        go_wp2_with fail
        go_roundw
        case rel => exact ⟨k + 1, by omega, by go_num, ST.out, HB.out.setCell hb1s _⟩
        case measure => simp [intOf]; omega
      · have e : k = n := by omega
        subst e
        have k1 : ¬ (k : Int) < (k : Int) := by omega
        have hrep : ∀ (W : World), Below wr.heap.size wr W → (convert 49 9 (.slice (some ⟨x1.heap.size, 0, none⟩) k k)).run Tryd.prog W = .ok (.string (mkT (List.replicate k 35))) W := by
          intro W hW
          have h := run_convert_bytes_back W 49 9 5 ⟨x1.heap.size, 0, none⟩ k (List.replicate k 35) Tryd.underlying49 Tryd.underlying5 Tryd.underlying9 (fun j hj => by
            rw [List.length_replicate] at hj
            have c1 : wr.cell? ⟨x1.heap.size, j, none⟩ = some (.int .u8 35) := by
              rw [HO.out.cellAt j (by omega), fillL_all, List.getElem?_replicate, if_pos hj]
            have e : (⟨x1.heap.size, 0, none⟩ : Addr).add j = ⟨x1.heap.size, j, none⟩ := by unfold Addr.add; split <;> simp_all
            rw [e, (hW.cell (p := ⟨x1.heap.size, j, none⟩) (klt c1))]
            rw [c1, List.getElem_replicate]
            rfl)
          rw [List.length_replicate] at h
          exact h
        have HREP := Lib.hid hrep
        have hcv := hrep wr (Below.refl _ _)
        clear hrep
        have hTs : (mkT (List.replicate k 35) ++ S).size = 20000 + r := by rw [ByteArray.size_append, mkT_size, List.length_replicate]; exact HNS.out
        have hq : (mkT (List.replicate k 35)).size = k := by rw [mkT_size, List.length_replicate]
        obtain ⟨P, hP⟩ : ∃ P, mkT (List.replicate k 35) = P := ⟨_, rfl⟩
        rw [hP] at hTs hq hcv HREP
        have hcat : ¬ 9223372036854775807 < P.size + S.size := by omega
        obtain ⟨T, hT⟩ : ∃ T, P ++ S = T := ⟨_, rfl⟩
        rw [hT] at hTs
        clear hP hq
        by_cases hr0 : r = 0
        · subst hr0
          have HPR := Lib.hid (fun (wq : World) (h : Std wq) => parse_short T (by omega) wq h)
          have HRP := Lib.hid (fun (wq : World) => rparse T (by omega) wq)
          have HTE := Lib.hid (two_ends T)
          obtain ⟨E, hE⟩ : ∃ E, endE (linesE (T.size + 1) T (fun _ => false) dfv) = E := ⟨_, rfl⟩
          obtain ⟨V, hV⟩ : ∃ V, endV (linesE (T.size + 1) T (fun _ => false) dfv) = V := ⟨_, rfl⟩
          rw [hE, hV] at HPR
          rw [hE] at HTE
          obtain ⟨E2, hE2⟩ : ∃ E, endE (rlinesE (linesF T.data.toList) (fun _ => false) dfv) = E := ⟨_, rfl⟩
          rw [hE2] at HRP HTE
          have hEE := HTE.out
          subst hEE
          clear hE hV hE2 HTE hTs
          go_wp2_with fail
          refine (HPR.out _ (HS.out.below HB.out)).mono ?_
          rintro e x5 ⟨rfl, hb5⟩
          have hcv5 := HREP.out _ (hb5.alloc hb5.size (.cells (cfL V).toArray 24))
          have HB5 := Lib.hid ((HB.out.trans (hb5.mono HB.out.size)).alloc (by have := HB.out.size; have := hb5.size; omega) (.cells (cfL V).toArray 24))
          clear hb5 hcv
          (simp only [cfL] at hcv5 HB5)
          go_wp2_with fail
          refine (HRP.out _).mono ?_
          rintro e x6 ⟨⟨lv, rfl⟩, hb6⟩
          go_wp2_with fail
          go_ret
          exact ⟨by trivial, HB5.out.trans (hb6.mono HB5.out.size)⟩
        · have HPR := Lib.hid (fun (wq : World) => parse_long T (by omega) wq)
          have rp : (0 : Int) < (r : Int) := by omega
          have rp' : decide ((0 : Int) < (r : Int)) = true := decide_eq_true rp
          clear hTs
          go_wp2_with fail
          refine (HPR.out _).mono ?_
          rintro e x5 ⟨rfl, hb5⟩
          go_wp2_with fail
          go_ret
          exact ⟨rfl, (HB.out.trans (hb5.mono HB.out.size)).alloc (by have := HB.out.size; have := hb5.size; omega) _⟩
  · have g1 : ¬ 100 < (s.size : Int) := by omega
    have g1' : decide (100 < (s.size : Int)) = false := decide_eq_false g1
    have hS100 : s.size ≤ 100 := by omega
    obtain ⟨d0, hd0⟩ : ∃ d0 : Nat, 20000 - s.size = d0 := ⟨_, rfl⟩
    obtain ⟨n, hn⟩ : ∃ n : Nat, d0 + r = n := ⟨_, rfl⟩
    have f1 : IntKind.i64.wrap (20000 - (s.size : Int)) = (d0 : Int) := by rw [IntWalk.i64_in _ (by omega)]; omega
    have f4 : IntKind.i64.wrap ((d0 : Int) + (r : Int)) = (n : Int) := by rw [IntWalk.i64_in _ (by omega)]; omega
    have hns : n + s.size = 20000 + r := by omega
    have HNS := Lib.hid hns
    have hn20 : n ≤ 20002 := by omega
    clear hd0 hn hns
    go_enter Tryd.func6, Tryd.ntmps6
    go_wp2_with fail
    refine (awake13 _ HS.out).mono ?_
    rintro e x1 ⟨rfl, hb1⟩
    have HB1 := Lib.hid hb1
    have hb1s := hb1.size
    clear hb1
    go_wp2_with (refine wpList_make_full _ rfl (.tmp 26) (.tmp 26) 49 rfl w.heap.size bT i0 (.int .u8 0) 1 Tryd.underlying49 HI.out.1 HI.out.2.1 HI.out.2.2.1 .i64 .i64 (n : Int) (n : Int) n rfl rfl rfl rfl (by rw [HI.out.2.2.2]; omega) (by unfold maxLen; omega) hb1s ?_; intro x2 hown hg2; have HO2 := Lib.hid hown; have HB2 := Lib.hid (HB1.out.grown hg2 hb1s (fun k hk => by cases hk)); clear hown hg2)
    have HO3 := Lib.hid (show x2.ownsRow w.heap.size bT 1 (.slice (some ⟨x1.heap.size, 0, none⟩) n n) n (fillL n 0) by
      have h := HO2.out
      rw [Nat.mul_one] at h
      have e : (Value.int .u8 0).cells = #[Value.int .u8 0] := rfl
      rw [e, toList_madeCells_one] at h
      exact h)
    clear HO2
    go_loopw [30] (fun s30 wr => ∃ k : Nat, k ≤ n ∧ s30 = .int .i64 (k : Int) ∧ wr.ownsRow w.heap.size bT 1 (.slice (some ⟨x1.heap.size, 0, none⟩) n n) n (fillL n k) ∧ Below w.heap.size w wr) (fun s _ => 20003 - (intOf s).toNat)
    case atStart => exact ⟨0, Nat.zero_le _, rfl, HO3.out, HB2.out⟩
    case round =>
      clear HO3 HB2
      obtain ⟨k, hk, rfl, ho, hb⟩ := hrel
      have HO := Lib.hid ho
      have HB := Lib.hid hb
      clear ho hb
      have k0 : (0 : Int) ≤ (k : Int) := by omega
      have kw : IntKind.i64.wrap ((k : Int) + 1) = (k : Int) + 1 := IntWalk.i64_in _ (by omega)
      by_cases hkn : k < n
      · have k1 : (k : Int) < (n : Int) := by omega
        have c0 : wr.cell? ⟨x1.heap.size, k, none⟩ = some (.int .u8 0) := by rw [HO.out.cellAt k (by omega)]; exact fillL_at n k hkn
        have z0 : wr.frozen? ⟨x1.heap.size, k, none⟩ = false := HO.out.frozenAt k
        have st := (HO.out.stored k (.int .u8 35)).1
        rw [fillL_set n k hkn] at st
        have ST := Lib.hid st
        clear st
        go_wp2_with fail
        go_roundw
        case rel => exact ⟨k + 1, by omega, by go_num, ST.out, HB.out.setCell hb1s _⟩
        case measure => simp [intOf]; omega
      · have e : k = n := by omega
        subst e
        have k1 : ¬ (k : Int) < (k : Int) := by omega
        have hrep : ∀ (W : World), Below wr.heap.size wr W → (convert 49 9 (.slice (some ⟨x1.heap.size, 0, none⟩) k k)).run Tryd.prog W = .ok (.string (mkT (List.replicate k 35))) W := by
          intro W hW
          have h := run_convert_bytes_back W 49 9 5 ⟨x1.heap.size, 0, none⟩ k (List.replicate k 35) Tryd.underlying49 Tryd.underlying5 Tryd.underlying9 (fun j hj => by
            rw [List.length_replicate] at hj
            have c1 : wr.cell? ⟨x1.heap.size, j, none⟩ = some (.int .u8 35) := by
              rw [HO.out.cellAt j (by omega), fillL_all, List.getElem?_replicate, if_pos hj]
            have e : (⟨x1.heap.size, 0, none⟩ : Addr).add j = ⟨x1.heap.size, j, none⟩ := by unfold Addr.add; split <;> simp_all
            rw [e, (hW.cell (p := ⟨x1.heap.size, j, none⟩) (klt c1))]
            rw [c1, List.getElem_replicate]
            rfl)
          rw [List.length_replicate] at h
          exact h
        have HREP := Lib.hid hrep
        have hcv := hrep wr (Below.refl _ _)
        clear hrep
        have hTs : (mkT (List.replicate k 35) ++ s).size = 20000 + r := by rw [ByteArray.size_append, mkT_size, List.length_replicate]; exact HNS.out
        have hq : (mkT (List.replicate k 35)).size = k := by rw [mkT_size, List.length_replicate]
        obtain ⟨P, hP⟩ : ∃ P, mkT (List.replicate k 35) = P := ⟨_, rfl⟩
        rw [hP] at hTs hq hcv HREP
        have hcat : ¬ 9223372036854775807 < P.size + s.size := by omega
        obtain ⟨T, hT⟩ : ∃ T, P ++ s = T := ⟨_, rfl⟩
        rw [hT] at hTs
        clear hP hq
        by_cases hr0 : r = 0
        · subst hr0
          have HPR := Lib.hid (fun (wq : World) (h : Std wq) => parse_short T (by omega) wq h)
          have HRP := Lib.hid (fun (wq : World) => rparse T (by omega) wq)
          have HTE := Lib.hid (two_ends T)
          obtain ⟨E, hE⟩ : ∃ E, endE (linesE (T.size + 1) T (fun _ => false) dfv) = E := ⟨_, rfl⟩
          obtain ⟨V, hV⟩ : ∃ V, endV (linesE (T.size + 1) T (fun _ => false) dfv) = V := ⟨_, rfl⟩
          rw [hE, hV] at HPR
          rw [hE] at HTE
          obtain ⟨E2, hE2⟩ : ∃ E, endE (rlinesE (linesF T.data.toList) (fun _ => false) dfv) = E := ⟨_, rfl⟩
          rw [hE2] at HRP HTE
          have hEE := HTE.out
          subst hEE
          clear hE hV hE2 HTE hTs
          go_wp2_with fail
          refine (HPR.out _ (HS.out.below HB.out)).mono ?_
          rintro e x5 ⟨rfl, hb5⟩
          have hcv5 := HREP.out _ (hb5.alloc hb5.size (.cells (cfL V).toArray 24))
          have HB5 := Lib.hid ((HB.out.trans (hb5.mono HB.out.size)).alloc (by have := HB.out.size; have := hb5.size; omega) (.cells (cfL V).toArray 24))
          clear hb5 hcv
          (simp only [cfL] at hcv5 HB5)
          go_wp2_with fail
          refine (HRP.out _).mono ?_
          rintro e x6 ⟨⟨lv, rfl⟩, hb6⟩
          go_wp2_with fail
          go_ret
          exact ⟨by trivial, HB5.out.trans (hb6.mono HB5.out.size)⟩
        · have HPR := Lib.hid (fun (wq : World) => parse_long T (by omega) wq)
          have rp : (0 : Int) < (r : Int) := by omega
          have rp' : decide ((0 : Int) < (r : Int)) = true := decide_eq_true rp
          clear hTs
          go_wp2_with fail
          refine (HPR.out _).mono ?_
          rintro e x5 ⟨rfl, hb5⟩
          go_wp2_with fail
          go_ret
          exact ⟨rfl, (HB.out.trans (hb5.mono HB.out.size)).alloc (by have := HB.out.size; have := hb5.size; omega) _⟩
end Go.Proofs.YtbajmmgdnegoiaaDoor
