/- A way out of two rows of numbers, as points and as the document's points. -/
import Derived.Test.YtcbpocannmconaaSwc
import Derived.Laws.OwnMore
import Derived.Laws.AppendOwn
import Derived.Deep.DeepCutAuto
namespace Go.Proofs.Ytcbpocannmconaa
open Go.RowKit
set_option linter.unusedVariables false
set_option linter.unusedSimpArgs false
theorem cinfo : (Try.prog.info? 28).map (fun i => (i.zero, i.size, i.bytes)) = some (some (.complex .f64 0 0), 1, 16) := by kernel_rfl
theorem pinfo : (Try.prog.info? 31).map (fun i => (i.zero, i.size, i.bytes)) = some (some (.agg #[.int .i64 0, .int .i64 0]), 2, 16) := by kernel_rfl
theorem info_of {P : Program} {t : TypeId} {z : Option Value} {s b : Nat} (h : (P.info? t).map (fun i => (i.zero, i.size, i.bytes)) = some (z, s, b)) : ∃ i, P.info? t = some i ∧ i.zero = z ∧ i.size = s ∧ i.bytes = b := by
  cases hi : P.info? t with
  | none => rw [hi] at h; simp at h
  | some i => rw [hi] at h; simp at h; exact ⟨i, rfl, h.1, h.2.1, h.2.2⟩
theorem own_other {w : World} {b b' s s' n n' : Nat} {e e' : TypeId} {v v' : Value} {xs xs' : List Value} (h : w.ownsRow b e s v n xs) (h' : w.ownsRow b' e' s' v' n' xs') (hne : e ≠ e') : v.ownBlock = none ∨ v.ownBlock ≠ v'.ownBlock := by
  rcases h.2 with ⟨rfl, _⟩ | ⟨g, cap, cur, rfl, _, hg, _⟩
  · exact .inl rfl
  · rcases h'.2 with ⟨rfl, _⟩ | ⟨g', cap', cur', rfl, _, hg', _⟩
    · exact .inr (by simp [Value.ownBlock])
    · refine .inr fun c => ?_
      have : g = g' := by simpa [Value.ownBlock] using c
      exact Blk.other (cs := cur) (cs' := cur') hg hg' hne this
theorem own_least {w : World} {b s n : Nat} {e : TypeId} {v : Value} {xs : List Value} (h : w.ownsRow b e s v n xs) {g : Nat} (hg : v.ownBlock = some g) : b ≤ g := by
  rcases h.2 with ⟨rfl, _⟩ | ⟨g', cap, cur, rfl, hb, _⟩
  · simp [Value.ownBlock] at hg
  · have : g' = g := by simpa [Value.ownBlock] using hg
    omega
def ptsL (U L : Nat → Int) : Nat → List Value
  | 0 => []
  | k + 1 => ptsL U L k ++ [.complex .f64 (wd (U k)) (wd (L k))]
def rptsL (U L : Nat → Int) : Nat → List Value
  | 0 => []
  | k + 1 => rptsL U L k ++ [.int .i64 (clampZ (U k)), .int .i64 (clampZ (L k))]
theorem ptsL_len (U L : Nat → Int) : ∀ k, (ptsL U L k).length = k
  | 0 => rfl
  | k + 1 => by simp [ptsL, ptsL_len U L k]
theorem ptsL_get (U L : Nat → Int) (i : Nat) : ∀ k, i < k → (ptsL U L k)[i]? = some (.complex .f64 (wd (U i)) (wd (L i)))
  | 0, h => by omega
  | k + 1, h => by
    unfold ptsL
    by_cases c : i < k
    · rw [List.getElem?_append_left (by rw [ptsL_len]; exact c)]; exact ptsL_get U L i k c
    · obtain rfl : i = k := by omega
      rw [List.getElem?_append_right (by rw [ptsL_len]; exact Nat.le_refl _), ptsL_len]; simp
theorem rptsL_len (U L : Nat → Int) : ∀ k, (rptsL U L k).length = 2 * k
  | 0 => rfl
  | k + 1 => by simp [rptsL, rptsL_len U L k]; omega
theorem rptsL_get (U L : Nat → Int) (i : Nat) : ∀ k, i < k → (rptsL U L k)[2 * i]? = some (.int .i64 (clampZ (U i))) ∧ (rptsL U L k)[2 * i + 1]? = some (.int .i64 (clampZ (L i)))
  | 0, h => by omega
  | k + 1, h => by
    unfold rptsL
    by_cases c : i < k
    · rw [List.getElem?_append_left (by rw [rptsL_len]; omega), List.getElem?_append_left (by rw [rptsL_len]; omega)]; exact rptsL_get U L i k c
    · obtain rfl : i = k := by omega
      rw [List.getElem?_append_right (by rw [rptsL_len]; omega), List.getElem?_append_right (by rw [rptsL_len]; omega), rptsL_len]
      rw [show 2 * i - 2 * i = 0 from by omega, show 2 * i + 1 - 2 * i = 1 from by omega]; simp
/-- The document's row of points. -/
def RPts (w : World) (B : Nat) (A : Option Addr) (len : Nat) (a b : Nat → Int) : Prop :=
  0 < len → ∃ (kb ko : Nat), A = some ⟨kb, ko, none⟩ ∧ kb < B ∧ ∀ i, i < len → w.cell? ⟨kb, ko + i * 2, none⟩ = some (.int .i64 (a i)) ∧ w.cell? ⟨kb, ko + i * 2 + 1, none⟩ = some (.int .i64 (b i)) ∧ (a i).natAbs ≤ 1048576 ∧ (b i).natAbs ≤ 1048576
theorem RPts.below {w w' : World} {B : Nat} {A : Option Addr} {len : Nat} {a b : Nat → Int} (h : RPts w B A len a b) (hb : Below B w w') : RPts w' B A len a b := by
  intro h0
  obtain ⟨kb, ko, e, hk, hc⟩ := h h0
  exact ⟨kb, ko, e, hk, fun i hi => ⟨(hb.cell hk).trans (hc i hi).1, (hb.cell hk).trans (hc i hi).2.1, (hc i hi).2.2⟩⟩
theorem pts_of {w : World} {base n : Nat} {v : Value} {U L : Nat → Int} (h : w.ownsRow base 28 1 v n (ptsL U L n)) : ∃ A c, v = .slice A n c ∧ Pts w w.heap.size A n (fun i => clampZ (U i)) (fun i => clampZ (L i)) := by
  by_cases h0 : 0 < n
  · obtain ⟨g, c, rfl, _, hg⟩ := own_at h h0
    refine ⟨_, c, rfl, fun _ => ⟨g, 0, fun i => wd (U i), fun i => wd (L i), rfl, hg, fun i hi => ⟨?_, wd_fl _, wd_fl _, clampZ_abs _, clampZ_abs _⟩⟩⟩
    rw [Nat.zero_add, h.cellAt i (by omega)]
    exact ptsL_get U L i n hi
  · obtain ⟨A, c, rfl⟩ := own_form h
    exact ⟨A, c, rfl, fun c => absurd c h0⟩
theorem rpts_of {w : World} {base n : Nat} {v : Value} {U L : Nat → Int} (h : w.ownsRow base 31 2 v n (rptsL U L n)) : ∃ A c, v = .slice A n c ∧ RPts w w.heap.size A n (fun i => clampZ (U i)) (fun i => clampZ (L i)) := by
  by_cases h0 : 0 < n
  · obtain ⟨g, c, rfl, _, hg⟩ := own_at h h0
    refine ⟨_, c, rfl, fun _ => ⟨g, 0, rfl, hg, fun i hi => ⟨?_, ?_, clampZ_abs _, clampZ_abs _⟩⟩⟩
    · rw [Nat.zero_add, h.cellAt _ (by omega), Nat.mul_comm]; exact (rptsL_get U L i n hi).1
    · rw [Nat.zero_add, h.cellAt _ (by omega), Nat.mul_comm]; exact (rptsL_get U L i n hi).2
  · obtain ⟨A, c, rfl⟩ := own_form h
    exact ⟨A, c, rfl, fun c => absurd c h0⟩
section
variable {AU AL : Option Addr} {lu cu ll cl B : Nat} {U L : Nat → Int} {w : World}
set_option maxRecDepth 100000 in
set_option maxHeartbeats 4000000 in
theorem way_any (hU : SeqAt w w.heap.size AU lu 1 (fun i => [.int .i64 (U i)])) (hL : SeqAt w w.heap.size AL ll 1 (fun i => [.int .i64 (L i)])) (hl1 : lu ≤ 9223372036854775807) (hl2 : ll ≤ 9223372036854775807) :
    Calls Try.prog 8 #[.slice AU lu cu, .slice AL ll cl] w fun e w' => ∃ v6 v7 n, e = .returned (.tuple #[v6, v7]) ∧ n = min lu (min ll 60) ∧ w'.ownsRow w.heap.size 28 1 v6 n (ptsL U L n) ∧ w'.ownsRow w.heap.size 31 2 v7 n (rptsL U L n) ∧ Below w.heap.size w w' := by
  have HU := Lib.hid hU
  have HL := Lib.hid hL
  obtain ⟨i0, hi0, hz0, hz1, hz2⟩ := info_of cinfo
  obtain ⟨i1, hi1, hy0, hy1, hy2⟩ := info_of pinfo
  clear hU hL
  go_enter Try.func8, Try.ntmps8
  go_wp2_with fail
  go_loopw [6, 7, 12] (fun s6 s7 s12 wr => ∃ k : Nat, k ≤ lu ∧ s12 = .int .i64 k ∧ wr.ownsRow w.heap.size 28 1 s6 (min k (min ll 60)) (ptsL U L (min k (min ll 60))) ∧ wr.ownsRow w.heap.size 31 2 s7 (min k (min ll 60)) (rptsL U L (min k (min ll 60))) ∧ Below w.heap.size w wr) (fun _ _ i _ => lu - (intOf i).toNat)
  case atStart => exact ⟨0, Nat.zero_le _, rfl, by rw [Nat.zero_min]; exact World.ownsRow_nil _ _ _ _, by rw [Nat.zero_min]; exact World.ownsRow_nil _ _ _ _, Below.refl _ _⟩
  case round =>
    obtain ⟨k, hk, rfl, ho1, ho2, hbr⟩ := hrel
    by_cases hlt : k < lu
    · obtain ⟨kb, ko, rfl, hkb, hkc⟩ := HU.out (by omega)
      have q0 : wr.cell? ⟨kb, ko + k, none⟩ = some (.int .i64 (U k)) := by
        have := (hbr.cell hkb).trans (hkc k hlt 0 (by omega))
        simpa using this
      have hkr : kb < wr.heap.size := by have := hbr.size; omega
      by_cases hc : k < ll ∧ k < 60
      · obtain ⟨h1, h2⟩ := hc
        obtain ⟨jb, jo, rfl, hjb, hjc⟩ := HL.out (by omega)
        have q1 : wr.cell? ⟨jb, jo + k, none⟩ = some (.int .i64 (L k)) := by
          have := (hbr.cell hjb).trans (hjc k h1 0 (by omega))
          simpa using this
        have hjr : jb < wr.heap.size := by have := hbr.size; omega
        rw [show min k (min ll 60) = k from by omega] at ho1 ho2
        have HO1 := Lib.hid ho1
        have HO2 := Lib.hid ho2
        have HBR := Lib.hid hbr
        have hws := hbr.size
        clear ho1 ho2 hbr hkc hjc
        go_upto_region 8 with (first
          | (go_at_call 9; refine (at_any _ _ _).mono ?_; rintro e w1 ⟨rfl, rfl⟩)
          | (at_builtin; refine wpList_append_own _ rfl (.tmp 25) (.tmp 32) 24 rfl w.heap.size 28 i0 (.complex .f64 0 0) 1 16 Try.underlying24 hi0 hz0 hz1 hz2 rfl (by decide) _ _ _ rfl (HO1.out.alloc _) ⟨wr.heap.size, 0, none⟩ 1 1 [.complex .f64 (wd (U k)) (wd (L k))] rfl rfl (by intro j u hj; match j, hj with | 0, hj => simp at hj; subst hj; (try simp [Addr.add]); (try exact (Blk.new_ (by simp)).val rfl)) (by intro u hu; simp at hu; subst hu; rfl) (by unfold maxLen; omega) (by omega) (by simp; omega) ?_; intro v5 w5 hown5 hg5 _; have HO5 := Lib.hid hown5; have HG5 := Lib.hid hg5; clear hown5 hg5))
        have HP5 := Lib.hid ((HO2.out.alloc (.cells #[.complex .f64 (wd (U k)) (wd (L k))] 28)).kept HG5.out (own_other (HO2.out.alloc _) (HO1.out.alloc (.cells #[.complex .f64 (wd (U k)) (wd (L k))] 28)) (by decide)))
        have HB5 := Lib.hid ((HBR.out.alloc hws (.cells #[.complex .f64 (wd (U k)) (wd (L k))] 28)).grown HG5.out (by simp; omega) (fun g' e => own_least (HO1.out.alloc (.cells #[.complex .f64 (wd (U k)) (wd (L k))] 28)) e))
        have q2 : w5.cell? ⟨jb, jo + k, none⟩ = some (.int .i64 (L k)) := (HB5.out.cell hjb).trans ((HBR.out.cell hjb).symm.trans q1)
        have hj5 : jb < w5.heap.size := by have := HB5.out.size; omega
        have hw5 := HB5.out.size
        clear q0 q1 hkr hjr HG5 HBR HO1 HO2
        go_upto_region 9 with (first
          | (go_at_call 10; refine (rpoint_any _ _ _).mono ?_; rintro e w6 ⟨rfl, hb6⟩; have HB6 := Lib.hid (HB5.out.trans (hb6.mono hw5)); have HO6 := Lib.hid (own_kept HO5.out (Kept.of_below (own := fun _ => False) hb6) (fun _ _ _ h => h)); have HP6 := Lib.hid (own_kept HP5.out (Kept.of_below (own := fun _ => False) hb6) (fun _ _ _ h => h)); have hw6 := HB6.out.size; clear hb6)
          | (at_builtin; refine wpList_append_own _ rfl (.tmp 34) (.tmp 41) 25 rfl w.heap.size 31 i1 (.agg #[.int .i64 0, .int .i64 0]) 2 16 Try.underlying25 hi1 hy0 hy1 hy2 rfl (by decide) _ _ _ rfl (HP6.out.alloc _) ⟨w6.heap.size, 0, none⟩ 1 1 [.int .i64 (clampZ (U k)), .int .i64 (clampZ (L k))] rfl rfl (by intro j u hj; match j, hj with | 0, hj => (simp at hj; subst hj; (try simp [Addr.add]); (try exact (Blk.new_ (by simp)).val rfl)) | 1, hj => (simp at hj; subst hj; (try simp [Addr.add]); (try exact (Blk.new_ (by simp)).val rfl))) (by intro u hu; simp at hu; rcases hu with rfl | rfl <;> rfl) (by unfold maxLen; omega) (by omega) (by simp; omega) ?_; intro v7 w7 hown7 hg7 _; have HO7 := Lib.hid hown7; have HG7 := Lib.hid hg7; clear hown7 hg7))
        go_wp2_with fail
        go_roundw
        case rel =>
          refine ⟨k + 1, by omega, by go_num, ?_, ?_, ?_⟩
          · rw [show min (k + 1) (min ll 60) = k + 1 from by omega]
            exact (HO6.out.alloc (.cells #[.int .i64 (clampZ (U k)), .int .i64 (clampZ (L k))] 31)).kept HG7.out (own_other (HO6.out.alloc _) (HP6.out.alloc (.cells #[.int .i64 (clampZ (U k)), .int .i64 (clampZ (L k))] 31)) (by decide))
          · rw [show min (k + 1) (min ll 60) = k + 1 from by omega]
            exact HO7.out
          · exact (HB6.out.alloc hw6 (.cells #[.int .i64 (clampZ (U k)), .int .i64 (clampZ (L k))] 31)).grown HG7.out (by simp; omega) (fun g' e => own_least (HP6.out.alloc (.cells #[.int .i64 (clampZ (U k)), .int .i64 (clampZ (L k))] 31)) e)
        case measure => simp [intOf]; omega
      · have HO1 := Lib.hid ho1
        have HO2 := Lib.hid ho2
        have HBR := Lib.hid hbr
        clear ho1 ho2 hbr hkc
        by_cases h1 : k < ll
        · have h2 : ¬ k < 60 := fun h => hc ⟨h1, h⟩
          clear hc
          go_wp2_with fail
          go_roundw
          case rel => exact ⟨k + 1, by omega, by go_num, by rw [show min (k + 1) (min ll 60) = min k (min ll 60) from by omega]; exact HO1.out, by rw [show min (k + 1) (min ll 60) = min k (min ll 60) from by omega]; exact HO2.out, HBR.out⟩
          case measure => simp [intOf]; omega
        · clear hc
          go_wp2_with fail
          go_roundw
          case rel => exact ⟨k + 1, by omega, by go_num, by rw [show min (k + 1) (min ll 60) = min k (min ll 60) from by omega]; exact HO1.out, by rw [show min (k + 1) (min ll 60) = min k (min ll 60) from by omega]; exact HO2.out, HBR.out⟩
          case measure => simp [intOf]; omega
    · obtain rfl : k = lu := by omega
      have HO1 := Lib.hid ho1
      have HO2 := Lib.hid ho2
      have HBR := Lib.hid hbr
      clear ho1 ho2 hbr
      go_wp2_with fail
      go_ret2
      exact ⟨_, _, _, rfl, rfl, HO1.out, HO2.out, HBR.out⟩
end
end Go.Proofs.Ytcbpocannmconaa
