/- Longest. -/
import Derived.Test.YtidkemgibehpcaaTlf
namespace Go.Proofs.Ytidkemgibehpcaa
open Go.RowKit Go.Shelf
set_option linter.unusedVariables false
set_option linter.unusedSimpArgs false
attribute [local go_sem] Oper.semAt_some
/-- One more: the longest so far. -/
def lonS (m : Int × Bool) (o : Oc) : Int × Bool := if m.2 = false ∨ m.1 < o.f then (o.f, true) else m
def lonE (l : List Oc) : Int × Bool := l.foldl lonS (0, false)
theorem lonE_snoc (l : List Oc) (o : Oc) : lonE (l ++ [o]) = lonS (lonE l) o := by unfold lonE; rw [List.foldl_append]; rfl
section
variable {base p : Nat} {r : Option Nat} {w w' : World} {L : List Oc}
set_option maxRecDepth 100000 in
set_option maxHeartbeats 4000000 in
theorem tlongest (tier : Int) (w : World) (h : LogAt base w p r L) (hl : L.length ≤ 1000) :
    Calls Try.prog 10 #[.pointer (some ⟨p, 0, none⟩), .int .i64 tier] w fun e w' => e = .returned (.tuple #[.int .i64 (lonE (L.filter fun o => isOfB tier o && whyB 1 o)).1, .bool (lonE (L.filter fun o => isOfB tier o && whyB 1 o)).2]) ∧ Below w.heap.size w w' := by
  obtain ⟨f, hf⟩ : ∃ f : Nat → Bool, ∀ i, f i = whyB 1 (nth L i) := ⟨_, fun _ => rfl⟩
  have hcnt : lonE ((pick L (fl f L.length)).filter (isOfB tier)) = lonE (L.filter fun o => isOfB tier o && whyB 1 o) := by rw [fl_pick L _ (fun i _ => hf i), List.filter_filter]
  have hlen : (fl f L.length).length ≤ 1000 := by
    unfold fl
    exact Nat.le_trans (List.length_filter_le _ _) (by rw [List.length_range]; exact hl)
  have hp := h.lt
  rw [← hcnt]
  obtain ⟨⟨fm, fo⟩, hfin⟩ : ∃ c, lonE ((pick L (fl f L.length)).filter (isOfB tier)) = c := ⟨_, rfl⟩
  rw [hfin]
  have HFIN := Lib.hid hfin
  clear hfin
  refine (callsIn_wide (n := 9)).1 ?_
  refine callsIn_of_wp_marks Try.func10 rfl trivial ?_ rfl
  simp only [Try.ntmps10, List.size_toArray, List.length_cons, List.length_nil, Nat.reduceAdd, Nat.reduceSub, Array.replicate_succ, Array.replicate_zero, List.push_toArray, List.append_toArray, List.nil_append, List.cons_append]
  have H := Lib.hid h
  have HF := Lib.hid hf
  clear h hf hcnt
  gi_wp2_with (refine ⟨trivial, ?_⟩; gi_at_call 21; refine (callsIn_wide.2 (tall_made (some ⟨p, 0, none⟩) 1 _)).mono ?_; rintro e W4 ⟨rfl, c0, c1, hb4, hz4⟩)
  obtain ⟨k, hk⟩ : ∃ k, w.heap.size + 1 + 1 + 1 = k := ⟨_, rfl⟩
  simp only [World.size_alloc, hk] at c0 c1 hb4 hz4 ⊢
  have a0 : Below w.heap.size w (((w.alloc (Obj.cells #[.int .i64 tier] 3)).alloc (Obj.cells #[.int .i64 0] 2)).alloc (Obj.cells #[.bool false] 4)) := (((Below.refl _ w).alloc (Nat.le_refl _) _).alloc (by simp) _).alloc (by simp; omega) _
  have h4 : LogAt base W4 p r L := (H.out.below a0).below (hb4.mono (by simp; omega))
  have b4 : Boxed W4 w.heap.size 3 (.int .i64 tier) := (hb4.block _ (by omega)).trans (((Boxed.new w _ _).alloc _).alloc _)
  have b6 : Boxed W4 (w.heap.size + 1) 2 (.int .i64 (lonE []).1) := (hb4.block _ (by omega)).trans (by have := (Boxed.new (w.alloc (Obj.cells #[.int .i64 tier] 3)) 2 (.int .i64 0)).alloc (Obj.cells #[.bool false] 4); rw [World.size_alloc] at this; exact this)
  have b7 : Boxed W4 (w.heap.size + 1 + 1) 4 (.bool (lonE []).2) := (hb4.block _ (by omega)).trans (by have := Boxed.new ((w.alloc (Obj.cells #[.int .i64 tier] 3)).alloc (Obj.cells #[.int .i64 0] 2)) 4 (.bool false); rw [World.size_alloc, World.size_alloc] at this; exact this)
  have hS := its_lt h4 (k := k) (by omega)
  have hN : ∀ g, (g = w.heap.size ∨ g = w.heap.size + 1 ∨ g = w.heap.size + 1 + 1) → ¬ ItsT k p r g := fun g hg hi => by
    rcases hi with e | e | e | e
    · omega
    · omega
    · omega
    · obtain ⟨_, cs, hc⟩ := H.out.row e; have := hc.size; omega
  have hlo : Lo (ItsT k p r) w W4 W4 := ⟨Same.refl _ _, Nat.le_refl _, a0.trans (hb4.mono (by omega))⟩
  have hseq := tstops W4 (n := 8) (k := k) (why := 1) (fun i _ => HF.out i) (by omega) (by omega) (by omega) c0 c1 h4
  have HN := Lib.hid hN
  clear h4 a0 c0 c1 hN
  refine wpIn_rangeFunc_ownH rfl (by omega) (gf := 30) (lb := tlv k) rfl trivial (enters_of Try.func30 (by kernel_rfl) rfl)
    hseq Same.trans (same_put hS) (Below.refl _ _) (fun _ => rfl)
    (fun pre W => (Boxed W w.heap.size 3 (.int .i64 tier) ∧ Boxed W (w.heap.size + 1) 2 (.int .i64 (lonE ((pick L pre).filter (isOfB tier))).1) ∧ Boxed W (w.heap.size + 1 + 1) 4 (.bool (lonE ((pick L pre).filter (isOfB tier))).2)) ∧ Lo (ItsT k p r) w W4 W)
    (fun _ _ _ => False)
    (fun pre A B row h hg hr => ⟨⟨boxed_stay hg hr h.1.1, boxed_stay hg hr h.1.2.1, boxed_stay hg hr h.1.2.2⟩, h.2.stay hg hr hS (by omega)⟩)
    (fun _ _ _ _ _ hs _ _ => hs)
    ⟨⟨b4, b6, b7⟩, hlo⟩
    (fun x a' W => ∃ b, a' = { tmps := #[.pointer (some ⟨p, 0, none⟩), .int .i64 tier, undef, .pointer (some ⟨w.heap.size, 0, none⟩), .int .i64 0, .bool false, .pointer (some ⟨w.heap.size + 1, 0, none⟩), .pointer (some ⟨w.heap.size + 1 + 1, 0, none⟩), .pointer (some ⟨b, 0, none⟩), .pointer (some ⟨p, 0, none⟩), .func (.func 30) #[] (tlv k), (nth L x).v, undef, undef, undef, undef, undef, undef, undef, undef, undef, undef, undef, undef, undef, undef, undef, undef, undef], defers := [] } ∧ Blk W b tT (ocRow (nth L x)).toArray)
    (fun x a' => ax_own _) ?assign ?body ?done ?stop
  case assign =>
    rintro l pre x W K ⟨⟨i4, i6, i7⟩, hl4⟩ hK
    gi_wp2
    exact hK _ _ (KeepsFrom.of_grownBy (grown_alloc _ _ none) (fun j e => by cases e)) (Same.alloc_ (Same.refl _ _) (fun g hg => by have := hS g hg; have := hl4.size; omega) _) ⟨⟨i4.alloc _, i6.alloc _, i7.alloc _⟩, hl4.alloc hS _⟩ ⟨_, rfl, Blk.made _ _ _⟩
  case body =>
    rintro l pre x a' W hl hr ⟨⟨i4, i6, i7⟩, hl4⟩ ⟨b, rfl, hb⟩ hlt
    obtain ⟨⟨ya, yb, yc, yd, ye, yf⟩, hy⟩ : ∃ y, nth L x = y := ⟨_, rfl⟩
    have hc2 : lonE ((pick L (pre ++ [x])).filter (isOfB tier)) = if isOfB tier ⟨ya, yb, yc, yd, ye, yf⟩ then lonS (lonE ((pick L pre).filter (isOfB tier))) ⟨ya, yb, yc, yd, ye, yf⟩ else lonE ((pick L pre).filter (isOfB tier)) := by
      unfold pick
      rw [List.map_append, List.filter_append, List.map_cons, List.map_nil, hy]
      cases hq : isOfB tier ⟨ya, yb, yc, yd, ye, yf⟩
      · simp [hq]
      · rw [if_pos rfl, ← lonE_snoc]; simp [hq]
    obtain ⟨⟨cm, co⟩, hc⟩ : ∃ c, lonE ((pick L pre).filter (isOfB tier)) = c := ⟨_, rfl⟩
    rw [hc] at hc2
    rw [hy] at hb ⊢
    rw [hc] at i6 i7
    have n0 := hb.val (i := 0) rfl
    have n1 := hb.val (i := 1) rfl
    have n2 := hb.val (i := 2) rfl
    have n3 := hb.val (i := 3) rfl
    have n4 := hb.val (i := 4) rfl
    have n5 := hb.val (i := 5) rfl
    simp only [ocRow] at n0 n1 n2 n3 n4 n5
    have q4 := i4.cell
    have hI := Lib.hid (And.intro i4 (And.intro i6 (And.intro i7 hl4)))
    have HC2 := Lib.hid hc2
    have HBB := Lib.hid hb
    clear hb hr i4 i6 i7 hl4 hy hc hc2 hseq hlo b4 b6 b7
    obtain ⟨q, hq⟩ : ∃ q, isOfB tier ⟨ya, yb, yc, yd, ye, yf⟩ = q := ⟨_, rfl⟩
    have HQ := Lib.hid hq
    have HNK := Lib.hid (And.intro (HN.out (w.heap.size + 1) (.inr (.inl rfl))) (HN.out (w.heap.size + 1 + 1) (.inr (.inr rfl))))
    cases q
    · clear hq
      gi_wp2_with (refine ⟨trivial, ?_⟩; gi_at_call 25; refine (callsIn_wide.2 (tisof ⟨ya, yb, yc, yd, ye, yf⟩ tier _)).mono ?_; rintro e W5 ⟨rfl, hb5⟩; rw [HQ.out]; have j6 := (bxb hI.out.2.1 hb5).cell; have z6 := (bxb hI.out.2.1 hb5).frozen; have j7 := (bxb hI.out.2.2.1 hb5).cell; have z7 := (bxb hI.out.2.2.1 hb5).frozen; have m5 := (HBB.out.below_ hb5 HBB.out.size).val (i := 5) rfl; simp only [ocRow] at m5; have HB5 := Lib.hid hb5; clear hb5)
      have hI' := hI.out
      rw [HQ.out, if_neg (by decide)] at HC2
      refine ⟨keepsFrom_below HB5.out, Same.below HB5.out (fun g hg => by have := hS g hg; have := hI'.2.2.2.size; omega), ⟨bxb hI'.1 HB5.out, ?_, ?_⟩, hI'.2.2.2.under hS HB5.out⟩
      · rw [HC2.out]; exact bxb hI'.2.1 HB5.out
      · rw [HC2.out]; exact bxb hI'.2.2.1 HB5.out
    · rw [HQ.out, if_pos rfl] at HC2
      clear hq
      have done : ∀ W5, Below W.heap.size W W5 → (co = false ∨ cm < yf) → KeepsFrom W4.heap.size W ((W5.setCell ⟨w.heap.size + 1, 0, none⟩ (.int .i64 yf)).setCell ⟨w.heap.size + 1 + 1, 0, none⟩ (.bool true)) ∧ Same (ItsT k p r) W ((W5.setCell ⟨w.heap.size + 1, 0, none⟩ (.int .i64 yf)).setCell ⟨w.heap.size + 1 + 1, 0, none⟩ (.bool true)) ∧
          (Boxed ((W5.setCell ⟨w.heap.size + 1, 0, none⟩ (.int .i64 yf)).setCell ⟨w.heap.size + 1 + 1, 0, none⟩ (.bool true)) w.heap.size 3 (.int .i64 tier) ∧ Boxed ((W5.setCell ⟨w.heap.size + 1, 0, none⟩ (.int .i64 yf)).setCell ⟨w.heap.size + 1 + 1, 0, none⟩ (.bool true)) (w.heap.size + 1) 2 (.int .i64 (lonE ((pick L (pre ++ [x])).filter (isOfB tier))).1) ∧ Boxed ((W5.setCell ⟨w.heap.size + 1, 0, none⟩ (.int .i64 yf)).setCell ⟨w.heap.size + 1 + 1, 0, none⟩ (.bool true)) (w.heap.size + 1 + 1) 4 (.bool (lonE ((pick L (pre ++ [x])).filter (isOfB tier))).2)) ∧ Lo (ItsT k p r) w W4 ((W5.setCell ⟨w.heap.size + 1, 0, none⟩ (.int .i64 yf)).setCell ⟨w.heap.size + 1 + 1, 0, none⟩ (.bool true)) := by
        intro W5 hb5 hcc
        have hI' := hI.out
        have e : lonS (cm, co) ⟨ya, yb, yc, yd, ye, yf⟩ = (yf, true) := if_pos hcc
        rw [HC2.out, e]
        exact ⟨((keepsFrom_below hb5).trans ((KeepsOthers.setCell _ _ _).from _)).trans ((KeepsOthers.setCell _ _ _).from _), ((Same.below hb5 (fun g hg => by have := hS g hg; have := hI'.2.2.2.size; omega)).set HNK.out.1 _).set HNK.out.2 _,
          ⟨((bxb hI'.1 hb5).other (by omega) _).other (by omega) _, ((bxb hI'.2.1 hb5).set _).other (by omega) _, ((bxb hI'.2.2.1 hb5).other (by omega) _).set _⟩,
          ((hI'.2.2.2.under hS hb5).set HNK.out.1 (by show w.heap.size ≤ w.heap.size + 1; omega) _).set HNK.out.2 (by show w.heap.size ≤ w.heap.size + 1 + 1; omega) _⟩
      have HD := Lib.hid done
      clear done
      cases co
      · gi_wp2_with (refine ⟨trivial, ?_⟩; gi_at_call 25; refine (callsIn_wide.2 (tisof ⟨ya, yb, yc, yd, ye, yf⟩ tier _)).mono ?_; rintro e W5 ⟨rfl, hb5⟩; rw [HQ.out]; have j6 := (bxb hI.out.2.1 hb5).cell; have z6 := (bxb hI.out.2.1 hb5).frozen; have j7 := (bxb hI.out.2.2.1 hb5).cell; have z7 := (bxb hI.out.2.2.1 hb5).frozen; have m5 := (HBB.out.below_ hb5 HBB.out.size).val (i := 5) rfl; simp only [ocRow] at m5; have HB5 := Lib.hid hb5; clear hb5)
        exact HD.out _ HB5.out (by first | exact .inl rfl | exact .inl trivial | trivial)
      · by_cases hcf : cm < yf
        · gi_wp2_with (refine ⟨trivial, ?_⟩; gi_at_call 25; refine (callsIn_wide.2 (tisof ⟨ya, yb, yc, yd, ye, yf⟩ tier _)).mono ?_; rintro e W5 ⟨rfl, hb5⟩; rw [HQ.out]; have j6 := (bxb hI.out.2.1 hb5).cell; have z6 := (bxb hI.out.2.1 hb5).frozen; have j7 := (bxb hI.out.2.2.1 hb5).cell; have z7 := (bxb hI.out.2.2.1 hb5).frozen; have m5 := (HBB.out.below_ hb5 HBB.out.size).val (i := 5) rfl; simp only [ocRow] at m5; have HB5 := Lib.hid hb5; clear hb5)
          exact HD.out _ HB5.out (.inr hcf)
        · have hcf2 : decide (cm < yf) = false := decide_eq_false hcf
          gi_wp2_with (refine ⟨trivial, ?_⟩; gi_at_call 25; refine (callsIn_wide.2 (tisof ⟨ya, yb, yc, yd, ye, yf⟩ tier _)).mono ?_; rintro e W5 ⟨rfl, hb5⟩; rw [HQ.out]; have j6 := (bxb hI.out.2.1 hb5).cell; have z6 := (bxb hI.out.2.1 hb5).frozen; have j7 := (bxb hI.out.2.2.1 hb5).cell; have z7 := (bxb hI.out.2.2.1 hb5).frozen; have m5 := (HBB.out.below_ hb5 HBB.out.size).val (i := 5) rfl; simp only [ocRow] at m5; have HB5 := Lib.hid hb5; clear hb5)
          have hI' := hI.out
          have e : lonS (cm, true) ⟨ya, yb, yc, yd, ye, yf⟩ = (cm, true) := if_neg (by simp; omega)
          rw [e] at HC2
          refine ⟨keepsFrom_below HB5.out, Same.below HB5.out (fun g hg => by have := hS g hg; have := hI'.2.2.2.size; omega), ⟨bxb hI'.1 HB5.out, ?_, ?_⟩, hI'.2.2.2.under hS HB5.out⟩
          · rw [HC2.out]; exact bxb hI'.2.1 HB5.out
          · rw [HC2.out]; exact bxb hI'.2.2.1 HB5.out
  case done =>
    rintro D ys W hD rfl ⟨⟨i4, i6, i7⟩, hl4⟩ hK
    rw [HFIN.out] at i6 i7
    have c6 := i6.cell
    have c7 := i7.cell
    have HK := Lib.hid hK
    have HLo := Lib.hid hl4
    clear hK hl4 i4 i6 i7
    gi_wp2
    refine wpIn_mono (Q := NoPanic _) ?_ NoPanic.imp
    gi_region_with (fail)
    all_goals
      refine NoPanic.normal ?_
      gi_wp2
      have hK' : (W.drew).heap[D]? = some (.deferred (some [])) := HK.out
      refine ⟨by simp, .inl ⟨_, _, rfl, run_takeDeferred hK', ?_⟩⟩
      refine ⟨.tuple #[.int .i64 fm, .bool fo], ?_, rfl, (HLo.out.below.drew).trans (belowK_b (w := w) (Nat.le_refl _) _ D _ _ (by omega) hK' rfl rfl)⟩
      simp [results, Try.f10, go_sem]
  case stop =>
    rintro D c pre W _ _ h _
    exact h.elim
end
end Go.Proofs.Ytidkemgibehpcaa
