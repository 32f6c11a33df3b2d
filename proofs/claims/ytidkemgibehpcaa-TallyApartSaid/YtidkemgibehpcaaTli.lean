/- Spread. -/
import Derived.Test.YtidkemgibehpcaaTlh
namespace Go.Proofs.Ytidkemgibehpcaa
open Go.RowKit Go.Shelf
set_option linter.unusedVariables false
set_option linter.unusedSimpArgs false
attribute [local go_sem] Oper.semAt_some
theorem own_stay {N : Nat} {A B : World} {row : Option Nat} (hg : A.grownBy B row) (hr : ∀ r, row = some r → N ≤ r ∧ ∃ o : Obj, A.heap[r]? = some o ∧ o.isCells = false) {base : Nat} {t : TypeId} {sz n : Nat} {v : Value} {xs : List Value} (h : A.ownsRow base t sz v n xs) : B.ownsRow base t sz v n xs := by
  refine h.kept hg ?_
  rcases h.2 with ⟨rfl, _⟩ | ⟨g, cap, cur, rfl, _, hh, _⟩
  · exact .inl rfl
  · refine .inr fun e => ?_
    obtain ⟨_, o, ho, hc⟩ := hr g e.symm
    rw [hh] at ho; cases ho; cases hc
theorem keeps_grown {B : Nat} {W W' : World} {base : Nat} {t : TypeId} {sz n : Nat} {v : Value} {xs : List Value} (h : W.ownsRow base t sz v n xs) (hg : W.grownBy W' v.ownBlock) : KeepsFrom B W W' :=
  ⟨hg.size, fun k o _ hk ho => (hg.block k (Array.getElem?_eq_some_iff.1 hk).1 fun e => by
    rcases h.2 with ⟨rfl, _⟩ | ⟨g, cap, cur, rfl, _, hh, _⟩
    · cases e
    · have : k = g := by simpa [Value.ownBlock] using e
      subst this
      rw [hh] at hk; cases hk; cases ho).trans hk⟩
theorem Lo.beyond {S : Nat → Prop} {w W4 W W' : World} (h : Lo S w W4 W) (hS : ∀ g, S g → g < W4.heap.size) (hw : w.heap.size ≤ W4.heap.size) (hb : Below W4.heap.size W W') : Lo S w W4 W' :=
  ⟨h.same.trans (Same.below hb hS), Nat.le_trans h.size hb.size, h.below.trans (hb.mono hw)⟩
theorem own_le {w : World} {B B' k : Nat} {e : TypeId} {sz : Nat} {v : Value} {l : List Value} (h : w.ownsRow B e sz v k l) (hB : B' ≤ B) : w.ownsRow B' e sz v k l := by
  refine ⟨h.1, ?_⟩
  rcases h.2 with h0 | ⟨g, cap, cur, hv, hb, hg, h1, h2, h3, h4⟩
  · exact .inl h0
  · exact .inr ⟨g, cap, cur, hv, by omega, hg, h1, h2, h3, h4⟩
theorem far_box {W : World} {B g c : Nat} {t : TypeId} {v u : Value} (h : Boxed W B t v) (hne : B ≠ g) : Boxed (W.setCell ⟨g, c, none⟩ u) B t v := (Below.heap_setCell W ⟨g, c, none⟩ u B hne).trans h
theorem intinfo : (Try.prog.info? 3).map (fun i => (i.zero, i.size, i.bytes)) = some (some (.int .i64 0), 1, 8) := by kernel_rfl
section
variable {base p : Nat} {r : Option Nat} {w w' : World} {L : List Oc}
set_option maxRecDepth 100000 in
set_option maxHeartbeats 4000000 in
theorem tspread (tier : Int) (w : World) (h : LogAt base w p r L) (hl : L.length ≤ 1000) (hok : OkL L) :
    Calls Try.prog 14 #[.pointer (some ⟨p, 0, none⟩), .int .i64 tier] w fun e w' => ∃ v, e = .returned v ∧ w'.ownsRow w.heap.size 3 1 v (topK (L.filter fun o => isOfB tier o && whyB 1 o)) (rowF (cntK (L.filter fun o => isOfB tier o && whyB 1 o)) (topK (L.filter fun o => isOfB tier o && whyB 1 o))) ∧ Below w.heap.size w w' := by
  obtain ⟨f, hf⟩ : ∃ f : Nat → Bool, ∀ i, f i = whyB 1 (nth L i) := ⟨_, fun _ => rfl⟩
  have hcnt : ((pick L (fl f L.length)).filter (isOfB tier)) = (L.filter fun o => isOfB tier o && whyB 1 o) := by rw [fl_pick L _ (fun i _ => hf i), List.filter_filter]
  have hlen : (fl f L.length).length ≤ 1000 := by
    unfold fl
    exact Nat.le_trans (List.length_filter_le _ _) (by rw [List.length_range]; exact hl)
  have hp := h.lt
  obtain ⟨D0, hD0⟩ : ∃ D, (L.filter fun o => isOfB tier o && whyB 1 o) = D := ⟨_, rfl⟩
  rw [hD0] at hcnt ⊢
  have HFIN := Lib.hid hcnt
  obtain ⟨i0, hi, hz0, hz1, hz2⟩ := inf_of intinfo
  refine (callsIn_wide (n := 9)).1 ?_
  refine callsIn_of_wp_marks Try.func14 rfl trivial ?_ rfl
  simp only [Try.ntmps14, List.size_toArray, List.length_cons, List.length_nil, Nat.reduceAdd, Nat.reduceSub, Array.replicate_succ, Array.replicate_zero, List.push_toArray, List.append_toArray, List.nil_append, List.cons_append]
  have H := Lib.hid h
  have HF := Lib.hid hf
  have HOKL := Lib.hid hok
  clear h hf hcnt hD0 hok
  gi_wp2_with (refine ⟨trivial, ?_⟩; gi_at_call 21; refine (callsIn_wide.2 (tall_made (some ⟨p, 0, none⟩) 1 _)).mono ?_; rintro e W4 ⟨rfl, c0, c1, hb4, hz4⟩)
  obtain ⟨k, hk⟩ : ∃ k, w.heap.size + 1 + 1 = k := ⟨_, rfl⟩
  simp only [World.size_alloc, hk] at c0 c1 hb4 hz4 ⊢
  have a0 : Below w.heap.size w ((w.alloc (Obj.cells #[.int .i64 tier] 3)).alloc (Obj.cells #[.slice none 0 0] 37)) := ((Below.refl _ w).alloc (Nat.le_refl _) _).alloc (by simp) _
  have h4 : LogAt base W4 p r L := (H.out.below a0).below (hb4.mono (by simp; omega))
  have b4 : Boxed W4 w.heap.size 3 (.int .i64 tier) := (hb4.block _ (by omega)).trans ((Boxed.new w _ _).alloc _)
  have b5 : Boxed W4 (w.heap.size + 1) 37 (.slice none 0 0) := (hb4.block _ (by omega)).trans (by have := Boxed.new (w.alloc (Obj.cells #[.int .i64 tier] 3)) 37 (.slice none 0 0); rw [World.size_alloc] at this; exact this)
  have hS := its_lt h4 (k := k) (by omega)
  have hN : ¬ ItsT k p r (w.heap.size + 1) := fun hi => by
    rcases hi with e | e | e | e
    · omega
    · omega
    · omega
    · obtain ⟨_, cs, hc⟩ := H.out.row e; have := hc.size; omega
  have hlo : Lo (ItsT k p r) w W4 W4 := ⟨Same.refl _ _, Nat.le_refl _, a0.trans (hb4.mono (by omega))⟩
  have hseq := tstops W4 (n := 8) (k := k) (why := 1) (fun i _ => HF.out i) (by omega) (by omega) (by omega) c0 c1 h4
  have HN := Lib.hid hN
  have hwW : w.heap.size ≤ W4.heap.size := by omega
  clear h4 a0 c0 c1 hN
  refine wpIn_rangeFunc_ownH rfl (by omega) (gf := 30) (lb := tlv k) rfl trivial (enters_of Try.func30 (by kernel_rfl) rfl)
    hseq Same.trans (same_put hS) (Below.refl _ _) (fun _ => rfl)
    (fun pre W => Boxed W w.heap.size 3 (.int .i64 tier) ∧ (∃ v, Boxed W (w.heap.size + 1) 37 v ∧ W.ownsRow W4.heap.size 3 1 v (topK ((pick L pre).filter (isOfB tier))) (rowF (cntK ((pick L pre).filter (isOfB tier))) (topK ((pick L pre).filter (isOfB tier))))) ∧ Lo (ItsT k p r) w W4 W)
    (fun _ _ _ => False)
    (fun pre A B row h hg hr => ⟨boxed_stay hg hr h.1, ⟨h.2.1.choose, boxed_stay hg hr h.2.1.choose_spec.1, own_stay hg hr h.2.1.choose_spec.2⟩, h.2.2.stay hg hr hS (by omega)⟩)
    (fun _ _ _ _ _ hs _ _ => hs)
    ⟨b4, ⟨_, b5, World.ownsRow_nil _ _ _ _⟩, hlo⟩
    (fun x a' W => ∃ b, a' = { tmps := #[.pointer (some ⟨p, 0, none⟩), .int .i64 tier, undef, .pointer (some ⟨w.heap.size, 0, none⟩), .slice none 0 0, .pointer (some ⟨w.heap.size + 1, 0, none⟩), .pointer (some ⟨b, 0, none⟩), undef, .pointer (some ⟨p, 0, none⟩), .func (.func 30) #[] (tlv k), (nth L x).v, undef, undef, undef, undef, undef, undef, undef, undef, undef, undef, undef, undef, undef, undef, undef, undef, undef, undef, undef, undef, undef], defers := [] } ∧ Blk W b tT (ocRow (nth L x)).toArray)
    (fun x a' => ax_own _) ?assign ?body ?done ?stop
  case assign =>
    rintro l pre x W K ⟨i4, ⟨v, i5, ho⟩, hl4⟩ hK
    gi_wp2
    exact hK _ _ (KeepsFrom.of_grownBy (grown_alloc _ _ none) (fun j e => by cases e)) (Same.alloc_ (Same.refl _ _) (fun g hg => by have := hS g hg; have := hl4.size; omega) _) ⟨i4.alloc _, ⟨v, i5.alloc _, ho.alloc _⟩, hl4.alloc hS _⟩ ⟨_, rfl, Blk.made _ _ _⟩
  case body =>
    rintro l pre x a' W hl hr ⟨i4, ⟨v, i5, ho⟩, hl4⟩ ⟨b, rfl, hb⟩ hlt
    have hokx : (nth L x).ok := HOKL.out.get x
    obtain ⟨⟨ya, yb, yc, yd, ye, yf⟩, hy⟩ : ∃ y, nth L x = y := ⟨_, rfl⟩
    have hc2 : (pick L (pre ++ [x])).filter (isOfB tier) = if isOfB tier ⟨ya, yb, yc, yd, ye, yf⟩ then ((pick L pre).filter (isOfB tier)) ++ [⟨ya, yb, yc, yd, ye, yf⟩] else (pick L pre).filter (isOfB tier) := by
      unfold pick
      rw [List.map_append, List.filter_append, List.map_cons, List.map_nil, hy]
      cases hq : isOfB tier ⟨ya, yb, yc, yd, ye, yf⟩ <;> simp [hq]
    have hokd : OkL ((pick L pre).filter (isOfB tier)) := fun o ho => by
      have := (List.mem_filter.1 ho).1
      obtain ⟨i, _, rfl⟩ := List.mem_map.1 this
      exact HOKL.out.get i
    obtain ⟨D, hD⟩ : ∃ D, (pick L pre).filter (isOfB tier) = D := ⟨_, rfl⟩
    rw [hD] at hc2 ho hokd
    rw [hy] at hb hokx ⊢
    have n0 := hb.val (i := 0) rfl
    have n1 := hb.val (i := 1) rfl
    have n2 := hb.val (i := 2) rfl
    have n3 := hb.val (i := 3) rfl
    have n4 := hb.val (i := 4) rfl
    have n5 := hb.val (i := 5) rfl
    simp only [ocRow] at n0 n1 n2 n3 n4 n5
    have q4 := i4.cell
    have HI4 := Lib.hid i4
    have HI5 := Lib.hid i5
    have HO := Lib.hid ho
    have HL4 := Lib.hid hl4
    have HC2 := Lib.hid hc2
    have HBB := Lib.hid hb
    have HTOP := Lib.hid (topK_le hokd)
    have HDL := Lib.hid (show ∀ c, cntK D c ≤ 1000 from fun c => by
      unfold cntK
      refine Nat.le_trans (List.length_filter_le _ _) ?_
      rw [← hD]
      refine Nat.le_trans (List.length_filter_le _ _) ?_
      unfold pick; rw [List.length_map]; omega)
    have HOK := Lib.hid (show yf ≤ 9223372036854775807 from hokx.2.2.2.2.2.2)
    clear hb hr i4 i5 ho hl4 hy hD hc2 hseq hlo b4 b5 hokx hokd
    obtain ⟨q, hq⟩ : ∃ q, isOfB tier ⟨ya, yb, yc, yd, ye, yf⟩ = q := ⟨_, rfl⟩
    have HQ := Lib.hid hq
    obtain ⟨c, hc⟩ : ∃ c, clsE yf = c := ⟨_, rfl⟩
    have hc63 : c ≤ 63 := by rw [← hc]; exact cls_le HOK.out
    have HC := Lib.hid hc
    clear hc
    cases q
    · clear hq
      gi_wp2_with (refine ⟨trivial, ?_⟩; gi_at_call 25; refine (callsIn_wide.2 (tisof ⟨ya, yb, yc, yd, ye, yf⟩ tier _)).mono ?_; rintro e W5 ⟨rfl, hb5⟩; rw [HQ.out]; have m5 := (HBB.out.below_ hb5 HBB.out.size).val (i := 5) rfl; simp only [ocRow] at m5; have HB5 := Lib.hid hb5; clear hb5)
      rw [HQ.out, if_neg (by decide)] at HC2
      refine ⟨keepsFrom_below HB5.out, Same.below HB5.out (fun g hg => by have := hS g hg; have := HL4.out.size; omega), bxb HI4.out HB5.out, ⟨v, bxb HI5.out HB5.out, ?_⟩, HL4.out.under hS HB5.out⟩
      rw [HC2.out]
      exact own_kept HO.out (Kept.of_below (own := fun _ => False) HB5.out) (fun _ _ _ h => h)
    · rw [HQ.out, if_pos rfl] at HC2
      clear hq
      gi_wp2_with (first | (refine ⟨trivial, ?_⟩; gi_at_call 25; refine (callsIn_wide.2 (tisof ⟨ya, yb, yc, yd, ye, yf⟩ tier _)).mono ?_; rintro e W5 ⟨rfl, hb5⟩; rw [HQ.out]; have m5 := (HBB.out.below_ hb5 HBB.out.size).val (i := 5) rfl; simp only [ocRow] at m5; have HB5 := Lib.hid hb5; clear hb5) | (refine ⟨trivial, ?_⟩; gi_at_call 26; refine (callsIn_wide.2 (tclass yf _ HOK.out)).mono ?_; rintro e W6 ⟨rfl, rfl⟩; rw [HC.out]))
      have hI4 := bxb HI4.out HB5.out
      have hI5 := bxb HI5.out HB5.out
      have hO := own_kept HO.out (Kept.of_below (own := fun _ => False) HB5.out) (fun _ _ _ h => h)
      have hLo := HL4.out.under hS HB5.out
      have hKF : KeepsFrom W4.heap.size W W5 := keepsFrom_below HB5.out
      have hSa : Same (ItsT k p r) W W5 := Same.below HB5.out (fun g hg => by have := hS g hg; have := HL4.out.size; omega)
      have HOo := Lib.hid hO
      have HLo := Lib.hid hLo
      have HKF := Lib.hid (And.intro hKF hSa)
      have HI44 := Lib.hid hI4
      have HI55 := Lib.hid hI5
      obtain ⟨t, ht⟩ : ∃ t, topK D = t := ⟨_, rfl⟩
      have HT := Lib.hid ht
      have ht64 : t ≤ 64 := by rw [← ht]; exact HTOP.out
      clear hO hLo hKF hSa hI4 hI5 m5 ht HBB n0 n1 n2 n3 n4 n5 q4
      gi_loopg [] (c + 1 - t) (fun g wr => ∃ (j : Nat) (vv : Value), g = max t (c + 1) - j ∧ t ≤ j ∧ j ≤ max t (c + 1) ∧ Boxed wr w.heap.size 3 (.int .i64 tier) ∧ Boxed wr (w.heap.size + 1) 37 vv ∧ wr.ownsRow W4.heap.size 3 1 vv j (rowF (cntK D) j) ∧ Lo (ItsT k p r) w W4 wr ∧ KeepsFrom W4.heap.size W wr ∧ Same (ItsT k p r) W wr)
      case atStart => exact ⟨t, v, by omega, Nat.le_refl _, by omega, HI44.out, HI55.out, by rw [← HT.out]; exact HOo.out, HLo.out, HKF.out.1, HKF.out.2⟩
      case round =>
        obtain ⟨j, vv, rfl, hj1, hj2, r4, r5, ro, rl, rk, rs⟩ := hrel
        obtain ⟨A5, c5, rfl⟩ := own_form ro
        have q5 := r5.cell
        have z5 := r5.frozen
        have HR4 := Lib.hid r4
        have HR5 := Lib.hid r5
        have HRO := Lib.hid ro
        have HRL := Lib.hid rl
        have HRK := Lib.hid (And.intro rk rs)
        clear r4 r5 ro rl rk rs
        by_cases hjc : j ≤ c
        · have hjz : cntK D j = 0 := cntK_zero (by rw [HT.out]; exact hj1)
          have HJZ := Lib.hid hjz
          clear hjz
          have hjb : j ≤ 64 := by omega
          have hsz := HRL.out.size
          gi_wp2_with (gi_at_builtin; refine wpListIn_append_own _ rfl _ _ 37 rfl W4.heap.size 3 i0 (.int .i64 0) 1 8 Try.underlying37 hi hz0 hz1 hz2 rfl (by decide) _ _ _ rfl (HRO.out.alloc _) ⟨wr.heap.size, 0, none⟩ 1 1 [.int .i64 0] rfl rfl (cell_one_new _ _ _) (by simp [Value.oneCell']) (by have := maxbig; omega) (by omega) (by simp; omega) ?_; intro v' w1 hown' hgrow _; obtain ⟨g', cap', rfl⟩ := ownsRow_succ hown'; have hk1 := (HRK.out.1.trans (KeepsFrom.of_grownBy (grown_alloc wr (Obj.cells #[.int .i64 0] 3) none) (fun j e => by cases e))).trans (keeps_grown (HRO.out.alloc _) hgrow); have hb1 : Below W4.heap.size wr w1 := ((Below.refl _ wr).alloc hsz _).grown hgrow (by simp; omega) (fun k e => (HRO.out.lt k e).1); have g5 : Boxed w1 (w.heap.size + 1) 37 _ := (hb1.block _ (by omega)).trans HR5.out; have g5c := g5.cell; have g5z := g5.frozen; have HG := Lib.hid (And.intro hown' (And.intro hk1 (And.intro hb1 g5))); clear hown' hgrow hk1 hb1 g5)
          gi_roundg (max t (c + 1) - (j + 1))
          case measure => omega
          case rel =>
            obtain ⟨hown', hk1, hb1, g5⟩ := HG.out
            refine ⟨j + 1, _, rfl, by omega, by omega, far_box (show Boxed w1 w.heap.size 3 (.int .i64 tier) from (hb1.block _ (by omega)).trans HR4.out) (by omega), g5.set _, ?_, (HRL.out.beyond hS hwW hb1).set HN.out (by show w.heap.size ≤ w.heap.size + 1; omega) _, hk1.trans ((KeepsOthers.setCell _ _ _).from _), (HRK.out.2.trans (Same.below hb1 hS)).set HN.out _⟩
            rw [rowF_succ, HJZ.out]
            exact ownsRow_setCell_below hown' (a := ⟨w.heap.size + 1, 0, none⟩) (by show w.heap.size + 1 < W4.heap.size; omega) _
        · have hj3 : j = max t (c + 1) := by omega
          have hcj : c < j := by omega
          obtain ⟨g, cp, hv, hg1, hg2⟩ := own_at HRO.out (by omega)
          injection hv with hv1 hv2 hv3
          subst hv1 hv3
          have e0 := (HRO.out.cellAt c (by omega)).trans (rowF_get (cntK D) hcj)
          have z0 := HRO.out.frozenAt c
          obtain ⟨y, hy⟩ : ∃ y, cntK D c = y := ⟨_, rfl⟩
          have hyl : y ≤ 1000 := by rw [← hy]; exact HDL.out c
          have hw2 : IntKind.i64.wrap ((y : Int) + 1) = (y : Int) + 1 := IntWalk.i64_in _ (by omega)
          rw [hy] at e0
          have HY := Lib.hid hy
          have k0 : (0 : Int) ≤ (c : Int) := by omega
          have k1 : (c : Int) < (j : Int) := by omega
          clear hv2 hy
          gi_wp2
          have hne : w.heap.size + 1 < g := by have := hwW; omega
          refine ⟨HRK.out.1.trans ((KeepsOthers.setCell _ _ _).from _), HRK.out.2.set (a := ⟨g, c, none⟩) (fun hh => by have h9 : g < W4.heap.size := hS g hh; omega) _, far_box HR4.out (by omega), ⟨_, far_box HR5.out (by omega), ?_⟩, HRL.out.set (a := ⟨g, c, none⟩) (fun hh => by have h9 : g < W4.heap.size := hS g hh; omega) (by show w.heap.size ≤ g; omega) _⟩
          rw [HC2.out, topK_snoc, HT.out]
          show World.ownsRow _ _ _ _ _ (max t (clsE yf + 1)) (rowF _ (max t (clsE yf + 1)))
          rw [HC.out, ← hj3, ← rowF_set (cntK D) (cntK (D ++ [(⟨ya, yb, yc, yd, ye, yf⟩ : Oc)])) hcj (by rw [cntK_snoc, if_pos HC.out]) (fun k hk => by rw [cntK_snoc, if_neg (by rw [HC.out]; exact fun e => hk e.symm)]), HY.out]
          exact (HRO.out.stored c _).1
  case done =>
    rintro D ys W hD rfl ⟨i4, ⟨v, i5, ho⟩, hl4⟩ hK
    rw [HFIN.out] at ho
    have c5 := i5.cell
    gi_wp2
    refine ⟨by simp, .inl ⟨_, _, rfl, run_takeDeferred hK, ?_⟩⟩
    exact ⟨_, results_tmp rfl _ _ _, v, rfl, ownsRow_putObj (own_le ho hwW) (.deferred none) hK rfl, hl4.below.trans (belowK_b (w := w) (Nat.le_refl _) W D _ _ (by omega) hK rfl rfl)⟩
  case stop =>
    rintro D c pre W _ _ h _
    exact h.elim
end
end Go.Proofs.Ytidkemgibehpcaa
