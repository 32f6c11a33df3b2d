/- Count and Longest; who collects. -/
import Derived.Test.YtidkemgibehpcaaTle
namespace Go.Proofs.Ytidkemgibehpcaa
open Go.RowKit Go.Shelf
set_option linter.unusedVariables false
set_option linter.unusedSimpArgs false
attribute [local go_sem] Oper.semAt_some
/-- What a loop over a log leaves alone. -/
structure Lo (S : Nat → Prop) (w W4 W : World) : Prop where
  same : Same S W4 W
  size : W4.heap.size ≤ W.heap.size
  below : Below w.heap.size w W
theorem boxed_stay {N : Nat} {A B : World} {row : Option Nat} (hg : A.grownBy B row) (hr : ∀ r, row = some r → N ≤ r ∧ ∃ o : Obj, A.heap[r]? = some o ∧ o.isCells = false) {b : Nat} {t : TypeId} {v : Value} (h : Boxed A b t v) : Boxed B b t v :=
  h.kept hg fun e => by
    obtain ⟨_, o, ho, hc⟩ := hr b e.symm
    rw [show A.heap[b]? = _ from h] at ho; cases ho; cases hc
theorem Lo.stay {S : Nat → Prop} {w W4 A B : World} {row : Option Nat} (hg : A.grownBy B row) (hr : ∀ r, row = some r → W4.heap.size ≤ r ∧ ∃ o : Obj, A.heap[r]? = some o ∧ o.isCells = false) (hS : ∀ g, S g → g < W4.heap.size) (hw : w.heap.size ≤ W4.heap.size) (h : Lo S w W4 A) : Lo S w W4 B :=
  ⟨fun g hs => (hg.block g (by have := hS g hs; have := h.size; omega) (fun e => by have := (hr g e.symm).1; have := hS g hs; omega)).trans (h.same g hs), Nat.le_trans h.size hg.size, h.below.grown hg h.below.size (fun k e => by have := (hr k e).1; omega)⟩
theorem Lo.set {S : Nat → Prop} {w W4 W : World} (h : Lo S w W4 W) {a : Addr} (hS : ¬ S a.block) (hw : w.heap.size ≤ a.block) (v : Value) : Lo S w W4 (W.setCell a v) :=
  ⟨h.same.set hS v, by simpa using h.size, h.below.setCell hw v⟩
theorem Lo.alloc {S : Nat → Prop} {w W4 W : World} (h : Lo S w W4 W) (hS : ∀ g, S g → g < W4.heap.size) (o : Obj) : Lo S w W4 (W.alloc o) :=
  ⟨h.same.alloc_ (fun g hg => by have := hS g hg; have := h.size; omega) o, by simp; have := h.size; omega, h.below.alloc h.below.size o⟩
theorem Lo.under {S : Nat → Prop} {w W4 W W' : World} (h : Lo S w W4 W) (hS : ∀ g, S g → g < W4.heap.size) (hb : Below W.heap.size W W') : Lo S w W4 W' :=
  ⟨h.same.trans (Same.below hb fun g hg => by have := hS g hg; have := h.size; omega), Nat.le_trans h.size hb.size, h.below.trans (hb.mono h.below.size)⟩
theorem keepsFrom_below {B : Nat} {W W' : World} (hb : Below W.heap.size W W') : KeepsFrom B W W' := ⟨hb.size, fun k o _ hk _ => (hb.block k (Array.getElem?_eq_some_iff.1 hk).1).trans hk⟩
theorem bxb {W W' : World} {B : Nat} {t : TypeId} {v : Value} (h : Boxed W B t v) (hb : Below W.heap.size W W') : Boxed W' B t v := (hb.block B h.lt).trans h
section
variable {base p : Nat} {r : Option Nat} {w w' : World} {L : List Oc}
set_option maxHeartbeats 1000000 in
theorem tcollect {k : Nat} {why : Int} (w : World) (h : LogAt base w p r L) (hl : L.length ≤ 10000) (hk : k + 1 < w.heap.size) (c0 : w.cell? ⟨k, 0, none⟩ = some (.pointer (some ⟨p, 0, none⟩))) (c1 : w.cell? ⟨k + 1, 0, none⟩ = some (.int .u8 why)) :
    Calls Try.prog 20 #[.func (.func 30) #[] (tlv k)] w fun e w' => ∃ v, e = .returned v ∧ OwO tT w' w.heap.size v (L.filter (whyB why)) ∧ Below w.heap.size w w' := by
  have hS := its_lt h hk
  obtain ⟨f, hf⟩ : ∃ f : Nat → Bool, ∀ i, f i = whyB why (nth L i) := ⟨_, fun _ => rfl⟩
  have hlen : (fl f L.length).length ≤ 10000 := by
    unfold fl
    exact Nat.le_trans (List.length_filter_le _ _) (by rw [List.length_range]; exact hl)
  have ha := (callsIn_wide (n := 2)).1 (tappendseq w (n := 2) (Nat.le_refl _) hlen (seq_more (tstops w (n := 1) (fun i _ => hf i) (Nat.le_refl _) hl hk c0 c1 h) fun A B hh => Same.below hh hS))
  rw [fl_pick L (whyB why) (fun i _ => hf i)] at ha
  clear hS hf hlen c0 c1 h
  go_enter Try.func20, Try.ntmps20
  go_wp2_with (go_at_call 29; refine ha.mono ?_; rintro e w' ⟨v, rfl, hr, hb⟩)
  go_ret
  exact ⟨v, rfl, hr, hb⟩
/-- How many of a list are of a tier and a why. -/
def cntE (L : List Oc) (tier why : Int) : Nat := (L.filter fun o => isOfB tier o && whyB why o).length
theorem cnt_fl (L : List Oc) (tier why : Int) {f : Nat → Bool} (hf : ∀ i, i < L.length → f i = whyB why (nth L i)) : ((pick L (fl f L.length)).filter (isOfB tier)).length = cntE L tier why := by
  rw [fl_pick L _ hf, List.filter_filter]; rfl
set_option maxRecDepth 100000 in
set_option maxHeartbeats 4000000 in
theorem tcount (tier why : Int) (w : World) (h : LogAt base w p r L) (hl : L.length ≤ 1000) :
    Calls Try.prog 12 #[.pointer (some ⟨p, 0, none⟩), .int .i64 tier, .int .u8 why] w fun e w' => e = .returned (.int .i64 (cntE L tier why : Int)) ∧ Below w.heap.size w w' := by
  obtain ⟨f, hf⟩ : ∃ f : Nat → Bool, ∀ i, f i = whyB why (nth L i) := ⟨_, fun _ => rfl⟩
  have hcnt := cnt_fl L tier why fun i _ => hf i
  have hlen : (fl f L.length).length ≤ 1000 := by
    unfold fl
    exact Nat.le_trans (List.length_filter_le _ _) (by rw [List.length_range]; exact hl)
  have hp := h.lt
  refine (callsIn_wide (n := 9)).1 ?_
  refine callsIn_of_wp_marks Try.func12 rfl trivial ?_ rfl
  simp only [Try.ntmps12, List.size_toArray, List.length_cons, List.length_nil, Nat.reduceAdd, Nat.reduceSub, Array.replicate_succ, Array.replicate_zero, List.push_toArray, List.append_toArray, List.nil_append, List.cons_append]
  have H := Lib.hid h
  have HF := Lib.hid hf
  have HCN := Lib.hid hcnt
  clear h hf hcnt
  gi_wp2_with (refine ⟨trivial, ?_⟩; gi_at_call 21; refine (callsIn_wide.2 (tall_made (some ⟨p, 0, none⟩) why _)).mono ?_; rintro e W4 ⟨rfl, c0, c1, hb4, hz4⟩)
  obtain ⟨k, hk⟩ : ∃ k, w.heap.size + 1 + 1 = k := ⟨_, rfl⟩
  simp only [World.size_alloc, hk] at c0 c1 hb4 hz4 ⊢
  have a0 : Below w.heap.size w ((w.alloc (Obj.cells #[.int .i64 tier] 3)).alloc (Obj.cells #[.int .i64 0] 3)) := ((Below.refl _ w).alloc (Nat.le_refl _) _).alloc (by simp) _
  have h4 : LogAt base W4 p r L := (H.out.below a0).below (hb4.mono (by simp; omega))
  have b4 : Boxed W4 w.heap.size 3 (.int .i64 tier) := (hb4.block _ (by omega)).trans ((Boxed.new w _ _).alloc _)
  have b7 : Boxed W4 (w.heap.size + 1) 3 (.int .i64 ((0 : Nat) : Int)) := (hb4.block _ (by omega)).trans (by have := Boxed.new (w.alloc (Obj.cells #[.int .i64 tier] 3)) 3 (.int .i64 0); rw [World.size_alloc] at this; exact this)
  have hS := its_lt h4 (k := k) (by omega)
  have hN : ∀ g, (g = w.heap.size ∨ g = w.heap.size + 1) → ¬ ItsT k p r g := fun g hg hi => by
    rcases hi with e | e | e | e
    · omega
    · omega
    · omega
    · obtain ⟨_, cs, hc⟩ := H.out.row e; have := hc.size; omega
  have hlo : Lo (ItsT k p r) w W4 W4 := ⟨Same.refl _ _, Nat.le_refl _, a0.trans (hb4.mono (by omega))⟩
  have hseq := tstops W4 (n := 8) (k := k) (why := why) (fun i _ => HF.out i) (by omega) (by omega) (by omega) c0 c1 h4
  have H4 := Lib.hid h4
  have HN := Lib.hid hN
  have HSS := Lib.hid hS
  clear h4 a0 c0 c1 hN
  refine wpIn_rangeFunc_ownH rfl (by omega) (gf := 30) (lb := tlv k) rfl trivial (enters_of Try.func30 (by kernel_rfl) rfl)
    hseq Same.trans (same_put hS) (Below.refl _ _) (fun _ => rfl)
    (fun pre W => (Boxed W w.heap.size 3 (.int .i64 tier) ∧ Boxed W (w.heap.size + 1) 3 (.int .i64 (((pick L pre).filter (isOfB tier)).length : Int))) ∧ Lo (ItsT k p r) w W4 W)
    (fun _ _ _ => False)
    (fun pre A B row h hg hr => ⟨⟨boxed_stay hg hr h.1.1, boxed_stay hg hr h.1.2⟩, h.2.stay hg hr hS (by omega)⟩)
    (fun _ _ _ _ _ hs _ _ => hs)
    ⟨⟨b4, b7⟩, hlo⟩
    (fun x a' W => ∃ b, a' = { tmps := #[.pointer (some ⟨p, 0, none⟩), .int .i64 tier, .int .u8 why, undef, .pointer (some ⟨w.heap.size, 0, none⟩), undef, .int .i64 0, .pointer (some ⟨w.heap.size + 1, 0, none⟩), .pointer (some ⟨b, 0, none⟩), .pointer (some ⟨p, 0, none⟩), .int .u8 why, .func (.func 30) #[] (tlv k), (nth L x).v, undef, undef, undef, undef, undef, undef], defers := [] } ∧ Blk W b tT (ocRow (nth L x)).toArray)
    (fun x a' => ax_own _) ?assign ?body ?done ?stop
  case assign =>
    rintro l pre x W K ⟨⟨i4, i7⟩, hl4⟩ hK
    gi_wp2
    exact hK _ _ (KeepsFrom.of_grownBy (grown_alloc _ _ none) (fun j e => by cases e)) (Same.alloc_ (Same.refl _ _) (fun g hg => by have := hS g hg; have := hl4.size; omega) _) ⟨⟨i4.alloc _, i7.alloc _⟩, hl4.alloc hS _⟩ ⟨_, rfl, Blk.made _ _ _⟩
  case body =>
    rintro l pre x a' W hl hr ⟨⟨i4, i7⟩, hl4⟩ ⟨b, rfl, hb⟩ hlt
    obtain ⟨⟨ya, yb, yc, yd, ye, yf⟩, hy⟩ : ∃ y, nth L x = y := ⟨_, rfl⟩
    obtain ⟨c, hc⟩ : ∃ c, ((pick L pre).filter (isOfB tier)).length = c := ⟨_, rfl⟩
    have hcl : c ≤ 1000 := by
      rw [← hc]
      refine Nat.le_trans (List.length_filter_le _ _) ?_
      unfold pick; rw [List.length_map]; omega
    have hc2 : ((pick L (pre ++ [x])).filter (isOfB tier)).length = if isOfB tier ⟨ya, yb, yc, yd, ye, yf⟩ then c + 1 else c := by
      unfold pick
      rw [List.map_append, List.filter_append, List.map_cons, List.map_nil, hy, List.length_append, hc]
      cases hq : isOfB tier ⟨ya, yb, yc, yd, ye, yf⟩ <;> simp [hq]
    rw [hy] at hb ⊢
    rw [hc] at i7
    have n0 := hb.val (i := 0) rfl
    have n1 := hb.val (i := 1) rfl
    have n2 := hb.val (i := 2) rfl
    have n3 := hb.val (i := 3) rfl
    have n4 := hb.val (i := 4) rfl
    have n5 := hb.val (i := 5) rfl
    simp only [ocRow] at n0 n1 n2 n3 n4 n5
    have q4 := i4.cell
    have hI := Lib.hid (And.intro i4 (And.intro i7 hl4))
    have HC2 := Lib.hid hc2
    have hw2 : IntKind.i64.wrap ((c : Int) + 1) = (c : Int) + 1 := IntWalk.i64_in _ (by omega)
    clear hb hr i4 i7 hl4 hy hc hc2 hseq hlo b4 b7
    obtain ⟨q, hq⟩ : ∃ q, isOfB tier ⟨ya, yb, yc, yd, ye, yf⟩ = q := ⟨_, rfl⟩
    have HQ := Lib.hid hq
    have hNk : ¬ ItsT k p r (w.heap.size + 1) := HN.out _ (.inr rfl)
    have HNK := Lib.hid hNk
    clear hNk
    cases q
    · clear hq
      gi_wp2_with (refine ⟨trivial, ?_⟩; gi_at_call 25; refine (callsIn_wide.2 (tisof ⟨ya, yb, yc, yd, ye, yf⟩ tier _)).mono ?_; rintro e W5 ⟨rfl, hb5⟩; rw [HQ.out]; have j7 := (bxb hI.out.2.1 hb5).cell; have z7 := (bxb hI.out.2.1 hb5).frozen; have HB5 := Lib.hid hb5; clear hb5)
      have hI' := hI.out
      rw [HQ.out] at HC2
      refine ⟨keepsFrom_below HB5.out, Same.below HB5.out (fun g hg => by have := hS g hg; have := hI'.2.2.size; omega), ⟨bxb hI'.1 HB5.out, ?_⟩, hI'.2.2.under hS HB5.out⟩
      rw [HC2.out]
      exact bxb hI'.2.1 HB5.out
    · clear hq
      gi_wp2_with (refine ⟨trivial, ?_⟩; gi_at_call 25; refine (callsIn_wide.2 (tisof ⟨ya, yb, yc, yd, ye, yf⟩ tier _)).mono ?_; rintro e W5 ⟨rfl, hb5⟩; rw [HQ.out]; have j7 := (bxb hI.out.2.1 hb5).cell; have z7 := (bxb hI.out.2.1 hb5).frozen; have HB5 := Lib.hid hb5; clear hb5)
      have hI' := hI.out
      rw [HQ.out] at HC2
      refine ⟨(keepsFrom_below HB5.out).trans ((KeepsOthers.setCell _ _ _).from _), (Same.below HB5.out (fun g hg => by have := hS g hg; have := hI'.2.2.size; omega)).set HNK.out _, ⟨(bxb hI'.1 HB5.out).other (by omega) _, ?_⟩, (hI'.2.2.under hS HB5.out).set HNK.out (by show w.heap.size ≤ w.heap.size + 1; omega) _⟩
      rw [HC2.out, if_pos rfl, show (((c + 1 : Nat)) : Int) = (c : Int) + 1 from by omega]
      exact (bxb hI'.2.1 HB5.out).set _
  case done =>
    rintro D ys W hD rfl ⟨⟨i4, i7⟩, hl4⟩ hK
    rw [HCN.out] at i7
    have c7 := i7.cell
    gi_wp2
    refine ⟨by simp, .inl ⟨_, _, rfl, run_takeDeferred hK, ?_⟩⟩
    exact ⟨_, results_tmp rfl _ _ _, rfl, hl4.below.trans (belowK_b (w := w) (Nat.le_refl _) W D _ _ (by omega) hK rfl rfl)⟩
  case stop =>
    rintro D c pre W _ _ h _
    exact h.elim
end
end Go.Proofs.Ytidkemgibehpcaa
