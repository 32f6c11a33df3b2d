/- Who goes through a log; what is collected; how many there are. -/
import Derived.Test.YtidkemgibehpcaaTld
namespace Go.Proofs.Ytidkemgibehpcaa
open Go.RowKit Go.Shelf
set_option linter.unusedVariables false
set_option linter.unusedSimpArgs false
attribute [local go_sem] Oper.semAt_some
/-- The outcomes of some places. -/
abbrev pick (L : List Oc) (l : List Nat) : List Oc := l.map (nth L)
theorem fl_pick (L : List Oc) (g : Oc → Bool) {f : Nat → Bool} (hf : ∀ i, i < L.length → f i = g (nth L i)) : pick L (fl f L.length) = L.filter g := by
  have key : ∀ n, n ≤ L.length → pick L (fl f n) = (L.take n).filter g := by
    intro n
    induction n with
    | zero => intro _; simp [pick, fl]
    | succ n ih =>
      intro hn
      rw [fl_succ, List.take_add_one, List.filter_append, ← ih (by omega), List.getElem?_eq_getElem (by omega)]
      have e : nth L n = L[n] := getElem!_pos L n (by omega)
      rw [hf n (by omega), e]
      unfold pick
      cases hg : g L[n] with
      | true => rw [if_pos rfl, List.map_append, List.map_cons, List.map_nil, e]; simp [hg]
      | false => rw [if_neg (by decide)]; simp [hg]
  have := key L.length (Nat.le_refl _)
  rwa [List.take_length] at this
theorem ax_own {B : Nat} {a' : Act} (fa : Nat → Act) {o : Oc} : OwnFrom B (fun (_ : Unit) W => ∃ b, a' = fa b ∧ Blk W b tT (ocRow o).toArray) := fun _ X Y row hs hg hr => by
  obtain ⟨b, h1, h2⟩ := hs
  refine ⟨b, h1, h2.kept_by hg fun e => ?_⟩
  obtain ⟨_, ob, ho, hc⟩ := hr b e
  unfold Blk at h2
  rw [h2] at ho
  injection ho with ho
  subst ho
  cases hc
section
variable {base p : Nat} {r : Option Nat} {w w' : World} {L : List Oc}
theorem its_lt {k : Nat} (h : LogAt base w p r L) (hk : k + 1 < w.heap.size) : ∀ g, ItsT k p r g → g < w.heap.size := fun g hg => by
  rcases hg with rfl | rfl | rfl | hg
  · omega
  · omega
  · exact h.lt
  · obtain ⟨cs, hc⟩ := (h.row hg).2; exact hc.size
theorem tstops {k n : Nat} {why : Int} {f : Nat → Bool} (w : World) (hf : ∀ i, i < L.length → f i = whyB why (nth L i)) (hn : 1 ≤ n) (hl : L.length ≤ 10000) (hk : k + 1 < w.heap.size)
    (c0 : w.cell? ⟨k, 0, none⟩ = some (.pointer (some ⟨p, 0, none⟩))) (c1 : w.cell? ⟨k + 1, 0, none⟩ = some (.int .u8 why)) (h : LogAt base w p r L) :
    SeqStopsK Fence.wide n Try.prog 30 (tlv k) (encO L) (Same (ItsT k p r)) (fun ys => ys = fl f L.length) (fun pre => pre <+: fl f L.length) (fl f L.length).length w := fun l J Jx W hB hJ _ hY h0 => by
  have hS := its_lt h hk
  have hs := Same.below hB hS
  exact tall1_in hf hn hl J Jx W (hs.cell c0 (.inl rfl)) (hs.cell c1 (.inr (.inl rfl))) (h.same hs (.inr (.inr (.inl rfl))) (fun g hg => .inr (.inr (.inr hg)))) hY hJ h0
set_option maxRecDepth 100000 in
set_option maxHeartbeats 2000000 in
theorem tall1_nil {l k n : Nat} {why : Int} (hn : 1 ≤ n) (J Jx : List Nat → World → Prop) (W : World) (c0 : W.cell? ⟨k, 0, none⟩ = some (.pointer none)) (h0 : J [] W) :
    CallsIn Fence.wide n Try.prog 30 (#[.func (.yield l) #[] #[]] ++ tlv k) W fun e W' => (∃ v, e = .returned v) ∧ ((∃ ys, ys = [] ∧ J ys W') ∨ (∃ pre, False ∧ Jx pre W')) := by
  refine callsIn_of_wp Try.func30 rfl trivial ?_ rfl
  simp only [Try.ntmps30, List.size_toArray, List.length_cons, List.length_nil, Nat.reduceAdd, Nat.reduceSub, Array.replicate_succ, Array.replicate_zero, List.push_toArray, List.append_toArray, List.nil_append, List.cons_append]
  gi_wp2
  gi_loopg [4] 0 (fun g vi wr => vi = .int .i64 0 ∧ wr = W)
  case atStart => exact ⟨rfl, rfl⟩
  case round =>
    obtain ⟨rfl, rfl⟩ := hrel
    gi_wp2_with (refine ⟨trivial, ?_⟩; gi_at_call 11; refine (callsIn_wide.2 (tlen_nil _)).mono ?_; rintro e w1 ⟨rfl, rfl⟩)
    go_end0
    exact ⟨⟨_, rfl⟩, .inl ⟨_, rfl, h0⟩⟩
theorem tstops_nil {k n : Nat} {Kp : World → World → Prop} (w : World) (hn : 1 ≤ n) (hk : k + 1 < w.heap.size) (c0 : w.cell? ⟨k, 0, none⟩ = some (.pointer none)) :
    SeqStopsK Fence.wide n Try.prog 30 (tlv k) (encO L) Kp (fun ys => ys = []) (fun _ => False) 0 w := fun l J Jx W hB hJ _ hY h0 =>
  tall1_nil (why := 0) hn J Jx W ((hB.cell (p := ⟨k, 0, none⟩) (by simp; omega)).trans c0) h0
set_option maxRecDepth 100000 in
set_option maxHeartbeats 4000000 in
theorem tappendseq {k N n : Nat} {xs : List Nat} {Sp : List Nat → Prop} (w : World) (hn : 2 ≤ n) (hN : N ≤ 10000)
    (hseq : SeqStopsK Fence.wide (n - 1) Try.prog 30 (tlv k) (encO L) (Below w.heap.size) (fun ys => ys = xs) Sp N w) :
    CallsIn Fence.wide n Try.prog 29 #[.slice none 0 0, .func (.func 30) #[] (tlv k)] w fun e w' =>
      ∃ v, e = .returned v ∧ OwO tT w' w.heap.size v (pick L xs) ∧ Below w.heap.size w w' := by
  have h1 : 1 ≤ n := by omega
  obtain ⟨i0, hi, hz0, hz1, hz2⟩ := inf_of tlinfo
  refine callsIn_of_wp_marks Try.func29 rfl trivial ?_ rfl
  simp only [Try.ntmps29, List.size_toArray, List.length_cons, List.length_nil, Nat.reduceAdd, Nat.reduceSub, Array.replicate_succ, Array.replicate_zero, List.push_toArray, List.append_toArray, List.nil_append, List.cons_append]
  gi_wp2
  have bO := Boxed.new w 22 (.slice none 0 0)
  have hB0 : Below w.heap.size w (w.alloc (.cells #[.slice none 0 0] 22)) := (Below.refl _ w).alloc (Nat.le_refl _) _
  refine wpIn_rangeFunc_ownH rfl h1 (gf := 30) (lb := tlv k) rfl trivial (enters_of Try.func30 (by kernel_rfl) rfl)
    hseq belowK_t (belowK_b (by simp)) hB0 (fun _ => rfl)
    (fun pre W => (∃ v, Boxed W w.heap.size 22 v ∧ W.ownsRow w.heap.size tT 6 v pre.length (flatO (pick L pre)) ∧ True) ∧ Below w.heap.size w W)
    (fun _ _ _ => False)
    (OwnFrom.and (Own.from (holdsRow_own w.heap.size w.heap.size 22 tT 6 (fun pre => pre.length) (fun pre => flatO (pick L pre)) (fun _ _ => True)) _) (ownFrom_below (Nat.le_refl _) (by simp)))
    (fun _ _ _ _ _ hs _ _ => hs)
    ⟨⟨_, bO, World.ownsRow_nil _ _ _ _, trivial⟩, hB0⟩
    (fun x a' W => ∃ b, a' = { tmps := #[.slice none 0 0, .func (.func 30) #[] (tlv k), .pointer (some ⟨w.heap.size, 0, none⟩), undef, .slice none 0 0, .pointer (some ⟨b, 0, none⟩), .func (.func 30) #[] (tlv k), (nth L x).v, undef, undef, undef, undef, undef], defers := [] } ∧ Blk W b tT (ocRow (nth L x)).toArray)
    (fun x a' => ax_own _) ?assign ?body ?done ?stop
  case assign =>
    rintro l pre x W K ⟨⟨v, hv, hrow, -⟩, hB⟩ hK
    gi_wp2
    refine hK _ _ (KeepsFrom.of_grownBy (grown_alloc _ _ none) (fun j e => by cases e)) ((Below.refl _ W).alloc hB.size _) ⟨⟨v, hv.alloc _, hrow.alloc _, trivial⟩, hB.alloc hB.size _⟩ ⟨_, rfl, Blk.made _ _ _⟩
  case body =>
    rintro l pre x a' W hl hr ⟨⟨v, hv, hrow, -⟩, hB⟩ ⟨b, rfl, hb⟩ hlt
    have hc := hv.cell
    obtain ⟨⟨ya, yb, yc, yd, ye, yf⟩, hy⟩ : ∃ y, nth L x = y := ⟨_, rfl⟩
    rw [hy] at hb ⊢
    have n0 := hb.val (i := 0) rfl
    have n1 := hb.val (i := 1) rfl
    have n2 := hb.val (i := 2) rfl
    have n3 := hb.val (i := 3) rfl
    have n4 := hb.val (i := 4) rfl
    have n5 := hb.val (i := 5) rfl
    simp only [ocRow] at n0 n1 n2 n3 n4 n5
    have HR := Lib.hid hrow
    have HV := Lib.hid hv
    have HBB := Lib.hid hB
    have HY := Lib.hid hy
    have hM : pre.length ≤ 10000 := by omega
    have hWs := hB.size
    have H1C := oc_one (o := ⟨ya, yb, yc, yd, ye, yf⟩)
    clear hb hr hrow hv hB hy hseq
    gi_wp2_with (gi_at_builtin; refine wpListIn_append_own _ rfl _ _ 22 rfl w.heap.size tT i0 oc0.v 6 48 Try.underlying22 hi hz0 hz1 hz2 rfl (by decide) _ _ _ rfl (HR.out.alloc _) ⟨W.heap.size, 0, none⟩ 1 1 [.int .u64 ya, .int .i64 yb, .int .i64 yc, .int .u8 yd, .int .i64 ye, .int .i64 yf] rfl rfl (World.news_of_block (cs := #[.int .u64 ya, .int .i64 yb, .int .i64 yc, .int .u8 yd, .int .i64 ye, .int .i64 yf]) (t := tT) (fr := (0, 0)) (Blk.new_ (by simp))) H1C (by have := maxbig; omega) (by omega) (by simp; omega) ?_; intro v' w1 hown' hgrow _; obtain ⟨g', cap', rfl⟩ := ownsRow_succ hown'; obtain ⟨hv1, hv2, hr2, hk2, hb2⟩ := HV.out.appended (by decide) HR.out HBB.out.size (Nat.le_refl _) hown' hgrow; have hc1 := hv1.cell; have hf1 := hv1.frozen)
    exact ⟨hk2.from _, hb2, ⟨_, hv2, by rw [show flatO (pick L (pre ++ [x])) = flatO (pick L pre) ++ [.int .u64 ya, .int .i64 yb, .int .i64 yc, .int .u8 yd, .int .i64 ye, .int .i64 yf] from by (unfold pick; rw [List.map_append, flatO_append, List.map_cons, List.map_nil, HY.out, flatO_one]; rfl), List.length_append]; simpa using hr2, trivial⟩, HBB.out.trans hb2⟩
  case done =>
    rintro D ys W hD rfl ⟨⟨v, hv, hrow, -⟩, hB⟩ hK
    have hc := hv.cell
    gi_wp2
    refine ⟨by simp, .inl ⟨_, _, rfl, run_takeDeferred hK, ?_⟩⟩
    refine ⟨_, results_tmp rfl _ _ _, v, rfl, ?_, hB.trans (belowK_b (w := w) (Nat.le_refl _) W D _ _ (by simp at hD; omega) hK rfl rfl)⟩
    have := ownsRow_putObj hrow (.deferred none) hK rfl
    show World.ownsRow _ _ _ 6 _ (pick L ys).length _
    rw [List.length_map]
    exact this
  case stop =>
    rintro D c pre W _ _ h _
    exact h.elim
end
end Go.Proofs.Ytidkemgibehpcaa
