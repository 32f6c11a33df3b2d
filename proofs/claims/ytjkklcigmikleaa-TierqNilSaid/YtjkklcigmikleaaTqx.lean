/- Who goes through a queue, tier by tier: All: the iterator. -/
import Derived.Test.YtjkklcigmikleaaTqo
import Derived.Test.YtjkklcigmikleaaDalp
import Derived.Test.YtjkklcigmikleaaLdr
import Derived.Test.YtjkklcigmikleaaBxs
namespace Go.Proofs.Ytjkklcigmikleaa
open Go.RowKit Go.Shelf
set_option linter.unusedVariables false
set_option linter.unusedSimpArgs false
attribute [local go_sem] Oper.semAt_some
section
variable {q hs sp sc sf rp ra rb hp hb : Nat} {A : Option Addr} {N n K : Nat} {s : Ts}
theorem Blk.kept_by {w w' : World} {g : Nat} {t : TypeId} {cs : Array Value} {row : Option Nat} (h : Blk w g t cs) (hg : w.grownBy w' row) (hr : row ≠ some g) : Blk w' g t cs :=
  (hg.block g h.size (fun e => hr e.symm)).trans h
/-- What the iterator's function leans on under way. -/
structure AllI (wB W0 : World) (k q l : Nat) (W : World) : Prop where
  be : Below wB.heap.size wB W
  bk : Blk W k tyQ #[.pointer (some ⟨q, 0, none⟩)]
  by_ : Blk W W0.heap.size tyY #[.func (.yield l) #[] #[]]
theorem AllI.step {wB W0 X Y : World} {k q l : Nat} (h : AllI wB W0 k q l X) (hk : k ≤ W0.heap.size) (hs : KpQ wB.heap.size k X Y) : AllI wB W0 k q l Y :=
  ⟨h.be.trans hs.be, hs.bx _ _ _ (Nat.le_refl _) (.inl rfl) h.bk, hs.bx _ _ _ hk (.inr (.inl rfl)) h.by_⟩
theorem AllI.own {wB W0 X Y : World} {k q l B : Nat} {row : Option Nat} (h : AllI wB W0 k q l X) (hB : wB.heap.size ≤ B) (hg : X.grownBy Y row) (hr : ∀ r, row = some r → B ≤ r ∧ ∃ o : Obj, X.heap[r]? = some o ∧ o.isCells = false) : AllI wB W0 k q l Y := by
  have nc : ∀ {g : Nat} {t : TypeId} {cs : Array Value}, Blk X g t cs → row ≠ some g := fun hb e => by
    obtain ⟨_, o, ho, hc⟩ := hr _ e
    unfold Blk at hb
    rw [hb] at ho
    injection ho with ho
    subst ho
    cases hc
  exact ⟨h.be.grown hg h.be.size (fun r e => Nat.le_trans hB (hr r e).1), h.bk.kept_by hg (nc h.bk), h.by_.kept_by hg (nc h.by_)⟩
/-- The four boxes of a row's iterator. -/
structure RowB (W : World) (g : Nat) (rp : Nat) (t : Int) : Prop where
  b0 : Blk W g tyR #[.pointer (some ⟨rp, 0, none⟩)]
  b1 : Blk W (g + 1) tyI #[.int .i64 t]
  b2 : Blk W (g + 1 + 1) tyI #[.int .i64 0]
  b3 : Blk W (g + 1 + 1 + 1) tyI #[.int .i64 1]
theorem RowB.at_ {W : World} {g rp : Nat} {t : Int} (h : RowB W g rp t) : AllAt W g (some ⟨rp, 0, none⟩) t 0 1 := ⟨h.b0.val rfl, h.b1.val rfl, h.b2.val rfl, h.b3.val rfl⟩
theorem RowB.step {X Y : World} {g rp B k : Nat} {t : Int} (h : RowB X g rp t) (hk : k ≤ g) (hs : KpQ B k X Y) : RowB Y g rp t :=
  ⟨hs.bx _ _ _ hk (.inr (.inr (.inl rfl))) h.b0, hs.bx _ _ _ (by omega) (.inr (.inr (.inr rfl))) h.b1, hs.bx _ _ _ (by omega) (.inr (.inr (.inr rfl))) h.b2, hs.bx _ _ _ (by omega) (.inr (.inr (.inr rfl))) h.b3⟩
theorem RowB.own {X Y : World} {g rp : Nat} {t : Int} {row : Option Nat} (h : RowB X g rp t) (hg : X.grownBy Y row) (hr : ∀ r, row = some r → ∃ o : Obj, X.heap[r]? = some o ∧ o.isCells = false) : RowB Y g rp t := by
  have nc : ∀ {g : Nat} {t : TypeId} {cs : Array Value}, Blk X g t cs → row ≠ some g := fun hb e => by
    obtain ⟨o, ho, hc⟩ := hr _ e
    unfold Blk at hb
    rw [hb] at ho
    injection ho with ho
    subst ho
    cases hc
  exact ⟨h.b0.kept_by hg (nc h.b0), h.b1.kept_by hg (nc h.b1), h.b2.kept_by hg (nc h.b2), h.b3.kept_by hg (nc h.b3)⟩
theorem RowB.same {X Y : World} {g rp B k p a b : Nat} {t : Int} (h : RowB X g rp t) (hk : k ≤ g) (hs : KpQ B k X Y) (hp : p < B ∧ a < B ∧ b < B) : Same (Its p a b g) X Y := fun x hx => by
  have h2 := h.step hk hs
  rcases hx with rfl | rfl | rfl | rfl | rfl | rfl | rfl
  · exact hs.be.block _ hp.1
  · exact hs.be.block _ hp.2.1
  · exact hs.be.block _ hp.2.2
  · exact h2.b0.trans h.b0.symm
  · exact h2.b1.trans h.b1.symm
  · exact h2.b2.trans h.b2.symm
  · exact h2.b3.trans h.b3.symm
theorem grown_none {w w' : World} (h : Below w.heap.size w w') : w.grownBy w' none := ⟨h.os, h.tape, h.output, h.size, fun k hk _ => h.block k hk⟩
theorem own_below_ {β : Type} {B : Nat} {J : β → World → Prop} (hJ : OwnFrom B J) {x : β} {X Y : World} (h : J x X) (hb : Below X.heap.size X Y) : J x Y := hJ x X Y none h (grown_none hb) (fun r e => by cases e)
theorem keeps_below {B : Nat} {X Y : World} (hb : Below X.heap.size X Y) : KeepsFrom B X Y := KeepsFrom.of_grownBy (grown_none hb) (fun j e => by cases e)
/-- Its boxes made. -/
theorem all_boxed (p : Nat) (r : Int) (w : World) :
    Calls Try.prog 51 #[.pointer (some ⟨p, 0, none⟩), .int .i64 r, .bool false] w fun e w' => e = .returned (.func (.func 66) #[] (allv w.heap.size)) ∧ RowB w' w.heap.size p r ∧ Below w.heap.size w w' := by
  go_enter Try.func51, Try.ntmps51
  go_wp2
  go_ret
  refine ⟨rfl, ⟨?_, ?_, ?_, ?_⟩, ?_⟩
  · exact ((((Blk.made w _ _).alloc_ _).alloc_ _).alloc_ _)
  · exact (((Blk.new_ (by simp)).alloc_ _).alloc_ _)
  · exact ((Blk.new_ (by simp)).alloc_ _)
  · exact (Blk.new_ (by simp))
  · exact ((((Below.refl _ w).alloc (Nat.le_refl _) _).alloc (by simp) _).alloc (by simp; omega) _).alloc (by simp; omega) _
set_option maxRecDepth 100000 in
set_option maxHeartbeats 8000000 in
theorem tq_all1 {l k m : Nat} (wB : World) (h : TqAt wB q hs sp sc sf rp ra rb hp hb A N n s.V s.H s.T s.R s.m s.F s.L s.ub s.D) (inv : TInv N n K s) (hN : N ≤ 8) (hK : K ≤ 1000000) (hm : 3 ≤ m) (J Jx : List Nat → World → Prop) (W : World)
    (hB : Below wB.heap.size wB W) (hkB : wB.heap.size ≤ k) (hk : Blk W k tyQ #[.pointer (some ⟨q, 0, none⟩)])
    (hJ : OwnFrom W.heap.size J) (hJx : OwnFrom W.heap.size Jx)
    (hY : ∀ pre x W1, J pre W1 → (pre ++ [x]) <+: allT s.L N → YieldAt Fence.wide (m - 1) Try.prog l (encQ s.V s.R x) W1 fun e W' => KeepsFrom W.heap.size W1 W' ∧
      ((e = .returned (.bool true) ∧ J (pre ++ [x]) W' ∧ KpQ wB.heap.size k W1 W') ∨ (e = .returned (.bool false) ∧ Jx (pre ++ [x]) W')))
    (h0 : J [] W) :
    CallsIn Fence.wide m Try.prog 50 (#[.func (.yield l) #[] #[]] ++ #[.pointer (some ⟨k, 0, none⟩)]) W fun e W' => (∃ v, e = .returned v) ∧ (J (allT s.L N) W' ∨ (∃ pre, pre <+: allT s.L N ∧ Jx pre W')) := by
  have H0 := Lib.hid h
  have HY := Lib.hid hY
  have HB := Lib.hid hB
  have hkW : k < W.heap.size := hk.size
  clear h hY hB
  refine callsIn_of_wp_marks Try.func50 rfl trivial ?_ rfl
  simp only [Try.ntmps50, List.size_toArray, List.length_cons, List.length_nil, Nat.reduceAdd, Nat.reduceSub, Array.replicate_succ, Array.replicate_zero, List.push_toArray, List.append_toArray, List.nil_append, List.cons_append]
  have c0 := hk.val (i := 0) rfl
  gi_wp2
  refine ⟨trivial, fun _ => by omega, ?_⟩
  have hq0 := H0.out.below (HB.out.alloc (by have := HB.out.size; omega) (.cells #[.func (.yield l) #[] #[]] tyY))
  refine (callsIn_wide.2 (ttier _ hq0)).mono ?_
  rintro e w1 ⟨rfl, rfl⟩
  gi_wp2
  have hI0 : AllI wB W k q l (W.alloc (.cells #[.func (.yield l) #[] #[]] tyY)) := ⟨HB.out.alloc HB.out.size _, hk.alloc_ _, Blk.made _ _ _⟩
  have hJ0 : J (allT s.L 0) (W.alloc (.cells #[.func (.yield l) #[] #[]] tyY)) := hJ.alloc _ h0
  have HI0 := Lib.hid hI0
  have HJ0 := Lib.hid hJ0
  clear hI0 hJ0 h0 c0 hq0 hk
  refine wpIn_loop_ghost_k (fun g a' W' => ∃ (t : Nat) (ds : List Deferred) (u3 u11 u12 u13 u14 u15 u16 u17 u18 u41 : Value), a' = ⟨#[.func (.yield l) #[] #[], .pointer (some ⟨k, 0, none⟩), .pointer (some ⟨W.heap.size, 0, none⟩), u3, undef, undef, undef, undef, .pointer (some ⟨q, 0, none⟩), .int .i64 (N : Int), .int .i64 (t : Int), u11, u12, u13, u14, u15, u16, u17, u18, undef, undef, undef, undef, undef, undef, undef, undef, undef, undef, undef, undef, undef, undef, undef, undef, undef, undef, undef, undef, undef, undef, u41], ds⟩ ∧ g = N - t ∧ t ≤ N ∧ J (allT s.L t) W' ∧ AllI wB W k q l W' ∧ Marks W.heap.size ds W') N ⟨0, [], undef, undef, undef, undef, undef, undef, undef, undef, undef, undef, rfl, rfl, Nat.zero_le _, HJ0.out, HI0.out, ⟨by simp, fun d hd => by cases hd⟩⟩ ?_
  clear HI0 HJ0
  rintro g a' W1 ⟨t, ds, u3, u11, u12, u13, u14, u15, u16, u17, u18, u41, rfl, rfl, ht, hJ1, hI1, hM1⟩ JJ KK hJJ hKK
  have HJ1 := Lib.hid hJ1
  have HI1 := Lib.hid hI1
  have HM1 := Lib.hid hM1
  have HJJ := Lib.hid hJJ
  have HKK := Lib.hid hKK
  clear hJ1 hI1 hM1 hJJ hKK
  by_cases htN : t < N
  · have t1 : (t : Int) < (N : Int) := by omega
    have tw : IntKind.i64.wrap ((t : Int) + 1) = (t : Int) + 1 := IntWalk.i64_in _ (by omega)
    have c0 := HI1.out.bk.val (i := 0) rfl
    have hq1 := H0.out.below HI1.out.be
    have q2 := hq1.q2
    have HQ1 := Lib.hid hq1
    clear hq1
    gi_wp2
    refine ⟨trivial, fun _ => by omega, ?_⟩
    refine (callsIn_wide.2 (all_boxed rp (t : Int) _)).mono ?_
    rintro e W2 ⟨rfl, hRB, hb2⟩
    obtain ⟨gA, hgA⟩ : ∃ gA, W1.heap.size = gA := ⟨_, rfl⟩
    have hW1 : wB.heap.size ≤ W1.heap.size := HI1.out.be.size
    have hkA : k ≤ gA := by rw [← hgA]; exact Nat.le_of_lt HI1.out.bk.size
    have hWA : W.heap.size ≤ gA := by rw [← hgA]; exact Nat.le_of_lt HI1.out.by_.size
    rw [hgA] at hRB
    have hgA2 : gA + 1 + 1 + 1 < W2.heap.size := hRB.b3.size
    have hJ2 := own_below_ hJ HJ1.out hb2
    have hI2 := HI1.out.step (by omega) (KpQ.of_below hb2 hW1)
    have hM2 := HM1.out.keeps (keeps_below hb2)
    have HJ2 := Lib.hid hJ2
    have HI2 := Lib.hid hI2
    have HM2 := Lib.hid hM2
    have HRB := Lib.hid hRB
    have hW2 : wB.heap.size ≤ W2.heap.size := HI2.out.be.size
    have HQ2 := Lib.hid (H0.out.below HI2.out.be)
    have hsz := H0.out.rows.lts
    clear hJ2 hI2 hM2 hRB hb2 q2 c0 HJ1 HI1 HM1 HQ1
    gi_wp2
    have hrs := rows_way (k := gA) (m := m - 1) (r := t) W2 HQ2.out.rows htN (by omega) hgA2 HRB.out.at_
    refine wpIn_rangeP rfl (by omega) (gf := 66) (lb := allv gA) rfl trivial (enters_of Try.func66 (by kernel_rfl) rfl)
      hrs Same.trans (fun X g o o' hl ho hc _ => same_put (fun g hg => by rcases hg with rfl | rfl | rfl | rfl | rfl | rfl | rfl <;> omega) X g o o' hl ho hc (by assumption)) (Below.refl _ _) (fun _ => rfl)
      (fun pre X => J (allT s.L t ++ pre) X ∧ AllI wB W k q l X ∧ Marks W.heap.size ds X ∧ RowB X gA rp (t : Int))
      (fun c pre X => c = .ret ∧ Jx (allT s.L t ++ pre) X ∧ Marks W.heap.size ds X)
      (fun pre X Y row h hg hr => ⟨hJ _ X Y row h.1 hg (fun r e => ⟨by have := (hr r e).1; omega, (hr r e).2⟩), h.2.1.own hW2 hg hr, HM2.out.own (Nat.le_refl _) h.2.2.1 hg (fun r e => (hr r e).1), h.2.2.2.own hg (fun r e => (hr r e).2)⟩)
      (fun c pre X Y row h hg hr => ⟨h.1, hJx _ X Y row h.2.1 hg (fun r e => ⟨by have := (hr r e).1; omega, (hr r e).2⟩), HM2.out.own (Nat.le_refl _) h.2.2 hg (fun r e => (hr r e).1)⟩)
      ⟨by rw [List.append_nil]; exact HJ2.out, HI2.out, HM2.out, HRB.out⟩
      (fun x a' _ => a' = ⟨#[.func (.yield l) #[] #[], .pointer (some ⟨k, 0, none⟩), .pointer (some ⟨W.heap.size, 0, none⟩), .int .i64 (t : Int), .int .i64 (x : Int), undef, undef, undef, .pointer (some ⟨q, 0, none⟩), .int .i64 (N : Int), .int .i64 (t : Int), .bool true, .int .i64 (t : Int), .pointer (some ⟨q, 0, none⟩), .pointer (some ⟨q, 0, none⟩), .pointer (some ⟨q, 2, none⟩), .pointer (some ⟨rp, 0, none⟩), .int .i64 (t : Int), .func (.func 66) #[] (allv gA), .int .i64 (x : Int), undef, undef, undef, undef, undef, undef, undef, undef, undef, undef, undef, undef, undef, undef, undef, undef, undef, undef, undef, undef, undef, u41], []⟩) (fun x a' => fun _ X Y row h _ _ => h) ?assign ?body ?done ?stop
    case assign =>
      rintro lz pre x X K hi hpx hK
      gi_wp2
      exact hK _ _ (KeepsFrom.refl _ _) (Same.refl _ _) hi rfl
    case body =>
      rintro lz pre x a' X hlz hrec ⟨hJ3, hI3, hM3, hR3⟩ rfl hlen
      have hxm : x ∈ s.L t := hlen.subset (by simp)
      have hx := inv.rt t htN x hxm
      have hvx := inv.vh x hx.1 hx.2.1
      have hhx := inv.hh x hx.1
      have hal := alive_of inv hx.1 hx.2.1 rfl
      have hg0 : 0 ≤ s.V x := by rw [hvx]; exact hhx.2.1
      have hg1 : s.V x ≤ 18446744073709551615 := by rw [hvx]; omega
      rw [← hvx] at hal
      have HQ3 := Lib.hid (H0.out.below hI3.be)
      have c0 := hI3.bk.val (i := 0) rfl
      have q4 := HQ3.out.q4
      have q1 := HQ3.out.q1
      have v0 := HQ3.out.h0 hx.1
      have x0 : (0 : Int) ≤ (x : Int) := by omega
      have x1 : (x : Int) < (n : Int) := by omega
      have HH := Lib.hid (And.intro hJ3 (And.intro hI3 (And.intro hM3 hR3)))
      have HAL := Lib.hid hal
      have HPX := Lib.hid hlen
      obtain ⟨vx, hvx2⟩ : ∃ vx, s.V x = vx := ⟨_, rfl⟩
      rw [hvx2] at v0 hg0 hg1
      have HVX := Lib.hid hvx2
      clear hJ3 hI3 hM3 hR3 hal hlen hhx hvx hvx2 hxm
      gi_wp2
      refine ⟨trivial, fun _ => by omega, ?_⟩
      refine (CallsIn.inRound lz (callsIn_wide.2 (slget_yes (i := x) vx _ HQ3.out.slab hg0 hg1 (by rw [← HVX.out]; exact HAL.out.1) (by rw [← HVX.out]; exact HAL.out.2)))).mono ?_
      rintro e X4 ⟨rfl, hb4⟩
      obtain ⟨⟨ra_, rb_, rc_, rd_, re_⟩, hrx⟩ : ∃ r, s.R x = r := ⟨_, rfl⟩
      rw [hrx]
      simp only [rqv]
      have HRX := Lib.hid hrx
      clear hrx
      have hb5 : Below X.heap.size X (X4.alloc (.cells #[.int .u64 ra_, .int .i64 rb_, .int .i64 rc_, .int .i64 rd_, .int .i64 re_] 33)) := hb4.alloc hb4.size _
      have hJ5 := own_below_ hJ HH.out.1 hb5
      have hI5 := HH.out.2.1.step (by omega) (KpQ.of_below hb5 (by have := HH.out.2.1.be.size; omega))
      have hM5 := HH.out.2.2.1.keeps (keeps_below hb5)
      have hR5 := HH.out.2.2.2.step hkA (KpQ.of_below (B := wB.heap.size) (k := k) hb5 (by have := HH.out.2.1.be.size; omega))
      have hK5 : KeepsFrom W2.heap.size X (X4.alloc (.cells #[.int .u64 ra_, .int .i64 rb_, .int .i64 rc_, .int .i64 rd_, .int .i64 re_] 33)) := keeps_below hb5
      have hS5 := HH.out.2.2.2.same (B := wB.heap.size) (k := k) (p := rp) (a := ra) (b := rb) hkA (KpQ.of_below hb5 (by have := HH.out.2.1.be.size; omega)) hsz
      have hcut : (allT s.L t ++ pre) ++ [x] <+: allT s.L N := by
        rw [List.append_assoc]
        have h1 : allT s.L t ++ (pre ++ [x]) <+: allT s.L t ++ s.L t := by
          obtain ⟨d, hd⟩ := HPX.out
          exact ⟨d, by rw [List.append_assoc, hd]⟩
        rw [← allT_succ] at h1
        exact h1.trans (allT_pre s.L (by omega))
      obtain ⟨fn, tmps, assign, body, hy1, hR⟩ := YieldAt.anyDepth (F := Fence.wide) rfl (m - 1 - 1 - 1) (HY.out _ x _ hJ5 hcut)
      unfold encQ at hy1
      rw [HVX.out, HRX.out] at hy1
      simp only [rqv] at hy1
      have y0 := hI5.by_.val (i := 0) rfl
      have H5 := Lib.hid (And.intro hI5 (And.intro hM5 (And.intro hR5 (And.intro hK5 hS5))))
      have HRR := Lib.hid hR
      have HCUT := Lib.hid hcut
      clear hb5 hJ5 hI5 hM5 hR5 hK5 hS5 hb4 hR hcut c0 q4 q1 v0
      gi_wp2
      refine ⟨fun h => (by cases h), ?_⟩
      refine RoundIn.mono (F := Fence.wide.inRound lz) (show RoundIn Fence.wide (m - 1 - 1 - 1) _ _ _ _ _ _ _ _ from RoundIn.anyDepth rfl HRR.out) ?_
      rintro e X6 ⟨hK6, ⟨rfl, hJ6, hS6⟩ | ⟨rfl, hJx6⟩⟩
      · have hkw : KeepsFrom W2.heap.size X X6 := H5.out.2.2.2.1.trans (keeps_more hK6 (by omega))
        have hI6 := H5.out.1.step (by omega) hS6
        have hM6 := H5.out.2.1.keeps hK6
        have hR6 := H5.out.2.2.1.step hkA hS6
        have hS7 := H5.out.2.2.2.2.trans (H5.out.2.2.1.same (p := rp) (a := ra) (b := rb) hkA hS6 hsz)
        gi_wp2
        exact ⟨hkw, hS7, by rw [← List.append_assoc]; exact hJ6, hI6, hM6, hR6⟩
      · have hkw : KeepsFrom W2.heap.size X X6 := H5.out.2.2.2.1.trans (keeps_more hK6 (by omega))
        have hM6 := H5.out.2.1.keeps hK6
        gi_wp2
        exact ⟨hkw, rfl, by rw [← List.append_assoc]; exact hJx6, hM6⟩
    case done =>
      rintro D X hD ⟨hJ7, hI7, hM7, hR7⟩ hDo
      have hM8 : Marks W.heap.size ({ target := .collected D, args := #[] } :: ds) X := hM7.add (by have := HI2.out.by_.size; omega) hDo (fun d hd D' e => by
        obtain ⟨D2, e2, _, h3⟩ := HM2.out.2 d hd
        rw [e] at e2
        injection e2 with e2
        injection e2 with e2
        subst e2
        have := (Array.getElem?_eq_some_iff.1 h3).1
        omega)
      rw [← allT_succ] at hJ7
      have HE := Lib.hid (And.intro hJ7 (And.intro hI7 hM8))
      clear hJ7 hI7 hM7 hR7 hM8 hDo
      gi_wp2
      rw [show ((t : Int) + 1) = ((t + 1 : Nat) : Int) from by omega]
      exact HKK.out _ _ ⟨N - (t + 1), by omega, HJJ.out _ _ _ ⟨t + 1, _, _, _, _, _, _, _, _, _, _, _, rfl, rfl, by omega, HE.out.1, HE.out.2.1, HE.out.2.2⟩⟩
    case stop =>
      rintro D c pre X hD hpre ⟨rfl, hJx7, hM7⟩ hDo
      have hM8 : Marks W.heap.size ({ target := .collected D, args := #[] } :: ds) X := hM7.add (by have := HI2.out.by_.size; omega) hDo (fun d hd D' e => by
        obtain ⟨D2, e2, _, h3⟩ := HM2.out.2 d hd
        rw [e] at e2
        injection e2 with e2
        injection e2 with e2
        subst e2
        have := (Array.getElem?_eq_some_iff.1 h3).1
        omega)
      have hp : allT s.L t ++ pre <+: allT s.L N := by
        have h1 : allT s.L t ++ pre <+: allT s.L t ++ s.L t := by
          obtain ⟨d, hd⟩ := hpre
          exact ⟨d, by rw [List.append_assoc, hd]⟩
        rw [← allT_succ] at h1
        exact h1.trans (allT_pre s.L (by omega))
      have HE := Lib.hid (And.intro hJx7 (And.intro hM8 hp))
      clear hJx7 hM7 hM8 hDo hp
      gi_wp2
      exact leaves_marks (B := W.heap.size) (fun Y => results_none rfl _ _ _) (fun Y => Jx (allT s.L t ++ pre) Y) (fun _ => hJx _) (fun Y h => ⟨⟨_, rfl⟩, .inr ⟨_, HE.out.2.2, h⟩⟩) _ X HE.out.2.1 HE.out.1
  · have e : t = N := by omega
    subst e
    have t1 : ¬ (t : Int) < (t : Int) := by omega
    gi_wp2
    exact leaves_marks (B := W.heap.size) (fun Y => results_none rfl _ _ _) (fun Y => J (allT s.L t) Y) (fun _ => hJ _) (fun Y h => ⟨⟨_, rfl⟩, .inl h⟩) _ W1 HM1.out HJ1.out
end
end Go.Proofs.Ytjkklcigmikleaa
/- A queue as a sequence of handles and requests. -/
namespace Go.Proofs.Ytjkklcigmikleaa
open Go.RowKit Go.Shelf
set_option linter.unusedVariables false
set_option linter.unusedSimpArgs false
attribute [local go_sem] Oper.semAt_some
theorem tqall_made (o : Option Addr) (w : World) :
    Calls Try.prog 21 #[.pointer o] w fun e w' => e = .returned (.func (.func 50) #[] #[.pointer (some ⟨w.heap.size, 0, none⟩)]) ∧ Blk w' w.heap.size tyQ #[.pointer o] ∧ Below w.heap.size w w' := by
  go_enter Try.func21, Try.ntmps21
  go_wp2
  go_ret
  exact ⟨rfl, Blk.made w _ _, (Below.refl _ w).alloc (Nat.le_refl _) _⟩
/-- Who goes through a queue meets its members, tier by tier. -/
theorem tq_way {base q N n K k m : Nat} {s : Ts} (wB w : World) (h : TqL wB base q N n K s) (hN : N ≤ 8) (hK : K ≤ 1000000) (hm : 3 ≤ m) (hB : Below wB.heap.size wB w) (hkB : wB.heap.size ≤ k) (hk : Blk w k tyQ #[.pointer (some ⟨q, 0, none⟩)]) :
    SeqP Fence.wide m Try.prog 50 #[.pointer (some ⟨k, 0, none⟩)] (encQ s.V s.R) (KpQ wB.heap.size k) (allT s.L N) w := fun l J Jx W hW hJ hJx hY h0 => by
  obtain ⟨⟨hs, sp, sc, sf, rp, ra, rb, hp, hb, A, h1, -⟩, h3⟩ := h
  exact tq_all1 wB h1 h3 hN hK hm J Jx W (hB.trans (hW.mono hB.size)) hkB (hk.below_ hW hk.size) hJ hJx hY h0
set_option maxRecDepth 100000 in
set_option maxHeartbeats 2000000 in
/-- Of a nil queue nobody comes. -/
theorem tq_way_nil {k m : Nat} {encs : Nat → Array Value} {Kp : World → World → Prop} (w : World) (hm : 3 ≤ m) (hk : Blk w k tyQ #[.pointer none]) :
    SeqP Fence.wide m Try.prog 50 #[.pointer (some ⟨k, 0, none⟩)] encs Kp [] w := fun l J Jx W hW hJ hJx hY h0 => by
  have hk1 := hk.below_ hW hk.size
  have hkW : k < W.heap.size := hk1.size
  have c0 := hk1.val (i := 0) rfl
  refine callsIn_of_wp_marks Try.func50 rfl trivial ?_ rfl
  simp only [Try.ntmps50, List.size_toArray, List.length_cons, List.length_nil, Nat.reduceAdd, Nat.reduceSub, Array.replicate_succ, Array.replicate_zero, List.push_toArray, List.append_toArray, List.nil_append, List.cons_append]
  gi_wp2
  refine ⟨trivial, fun _ => by omega, ?_⟩
  refine (callsIn_wide.2 (ttier_nil _)).mono ?_
  rintro e w1 ⟨rfl, rfl⟩
  have hJ1 : J [] (W.alloc (.cells #[.func (.yield l) #[] #[]] tyY)) := hJ.alloc _ h0
  gi_wp2
  gi_loopg [10] 0 (fun g s10 wr => s10 = .int .i64 0 ∧ J [] wr)
  case atStart => exact ⟨rfl, hJ1⟩
  case round =>
    obtain ⟨rfl, hj⟩ := hrel
    gi_wp2
    exact leaves_marks (B := W.heap.size) (fun Y => results_none rfl _ _ _) (fun Y => J [] Y) (fun _ => hJ _) (fun Y h => ⟨⟨_, rfl⟩, .inl h⟩) [] _ ⟨by simp, fun d hd => by cases hd⟩ hj
end Go.Proofs.Ytjkklcigmikleaa
/- Numbers that there can't be; what TierqNil leans on. -/
namespace Go.Proofs.Ytjkklcigmikleaa
open Go.ChangeShapes Go.WideShapes Go.ChangeAt Go.RowKit Go.Shelf
set_option linter.unusedVariables false
set_option linter.unusedSimpArgs false
def Fit (n m : Int) : Prop := (1 ≤ n ∧ n ≤ 8) ∧ 1 ≤ m ∧ m ≤ 1024
theorem fit_cases (n m : Int) : (n ≤ 0 ∧ ¬ Fit n m) ∨ (0 < n ∧ 8 < n ∧ ¬ Fit n m) ∨ (0 < n ∧ n ≤ 8 ∧ m ≤ 0 ∧ ¬ Fit n m) ∨ (0 < n ∧ n ≤ 8 ∧ 0 < m ∧ 1024 < m ∧ ¬ Fit n m) ∨ (0 < n ∧ n ≤ 8 ∧ 0 < m ∧ m ≤ 1024 ∧ Fit n m) := by
  unfold Fit; omega
instance (n m : Int) : Decidable (Fit n m) := by unfold Fit; infer_instance
theorem r6right (n m : Int) (w : World) (n0 : -9223372036854775808 ≤ n) (n1 : n ≤ 9223372036854775807) (m0 : -9223372036854775808 ≤ m) (m1 : m ≤ 9223372036854775807) :
    Calls Try.prog 22 #[.int .i64 n, .int .i64 m] w fun e w' => e = .returned (.bool (decide (Fit n m))) ∧ w = w' := by
  rcases fit_cases n m with ⟨h1, hF⟩ | ⟨h1, h2, hF⟩ | ⟨h1, h2, h3, hF⟩ | ⟨h1, h2, h3, h4, hF⟩ | ⟨h1, h2, h3, h4, hF⟩
  all_goals
    first | rw [decide_eq_false hF] | rw [decide_eq_true hF]
    clear hF
    go_enter Try.func22, Try.ntmps22
    go_wp2
    go_ret
    first | exact ⟨rfl, rfl⟩ | (refine ⟨?_, rfl⟩; simp; omega)
theorem dnew_no (n m : Int) (w : World) (hn : ¬ Fit n m) (n0 : -9223372036854775808 ≤ n) (n1 : n ≤ 9223372036854775807) (m0 : -9223372036854775808 ≤ m) (m1 : m ≤ 9223372036854775807) :
    Calls Try.prog 25 #[.int .i64 n, .int .i64 m] w fun e w' => e = .returned (.tuple #[.pointer none, .int .i64 1]) ∧ w = w' := by
  rcases fit_cases n m with ⟨h1, hF⟩ | ⟨h1, h2, hF⟩ | ⟨h1, h2, h3, hF⟩ | ⟨h1, h2, h3, h4, hF⟩ | ⟨h1, h2, h3, h4, hF⟩
  all_goals first
    | exact absurd hF hn
    | (clear hF hn
       go_enter Try.func25, Try.ntmps25
       go_wp2
       go_ret2
       exact ⟨rfl, rfl⟩)
theorem tqnew_no (n m : Int) (w : World) (hn : ¬ Fit n m) (n0 : -9223372036854775808 ≤ n) (n1 : n ≤ 9223372036854775807) (m0 : -9223372036854775808 ≤ m) (m1 : m ≤ 9223372036854775807) :
    Calls Try.prog 6 #[.int .i64 n, .int .i64 m] w fun e w' => e = .returned (.tuple #[.pointer none, .int .i64 1]) ∧ w = w' := by
  have k := dnew_no n m w hn n0 n1 m0 m1
  clear hn
  go_enter Try.func6, Try.ntmps6
  go_wp2_with fail
  refine k.mono ?_
  rintro e w1 ⟨rfl, rfl⟩
  go_wp2_with fail
  go_ret2
  exact ⟨rfl, rfl⟩
/-- A new queue, or none: whatever the numbers. -/
theorem tqnew_any (n m : Int) (w : World) (n0 : -9223372036854775808 ≤ n) (n1 : n ≤ 9223372036854775807) (m0 : -9223372036854775808 ≤ m) (m1 : m ≤ 9223372036854775807) :
    Calls Try.prog 6 #[.int .i64 n, .int .i64 m] w fun e w' => (∃ o : Option Addr, e = .returned (.tuple #[.pointer o, .int .i64 (if Fit n m then 0 else 1)]) ∧ (o = none ↔ ¬ Fit n m)) ∧ Below w.heap.size w w' := by
  by_cases h : Fit n m
  · rw [if_pos h]
    have h2 := h
    unfold Fit at h2
    have k := tq_new n.toNat m.toNat w (by omega) (by omega) (by omega) (by omega)
    rw [show ((n.toNat : Nat) : Int) = n by omega, show ((m.toNat : Nat) : Int) = m by omega] at k
    refine k.mono ?_
    rintro e w' ⟨q, rfl, -, hb⟩
    exact ⟨⟨_, rfl, by simp [h]⟩, hb⟩
  · rw [if_neg h]
    refine (tqnew_no n m w h n0 n1 m0 m1).mono ?_
    rintro e w' ⟨rfl, rfl⟩
    exact ⟨⟨_, rfl, by simp [h]⟩, Below.refl _ _⟩
set_option maxHeartbeats 1000000 in
theorem ttake_nil (g : Int) (w : World) : Calls Try.prog 14 #[.pointer none, .int .u64 g] w fun e w' => e = .returned (.tuple #[rqv ⟨0, 0, 0, 0, 0⟩, .int .i64 3]) ∧ Below w.heap.size w w' := by
  go_enter Try.func14, Try.ntmps14
  go_upto_region 1 with fail
  refine wp_worldx (fun wx => Bxs w wx [(w.heap.size, 33, [.int .u64 0, .int .i64 0, .int .i64 0, .int .i64 0, .int .i64 0])]) ((Bxs.nil_ w).alloc_ _ _ (by simp)) ?_
  rintro x1 bx
  have BX := Lib.hid bx
  clear bx
  go_upto_region 2 with (go_at_call 10; refine (tget_nil _ _).mono ?_; rintro e w1 ⟨he, hbw⟩; have he : e = .returned (.tuple #[.agg #[.int .u64 0, .int .i64 0, .int .i64 0, .int .i64 0, .int .i64 0], .int .i64 3]) := he; subst he; have BY := Lib.hid (BX.out.below hbw); clear hbw)
  refine wp_worldx (fun wx => Bxs w wx [(w.heap.size, 33, [.int .u64 0, .int .i64 0, .int .i64 0, .int .i64 0, .int .i64 0])]) (by first | exact BY.out.below ((Below.refl _ _).alloc (Nat.le_refl _) _) | (refine BY.out.below ?_; repeat (first | with_reducible exact Below.refl _ _ | refine Below.setCell ?_ (by simp) _ | refine Below.alloc ?_ (by (try simp)) _))) ?_
  clear BX BY
  rintro x2 bx
  have p0 := (bx.bl 0 _ _ _ rfl).val (i := 0) rfl
  have p1 := (bx.bl 0 _ _ _ rfl).val (i := 1) rfl
  have p2 := (bx.bl 0 _ _ _ rfl).val (i := 2) rfl
  have p3 := (bx.bl 0 _ _ _ rfl).val (i := 3) rfl
  have p4 := (bx.bl 0 _ _ _ rfl).val (i := 4) rfl
  have zb := (bx.bl 0 _ _ _ rfl).size
  have zf := (bx.bl 0 _ _ _ rfl).free
  have BX := Lib.hid bx
  clear bx
  go_wp2_with fail
  refine bodyPost_ret (v := .tuple #[rqv ⟨0, 0, 0, 0, 0⟩, .int .i64 3]) (by simp [results, Try.results14, go_sem, rqv, *]) rfl ⟨rfl, ?_⟩
  repeat (first | with_reducible exact BX.out.be | refine Below.setCell ?_ (by simp) _)
theorem Bxs.own {v X Y : World} {L : List Bx1} {B : Nat} {row : Option Nat} (h : Bxs v X L) (hB : v.heap.size ≤ B) (hg : X.grownBy Y row) (hr : ∀ r, row = some r → B ≤ r ∧ ∃ o : Obj, X.heap[r]? = some o ∧ o.isCells = false) : Bxs v Y L := by
  have nc : ∀ {g : Nat} {t : TypeId} {cs : Array Value}, Blk X g t cs → row ≠ some g := fun hb e => by
    obtain ⟨_, o, ho, hc⟩ := hr _ e
    unfold Blk at hb
    rw [hb] at ho
    injection ho with ho
    subst ho
    cases hc
  exact ⟨fun i g T l hi => (h.bl i g T l hi).kept_by hg (nc (h.bl i g T l hi)), h.lo, h.ne, h.be.grown hg h.be.size (fun r e => Nat.le_trans hB (hr r e).1)⟩
/-- A function leaves with its marks: its result is read off the world. -/
theorem leaves_marksC {F : Fence} {n : Nat} {P : Program} {fn : Func} {tmps : Array Value} {R : Ending → World → Prop} {B : Nat} {v : Value} (Φ : World → Prop) (hv : ∀ W, Φ W → (results fn tmps).run P W = .ok v W) (hΦ : OwnFrom B (fun (_ : Unit) W => Φ W)) (hR : ∀ W, Φ W → R (.returned v) W) :
    ∀ (ds : List Deferred) (W : World), Marks B ds W → Φ W → LeavesInM F n P fn tmps R ds .returning W
  | [], W, _, h => ⟨v, hv W h, hR W h⟩
  | d :: ds, W, hm, h => by
    obtain ⟨D, rfl, hB, hD⟩ := hm.2 d List.mem_cons_self
    have h9 := hm.1
    rw [List.map_cons] at h9
    have h8 := List.nodup_cons.1 h9
    refine ⟨by simp, .inl ⟨D, _, rfl, run_takeDeferred hD, leaves_marksC Φ hv hΦ hR ds _ ⟨h8.2, fun d hd => ?_⟩ (hΦ.putObj (s := ()) _ h hB hD rfl)⟩⟩
    obtain ⟨D', h1, h2, h3⟩ := hm.2 d (List.mem_cons_of_mem _ hd)
    refine ⟨D', h1, h2, (World.putObj_heap_other ?_).trans h3⟩
    rintro rfl
    exact h8.1 (List.mem_map.2 ⟨d, hd, by rw [h1]⟩)
theorem mark_below {W W' : World} {g : Nat} {o : Obj} (h : W.heap[g]? = some o) (hb : Below W.heap.size W W') : W'.heap[g]? = some o := (hb.block g (Array.getElem?_eq_some_iff.1 h).1).trans h
/-- A loop without a variable over an iterator of iterators. -/
theorem wpIn_rangeP_skip {α : Type} {F : Fence} {n : Nat} {P : Program} {g : Operand} {ps : Array Tmp} {body : Code} {Q : Exit → Act → World → Prop} {a : Act} {w : World}
    (hro : F.round = none) (h1 : 1 ≤ n) {gf : Nat} {lb : Array Value} (hg : a.eval g = .func (.func gf) #[] lb) (hFg : F.fn gf) (eg : ∀ args w, (callFunc gf args).run P w = .ok (.enter gf args) w)
    {encs : α → Array Value} {Kp : World → World → Prop} {xs : List α} {w0 : World} (hseq : SeqP F (n - 1) P gf lb encs Kp xs w0)
    (hKt : ∀ {A B C : World}, Kp A B → Kp B C → Kp A C) (hKb : ∀ (W : World) (l : Nat) (o o' : Obj), w.heap.size ≤ l → W.heap[l]? = some o → o.isCells = false → o.isWalk = false → Kp W (W.putObj l o')) (hb0 : Below w0.heap.size w0 w) (hps : ∀ x, (encs x).size = ps.size)
    (I : List α → World → Prop) (Ix : Code → List α → World → Prop) (hI : OwnFrom w.heap.size I) (hIx : ∀ c, OwnFrom w.heap.size (Ix c)) (h0 : I [] w)
    (hbody : ∀ (l : Nat) (pre : List α) (x : α) (W : World), w.heap.size ≤ l → I pre W → (pre ++ [x]) <+: xs → body.wpIn (F.inRound l) (n - 1 - 1) P (ownPostG w.heap.size Kp I Ix (pre ++ [x]) W) { tmps := (ps.zip (encs x)).foldl (fun t (p, v) => t.setIfInBounds p v) a.tmps, defers := [] } W)
    (hdone : ∀ (D : Nat) (W : World), w.heap.size ≤ D → I xs W → W.heap[D]? = some (.deferred (some [])) → Q .normal { a with defers := { target := .collected D, args := #[] } :: a.defers } W)
    (hstop : ∀ (D : Nat) (c : Code) (pre : List α) (W : World), w.heap.size ≤ D → pre <+: xs → Ix c pre W → W.heap[D]? = some (.deferred (some [])) → c.wpIn F n P Q { a with defers := { target := .collected D, args := #[] } :: a.defers } W)
    (hKr : ∀ W, Kp W W) :
    (Code.rangeFunc g ps .skip body).wpIn F n P Q a w :=
  wpIn_rangeP hro h1 hg hFg eg hseq hKt hKb hb0 hps I Ix hI hIx h0 (fun x a' _ => a' = { tmps := (ps.zip (encs x)).foldl (fun t (p, v) => t.setIfInBounds p v) a.tmps, defers := [] }) (fun _ _ _ _ _ _ hs _ _ => hs)
    (fun l pre x W K hi _ hK => wpIn_skip (hK _ _ (KeepsFrom.refl _ _) (hKr W) hi rfl)) (fun l pre x a' W hl _ hi e hlt => by subst e; exact hbody l pre x W hl hi hlt) hdone hstop
theorem KpQ.set_ {B k g : Nat} (X : World) (hB : B ≤ g) (hk : g < k) (v : Value) : KpQ B k X (X.setCell ⟨g, 0, none⟩ v) :=
  ⟨(Below.refl _ _).setCell (p := ⟨g, 0, none⟩) hB v, fun j t cs hj _ hb => hb.far v (show j ≠ g by omega)⟩
theorem blk_stay {X Y : World} {g B : Nat} {t : TypeId} {cs : Array Value} {row : Option Nat} (h : Blk X g t cs) (hg : X.grownBy Y row) (hr : ∀ r, row = some r → B ≤ r ∧ ∃ o : Obj, X.heap[r]? = some o ∧ o.isCells = false) : Blk Y g t cs :=
  h.kept_by hg fun e => by
    obtain ⟨_, o, ho, hc⟩ := hr _ e
    unfold Blk at h
    rw [h] at ho
    injection ho with ho
    subst ho
    cases hc
theorem pushL_len (L : Nat → List Nat) (t i r : Nat) : (pushL L t i r).length = (L r).length + if r = t then 1 else 0 := by
  unfold pushL
  split
  · rename_i h
    subst h
    simp
  · simp
end Go.Proofs.Ytjkklcigmikleaa
