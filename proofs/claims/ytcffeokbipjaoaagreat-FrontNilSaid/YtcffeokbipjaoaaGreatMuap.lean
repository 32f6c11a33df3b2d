/- Texts of this claim, one behind the other: Tqx Tqm Coa. -/
import Derived.Laws.Rows
import Derived.Deep.MidRow
import Derived.Laws.BitsLemmas
import Derived.Test.YtcffeokbipjaoaaGreatMuaa
import Derived.Test.YtcffeokbipjaoaaGreatMual
import Derived.Test.YtcffeokbipjaoaaGreatMuan
import Derived.Test.YtcffeokbipjaoaaGreatMuao
namespace Go.Proofs.YtcffeokbipjaoaaGreat
open Go.RowKit Go.Shelf
set_option linter.unusedVariables false
set_option linter.unusedSimpArgs false
attribute [local go_sem] Oper.semAt_some
section
variable {q hs sp sc sf rp ra rb hp hb : Nat} {A : Option Addr} {N n K : Nat} {s : Ts}
theorem Blk.kept_by {w w' : World} {g : Nat} {t : TypeId} {cs : Array Value} {row : Option Nat} (h : Blk w g t cs) (hg : w.grownBy w' row) (hr : row ≠ some g) : Blk w' g t cs :=
 (hg.block g h.size (fun e => hr e.symm)).trans h
structure AllI (wB W0 : World) (k q l : Nat) (W : World) : Prop where
 be : Below wB.heap.size wB W
 bk : Blk W k tyQ #[.pointer (some ⟨q, 0, none⟩)]
 by_ : Blk W W0.heap.size tyY #[.func (.yield l) #[] #[]]
theorem AllI.step {wB W0 X Y : World} {k q l : Nat} (h : AllI wB W0 k q l X) (hk : k ≤ W0.heap.size) (hs : KpQ wB.heap.size k X Y) : AllI wB W0 k q l Y :=
 ⟨h.be.trans hs.be, hs.bx _ _ _ (Nat.le_refl _) (.inl rfl) h.bk, hs.bx _ _ _ hk (.inr (.inl rfl)) h.by_⟩
theorem AllI.own {wB W0 X Y : World} {k q l B : Nat} {row : Option Nat} (h : AllI wB W0 k q l X) (hB : wB.heap.size ≤ B) (hg : X.grownBy Y row) (hr : ∀ r, row = some r → B ≤ r ∧ ∃ o : Obj, X.heap[r]? = some o ∧ o.isCells = false) : AllI wB W0 k q l Y := by
 have nc : ∀ {g : Nat} {t : TypeId} {cs : Array Value}, Blk X g t cs → row ≠ some g := fun hb e => by
   obtain ⟨_, o, ho, hc⟩ := hr _ e
   unfold Blk at hb
   rw [hb] at ho
   injection ho with ho
   subst ho
   cases hc
 exact ⟨h.be.grown hg h.be.size (fun r e => Nat.le_trans hB (hr r e).1), h.bk.kept_by hg (nc h.bk), h.by_.kept_by hg (nc h.by_)⟩
structure RowB (W : World) (g : Nat) (rp : Nat) (t : Int) : Prop where
 b0 : Blk W g tyR #[.pointer (some ⟨rp, 0, none⟩)]
 b1 : Blk W (g + 1) tyI #[.int .i64 t]
 b2 : Blk W (g + 1 + 1) tyI #[.int .i64 0]
 b3 : Blk W (g + 1 + 1 + 1) tyI #[.int .i64 1]
theorem RowB.at_ {W : World} {g rp : Nat} {t : Int} (h : RowB W g rp t) : AllAt W g (some ⟨rp, 0, none⟩) t 0 1 := ⟨h.b0.val rfl, h.b1.val rfl, h.b2.val rfl, h.b3.val rfl⟩
theorem RowB.step {X Y : World} {g rp B k : Nat} {t : Int} (h : RowB X g rp t) (hk : k ≤ g) (hs : KpQ B k X Y) : RowB Y g rp t :=
 ⟨hs.bx _ _ _ hk (.inr (.inr (.inl rfl))) h.b0, hs.bx _ _ _ (by omega) (.inr (.inr (.inr rfl))) h.b1, hs.bx _ _ _ (by omega) (.inr (.inr (.inr rfl))) h.b2, hs.bx _ _ _ (by omega) (.inr (.inr (.inr rfl))) h.b3⟩
theorem RowB.own {X Y : World} {g rp : Nat} {t : Int} {row : Option Nat} (h : RowB X g rp t) (hg : X.grownBy Y row) (hr : ∀ r, row = some r → ∃ o : Obj, X.heap[r]? = some o ∧ o.isCells = false) : RowB Y g rp t := by
 have nc : ∀ {g : Nat} {t : TypeId} {cs : Array Value}, Blk X g t cs → row ≠ some g := fun hb e => by
   obtain ⟨o, ho, hc⟩ := hr _ e
   unfold Blk at hb
   rw [hb] at ho
   injection ho with ho
   subst ho
   cases hc
 exact ⟨h.b0.kept_by hg (nc h.b0), h.b1.kept_by hg (nc h.b1), h.b2.kept_by hg (nc h.b2), h.b3.kept_by hg (nc h.b3)⟩
theorem RowB.same {X Y : World} {g rp B k p a b : Nat} {t : Int} (h : RowB X g rp t) (hk : k ≤ g) (hs : KpQ B k X Y) (hp : p < B ∧ a < B ∧ b < B) : Same (Its p a b g) X Y := fun x hx => by
 have h2 := h.step hk hs
 rcases hx with rfl | rfl | rfl | rfl | rfl | rfl | rfl
 · exact hs.be.block _ hp.1
 · exact hs.be.block _ hp.2.1
 · exact hs.be.block _ hp.2.2
 · exact h2.b0.trans h.b0.symm
 · exact h2.b1.trans h.b1.symm
 · exact h2.b2.trans h.b2.symm
 · exact h2.b3.trans h.b3.symm
theorem grown_none {w w' : World} (h : Below w.heap.size w w') : w.grownBy w' none := ⟨h.os, h.tape, h.output, h.size, fun k hk _ => h.block k hk⟩
theorem own_below_ {β : Type} {B : Nat} {J : β → World → Prop} (hJ : OwnFrom B J) {x : β} {X Y : World} (h : J x X) (hb : Below X.heap.size X Y) : J x Y := hJ x X Y none h (grown_none hb) (fun r e => by cases e)
theorem keeps_below {B : Nat} {X Y : World} (hb : Below X.heap.size X Y) : KeepsFrom B X Y := KeepsFrom.of_grownBy (grown_none hb) (fun j e => by cases e)
theorem all_boxed (p : Nat) (r : Int) (w : World) :
   Calls Tryz.prog 91 #[.pointer (some ⟨p, 0, none⟩), .int .i64 r, .bool false] w fun e w' => e = .returned (.func (.func 138) #[] (allv w.heap.size)) ∧ RowB w' w.heap.size p r ∧ Below w.heap.size w w' := by
 go_enter Tryz.func91, Tryz.ntmps91
 go_wp2
 go_ret
 refine ⟨rfl, ⟨?_, ?_, ?_, ?_⟩, ?_⟩
 · exact ((((Blk.made w _ _).alloc_ _).alloc_ _).alloc_ _)
 · exact (((Blk.new_ (by simp)).alloc_ _).alloc_ _)
 · exact ((Blk.new_ (by simp)).alloc_ _)
 · exact (Blk.new_ (by simp))
 · exact ((((Below.refl _ w).alloc (Nat.le_refl _) _).alloc (by simp) _).alloc (by simp; omega) _).alloc (by simp; omega) _
set_option maxRecDepth 100000 in
set_option maxHeartbeats 8000000 in
theorem tq_all1 {l k m : Nat} (wB : World) (h : TqAt wB q hs sp sc sf rp ra rb hp hb A N n s.V s.H s.T s.R s.m s.F s.L s.ub s.D) (inv : TInv N n K s) (hN : N ≤ 8) (hK : K ≤ 1000000) (hm : 3 ≤ m) (J Jx : List Nat → World → Prop) (W : World)
   (hB : Below wB.heap.size wB W) (hkB : wB.heap.size ≤ k) (hk : Blk W k tyQ #[.pointer (some ⟨q, 0, none⟩)])
   (hJ : OwnFrom W.heap.size J) (hJx : OwnFrom W.heap.size Jx)
   (hY : ∀ pre x W1, J pre W1 → (pre ++ [x]) <+: allT s.L N → YieldAt Fence.wide (m - 1) Tryz.prog l (encQ s.V s.R x) W1 fun e W' => KeepsFrom W.heap.size W1 W' ∧
     ((e = .returned (.bool true) ∧ J (pre ++ [x]) W' ∧ KpQ wB.heap.size k W1 W') ∨ (e = .returned (.bool false) ∧ Jx (pre ++ [x]) W')))
   (h0 : J [] W) :
   CallsIn Fence.wide m Tryz.prog 89 (#[.func (.yield l) #[] #[]] ++ #[.pointer (some ⟨k, 0, none⟩)]) W fun e W' => (∃ v, e = .returned v) ∧ (J (allT s.L N) W' ∨ (∃ pre, pre <+: allT s.L N ∧ Jx pre W')) := by
 have H0 := Lib.hid h
 have HY := Lib.hid hY
 have HB := Lib.hid hB
 have hkW : k < W.heap.size := hk.size
 clear h hY hB
 refine callsIn_of_wp_marks Tryz.func89 rfl trivial ?_ rfl
 simp only [Tryz.ntmps89, List.size_toArray, List.length_cons, List.length_nil, Nat.reduceAdd, Nat.reduceSub, Array.replicate_succ, Array.replicate_zero, List.push_toArray, List.append_toArray, List.nil_append, List.cons_append]
 have c0 := hk.val (i := 0) rfl
 gi_wp2
 refine ⟨trivial, fun _ => by omega, ?_⟩
 have hq0 := H0.out.below (HB.out.alloc (by have := HB.out.size; omega) (.cells #[.func (.yield l) #[] #[]] tyY))
 refine (callsIn_wide.2 (ttier _ hq0)).mono ?_
 rintro e w1 ⟨rfl, rfl⟩
 gi_wp2
 have hI0 : AllI wB W k q l (W.alloc (.cells #[.func (.yield l) #[] #[]] tyY)) := ⟨HB.out.alloc HB.out.size _, hk.alloc_ _, Blk.made _ _ _⟩
 have hJ0 : J (allT s.L 0) (W.alloc (.cells #[.func (.yield l) #[] #[]] tyY)) := hJ.alloc _ h0
 have HI0 := Lib.hid hI0
 have HJ0 := Lib.hid hJ0
 clear hI0 hJ0 h0 c0 hq0 hk
 refine wpIn_loop_ghost_k (fun g a' W' => ∃ (t : Nat) (ds : List Deferred) (u3 u11 u12 u13 u14 u15 u16 u17 u18 u41 : Value), a' = ⟨#[.func (.yield l) #[] #[], .pointer (some ⟨k, 0, none⟩), .pointer (some ⟨W.heap.size, 0, none⟩), u3, undef, undef, undef, undef, .pointer (some ⟨q, 0, none⟩), .int .i64 (N : Int), .int .i64 (t : Int), u11, u12, u13, u14, u15, u16, u17, u18, undef, undef, undef, undef, undef, undef, undef, undef, undef, undef, undef, undef, undef, undef, undef, undef, undef, undef, undef, undef, undef, undef, u41], ds⟩ ∧ g = N - t ∧ t ≤ N ∧ J (allT s.L t) W' ∧ AllI wB W k q l W' ∧ Marks W.heap.size ds W') N ⟨0, [], undef, undef, undef, undef, undef, undef, undef, undef, undef, undef, rfl, rfl, Nat.zero_le _, HJ0.out, HI0.out, ⟨by simp, fun d hd => by cases hd⟩⟩ ?_
 clear HI0 HJ0
 rintro g a' W1 ⟨t, ds, u3, u11, u12, u13, u14, u15, u16, u17, u18, u41, rfl, rfl, ht, hJ1, hI1, hM1⟩ JJ KK hJJ hKK
 have HJ1 := Lib.hid hJ1
 have HI1 := Lib.hid hI1
 have HM1 := Lib.hid hM1
 have HJJ := Lib.hid hJJ
 have HKK := Lib.hid hKK
 clear hJ1 hI1 hM1 hJJ hKK
 by_cases htN : t < N
 · have t1 : (t : Int) < (N : Int) := by omega
   have tw : IntKind.i64.wrap ((t : Int) + 1) = (t : Int) + 1 := IntWalk.i64_in _ (by omega)
   have c0 := HI1.out.bk.val (i := 0) rfl
   have hq1 := H0.out.below HI1.out.be
   have q2 := hq1.q2
   have HQ1 := Lib.hid hq1
   clear hq1
   gi_wp2
   refine ⟨trivial, fun _ => by omega, ?_⟩
   refine (callsIn_wide.2 (all_boxed rp (t : Int) _)).mono ?_
   rintro e W2 ⟨rfl, hRB, hb2⟩
   obtain ⟨gA, hgA⟩ : ∃ gA, W1.heap.size = gA := ⟨_, rfl⟩
   have hW1 : wB.heap.size ≤ W1.heap.size := HI1.out.be.size
   have hkA : k ≤ gA := by rw [← hgA]; exact Nat.le_of_lt HI1.out.bk.size
   have hWA : W.heap.size ≤ gA := by rw [← hgA]; exact Nat.le_of_lt HI1.out.by_.size
   rw [hgA] at hRB
   have hgA2 : gA + 1 + 1 + 1 < W2.heap.size := hRB.b3.size
   have hJ2 := own_below_ hJ HJ1.out hb2
   have hI2 := HI1.out.step (by omega) (KpQ.of_below hb2 hW1)
   have hM2 := HM1.out.keeps (keeps_below hb2)
   have HJ2 := Lib.hid hJ2
   have HI2 := Lib.hid hI2
   have HM2 := Lib.hid hM2
   have HRB := Lib.hid hRB
   have hW2 : wB.heap.size ≤ W2.heap.size := HI2.out.be.size
   have HQ2 := Lib.hid (H0.out.below HI2.out.be)
   have hsz := H0.out.rows.lts
   clear hJ2 hI2 hM2 hRB hb2 q2 c0 HJ1 HI1 HM1 HQ1
   gi_wp2
   have hrs := rows_way (k := gA) (m := m - 1) (r := t) W2 HQ2.out.rows htN (by omega) hgA2 HRB.out.at_
   refine wpIn_rangeP rfl (by omega) (gf := 138) (lb := allv gA) rfl trivial (enters_of Tryz.func138 (by kernel_rfl) rfl)
     hrs Same.trans (fun X g o o' hl ho hc _ => same_put (fun g hg => by rcases hg with rfl | rfl | rfl | rfl | rfl | rfl | rfl <;> omega) X g o o' hl ho hc (by assumption)) (Below.refl _ _) (fun _ => rfl)
     (fun pre X => J (allT s.L t ++ pre) X ∧ AllI wB W k q l X ∧ Marks W.heap.size ds X ∧ RowB X gA rp (t : Int))
     (fun c pre X => c = .ret ∧ Jx (allT s.L t ++ pre) X ∧ Marks W.heap.size ds X)
     (fun pre X Y row h hg hr => ⟨hJ _ X Y row h.1 hg (fun r e => ⟨by have := (hr r e).1; omega, (hr r e).2⟩), h.2.1.own hW2 hg hr, HM2.out.own (Nat.le_refl _) h.2.2.1 hg (fun r e => (hr r e).1), h.2.2.2.own hg (fun r e => (hr r e).2)⟩)
     (fun c pre X Y row h hg hr => ⟨h.1, hJx _ X Y row h.2.1 hg (fun r e => ⟨by have := (hr r e).1; omega, (hr r e).2⟩), HM2.out.own (Nat.le_refl _) h.2.2 hg (fun r e => (hr r e).1)⟩)
     ⟨by rw [List.append_nil]; exact HJ2.out, HI2.out, HM2.out, HRB.out⟩
     (fun x a' _ => a' = ⟨#[.func (.yield l) #[] #[], .pointer (some ⟨k, 0, none⟩), .pointer (some ⟨W.heap.size, 0, none⟩), .int .i64 (t : Int), .int .i64 (x : Int), undef, undef, undef, .pointer (some ⟨q, 0, none⟩), .int .i64 (N : Int), .int .i64 (t : Int), .bool true, .int .i64 (t : Int), .pointer (some ⟨q, 0, none⟩), .pointer (some ⟨q, 0, none⟩), .pointer (some ⟨q, 2, none⟩), .pointer (some ⟨rp, 0, none⟩), .int .i64 (t : Int), .func (.func 138) #[] (allv gA), .int .i64 (x : Int), undef, undef, undef, undef, undef, undef, undef, undef, undef, undef, undef, undef, undef, undef, undef, undef, undef, undef, undef, undef, undef, u41], []⟩) (fun x a' => fun _ X Y row h _ _ => h) ?assign ?body ?done ?stop
   case assign =>
     rintro lz pre x X K hi hpx hK
     gi_wp2
     exact hK _ _ (KeepsFrom.refl _ _) (Same.refl _ _) hi rfl
   case body =>
     rintro lz pre x a' X hlz hrec ⟨hJ3, hI3, hM3, hR3⟩ rfl hlen
     have hxm : x ∈ s.L t := hlen.subset (by simp)
     have hx := inv.rt t htN x hxm
     have hvx := inv.vh x hx.1 hx.2.1
     have hhx := inv.hh x hx.1
     have hal := alive_of inv hx.1 hx.2.1 rfl
     have hg0 : 0 ≤ s.V x := by rw [hvx]; exact hhx.2.1
     have hg1 : s.V x ≤ 18446744073709551615 := by rw [hvx]; omega
     rw [← hvx] at hal
     have HQ3 := Lib.hid (H0.out.below hI3.be)
     have c0 := hI3.bk.val (i := 0) rfl
     have q4 := HQ3.out.q4
     have q1 := HQ3.out.q1
     have v0 := HQ3.out.h0 hx.1
     have x0 : (0 : Int) ≤ (x : Int) := by omega
     have x1 : (x : Int) < (n : Int) := by omega
     have HH := Lib.hid (And.intro hJ3 (And.intro hI3 (And.intro hM3 hR3)))
     have HAL := Lib.hid hal
     have HPX := Lib.hid hlen
     obtain ⟨vx, hvx2⟩ : ∃ vx, s.V x = vx := ⟨_, rfl⟩
     rw [hvx2] at v0 hg0 hg1
     have HVX := Lib.hid hvx2
     clear hJ3 hI3 hM3 hR3 hal hlen hhx hvx hvx2 hxm
     gi_wp2
     refine ⟨trivial, fun _ => by omega, ?_⟩
     refine (CallsIn.inRound lz (callsIn_wide.2 (slget_yes (i := x) vx _ HQ3.out.slab hg0 hg1 (by rw [← HVX.out]; exact HAL.out.1) (by rw [← HVX.out]; exact HAL.out.2)))).mono ?_
     rintro e X4 ⟨rfl, hb4⟩
     obtain ⟨⟨ra_, rb_, rc_, rd_, re_⟩, hrx⟩ : ∃ r, s.R x = r := ⟨_, rfl⟩
     rw [hrx]
     simp only [rqv]
     have HRX := Lib.hid hrx
     clear hrx
     have hb5 : Below X.heap.size X (X4.alloc (.cells #[.int .u64 ra_, .int .i64 rb_, .int .i64 rc_, .int .i64 rd_, .int .i64 re_] 107)) := hb4.alloc hb4.size _
     have hJ5 := own_below_ hJ HH.out.1 hb5
     have hI5 := HH.out.2.1.step (by omega) (KpQ.of_below hb5 (by have := HH.out.2.1.be.size; omega))
     have hM5 := HH.out.2.2.1.keeps (keeps_below hb5)
     have hR5 := HH.out.2.2.2.step hkA (KpQ.of_below (B := wB.heap.size) (k := k) hb5 (by have := HH.out.2.1.be.size; omega))
     have hK5 : KeepsFrom W2.heap.size X (X4.alloc (.cells #[.int .u64 ra_, .int .i64 rb_, .int .i64 rc_, .int .i64 rd_, .int .i64 re_] 107)) := keeps_below hb5
     have hS5 := HH.out.2.2.2.same (B := wB.heap.size) (k := k) (p := rp) (a := ra) (b := rb) hkA (KpQ.of_below hb5 (by have := HH.out.2.1.be.size; omega)) hsz
     have hcut : (allT s.L t ++ pre) ++ [x] <+: allT s.L N := by
       rw [List.append_assoc]
       have h1 : allT s.L t ++ (pre ++ [x]) <+: allT s.L t ++ s.L t := by
         obtain ⟨d, hd⟩ := HPX.out
         exact ⟨d, by rw [List.append_assoc, hd]⟩
       rw [← allT_succ] at h1
       exact h1.trans (allT_pre s.L (by omega))
     obtain ⟨fn, tmps, assign, body, hy1, hR⟩ := YieldAt.anyDepth (F := Fence.wide) rfl (m - 1 - 1 - 1) (HY.out _ x _ hJ5 hcut)
     unfold encQ at hy1
     rw [HVX.out, HRX.out] at hy1
     simp only [rqv] at hy1
     have y0 := hI5.by_.val (i := 0) rfl
     have H5 := Lib.hid (And.intro hI5 (And.intro hM5 (And.intro hR5 (And.intro hK5 hS5))))
     have HRR := Lib.hid hR
     have HCUT := Lib.hid hcut
     clear hb5 hJ5 hI5 hM5 hR5 hK5 hS5 hb4 hR hcut c0 q4 q1 v0
     gi_wp2
     refine ⟨fun h => (by cases h), ?_⟩
     refine RoundIn.mono (F := Fence.wide.inRound lz) (show RoundIn Fence.wide (m - 1 - 1 - 1) _ _ _ _ _ _ _ _ from RoundIn.anyDepth rfl HRR.out) ?_
     rintro e X6 ⟨hK6, ⟨rfl, hJ6, hS6⟩ | ⟨rfl, hJx6⟩⟩
     · have hkw : KeepsFrom W2.heap.size X X6 := H5.out.2.2.2.1.trans (keeps_more hK6 (by omega))
       have hI6 := H5.out.1.step (by omega) hS6
       have hM6 := H5.out.2.1.keeps hK6
       have hR6 := H5.out.2.2.1.step hkA hS6
       have hS7 := H5.out.2.2.2.2.trans (H5.out.2.2.1.same (p := rp) (a := ra) (b := rb) hkA hS6 hsz)
       gi_wp2
       exact ⟨hkw, hS7, by rw [← List.append_assoc]; exact hJ6, hI6, hM6, hR6⟩
     · have hkw : KeepsFrom W2.heap.size X X6 := H5.out.2.2.2.1.trans (keeps_more hK6 (by omega))
       have hM6 := H5.out.2.1.keeps hK6
       gi_wp2
       exact ⟨hkw, rfl, by rw [← List.append_assoc]; exact hJx6, hM6⟩
   case done =>
     rintro D X hD ⟨hJ7, hI7, hM7, hR7⟩ hDo
     have hM8 : Marks W.heap.size ({ target := .collected D, args := #[] } :: ds) X := hM7.add (by have := HI2.out.by_.size; omega) hDo (fun d hd D' e => by
       obtain ⟨D2, e2, _, h3⟩ := HM2.out.2 d hd
       rw [e] at e2
       injection e2 with e2
       injection e2 with e2
       subst e2
       have := (Array.getElem?_eq_some_iff.1 h3).1
       omega)
     rw [← allT_succ] at hJ7
     have HE := Lib.hid (And.intro hJ7 (And.intro hI7 hM8))
     clear hJ7 hI7 hM7 hR7 hM8 hDo
     gi_wp2
     rw [show ((t : Int) + 1) = ((t + 1 : Nat) : Int) from by omega]
     exact HKK.out _ _ ⟨N - (t + 1), by omega, HJJ.out _ _ _ ⟨t + 1, _, _, _, _, _, _, _, _, _, _, _, rfl, rfl, by omega, HE.out.1, HE.out.2.1, HE.out.2.2⟩⟩
   case stop =>
     rintro D c pre X hD hpre ⟨rfl, hJx7, hM7⟩ hDo
     have hM8 : Marks W.heap.size ({ target := .collected D, args := #[] } :: ds) X := hM7.add (by have := HI2.out.by_.size; omega) hDo (fun d hd D' e => by
       obtain ⟨D2, e2, _, h3⟩ := HM2.out.2 d hd
       rw [e] at e2
       injection e2 with e2
       injection e2 with e2
       subst e2
       have := (Array.getElem?_eq_some_iff.1 h3).1
       omega)
     have hp : allT s.L t ++ pre <+: allT s.L N := by
       have h1 : allT s.L t ++ pre <+: allT s.L t ++ s.L t := by
         obtain ⟨d, hd⟩ := hpre
         exact ⟨d, by rw [List.append_assoc, hd]⟩
       rw [← allT_succ] at h1
       exact h1.trans (allT_pre s.L (by omega))
     have HE := Lib.hid (And.intro hJx7 (And.intro hM8 hp))
     clear hJx7 hM7 hM8 hDo hp
     gi_wp2
     exact leaves_marks (B := W.heap.size) (fun Y => results_none rfl _ _ _) (fun Y => Jx (allT s.L t ++ pre) Y) (fun _ => hJx _) (fun Y h => ⟨⟨_, rfl⟩, .inr ⟨_, HE.out.2.2, h⟩⟩) _ X HE.out.2.1 HE.out.1
 · have e : t = N := by omega
   subst e
   have t1 : ¬ (t : Int) < (t : Int) := by omega
   gi_wp2
   exact leaves_marks (B := W.heap.size) (fun Y => results_none rfl _ _ _) (fun Y => J (allT s.L t) Y) (fun _ => hJ _) (fun Y h => ⟨⟨_, rfl⟩, .inl h⟩) _ W1 HM1.out HJ1.out
end
end Go.Proofs.YtcffeokbipjaoaaGreat
namespace Go.Proofs.YtcffeokbipjaoaaGreat
open Go.RowKit Go.Shelf
set_option linter.unusedVariables false
set_option linter.unusedSimpArgs false
attribute [local go_sem] Oper.semAt_some
theorem tqall_made (o : Option Addr) (w : World) :
   Calls Tryz.prog 48 #[.pointer o] w fun e w' => e = .returned (.func (.func 89) #[] #[.pointer (some ⟨w.heap.size, 0, none⟩)]) ∧ Blk w' w.heap.size tyQ #[.pointer o] ∧ Below w.heap.size w w' := by
 go_enter Tryz.func48, Tryz.ntmps48
 go_wp2
 go_ret
 exact ⟨rfl, Blk.made w _ _, (Below.refl _ w).alloc (Nat.le_refl _) _⟩
theorem tq_way {base q N n K k m : Nat} {s : Ts} (wB w : World) (h : TqL wB base q N n K s) (hN : N ≤ 8) (hK : K ≤ 1000000) (hm : 3 ≤ m) (hB : Below wB.heap.size wB w) (hkB : wB.heap.size ≤ k) (hk : Blk w k tyQ #[.pointer (some ⟨q, 0, none⟩)]) :
   SeqP Fence.wide m Tryz.prog 89 #[.pointer (some ⟨k, 0, none⟩)] (encQ s.V s.R) (KpQ wB.heap.size k) (allT s.L N) w := fun l J Jx W hW hJ hJx hY h0 => by
 obtain ⟨⟨hs, sp, sc, sf, rp, ra, rb, hp, hb, A, h1, -⟩, h3⟩ := h
 exact tq_all1 wB h1 h3 hN hK hm J Jx W (hB.trans (hW.mono hB.size)) hkB (hk.below_ hW hk.size) hJ hJx hY h0
end Go.Proofs.YtcffeokbipjaoaaGreat
namespace Go.Proofs.YtcffeokbipjaoaaGreat
open Go.ChangeShapes Go.WideShapes Go.ChangeAt Go.RowKit Go.Shelf
set_option linter.unusedVariables false
set_option linter.unusedSimpArgs false
def Fit (n m : Int) : Prop := (1 ≤ n ∧ n ≤ 8) ∧ 1 ≤ m ∧ m ≤ 1024
instance (n m : Int) : Decidable (Fit n m) := by unfold Fit; infer_instance
theorem Bxs.own {v X Y : World} {L : List Bx1} {B : Nat} {row : Option Nat} (h : Bxs v X L) (hB : v.heap.size ≤ B) (hg : X.grownBy Y row) (hr : ∀ r, row = some r → B ≤ r ∧ ∃ o : Obj, X.heap[r]? = some o ∧ o.isCells = false) : Bxs v Y L := by
 have nc : ∀ {g : Nat} {t : TypeId} {cs : Array Value}, Blk X g t cs → row ≠ some g := fun hb e => by
   obtain ⟨_, o, ho, hc⟩ := hr _ e
   unfold Blk at hb
   rw [hb] at ho
   injection ho with ho
   subst ho
   cases hc
 exact ⟨fun i g T l hi => (h.bl i g T l hi).kept_by hg (nc (h.bl i g T l hi)), h.lo, h.ne, h.be.grown hg h.be.size (fun r e => Nat.le_trans hB (hr r e).1)⟩
theorem KpQ.set_ {B k g : Nat} (X : World) (hB : B ≤ g) (hk : g < k) (v : Value) : KpQ B k X (X.setCell ⟨g, 0, none⟩ v) :=
 ⟨(Below.refl _ _).setCell (p := ⟨g, 0, none⟩) hB v, fun j t cs hj _ hb => hb.far v (show j ≠ g by omega)⟩
theorem blk_stay {X Y : World} {g B : Nat} {t : TypeId} {cs : Array Value} {row : Option Nat} (h : Blk X g t cs) (hg : X.grownBy Y row) (hr : ∀ r, row = some r → B ≤ r ∧ ∃ o : Obj, X.heap[r]? = some o ∧ o.isCells = false) : Blk Y g t cs :=
 h.kept_by hg fun e => by
   obtain ⟨_, o, ho, hc⟩ := hr _ e
   unfold Blk at h
   rw [h] at ho
   injection ho with ho
   subst ho
   cases hc
end Go.Proofs.YtcffeokbipjaoaaGreat
namespace Go.Proofs.YtcffeokbipjaoaaGreat
open Go.ChangeShapes Go.WideShapes Go.RowKit
set_option linter.unusedVariables false
set_option linter.unusedSimpArgs false
theorem due_up {D : List En} (now : Int) (hs : D.Pairwise ltE) : (dueE now D).Pairwise ltE := hs.sublist List.filter_sublist
theorem due_mem {D : List En} {now : Int} {e : En} : e ∈ dueE now D ↔ e ∈ D ∧ e.k ≤ now := by unfold dueE; simp
section
variable {N n K : Nat} {s : Ts}
theorem TInv.one (h : TInv N n K s) (e e' : En) (he : e ∈ s.D) (he' : e' ∈ s.D) (hm : e.m = e'.m) : e = e' := by
 obtain ⟨i, _, _, rfl⟩ := h.ds e he
 obtain ⟨j, _, _, rfl⟩ := h.ds e' he'
 have : i = j := by have : (i : Int) = j := hm; omega
 subst this
 rfl
theorem TInv.due_at (h : TInv N n K s) {now : Int} {p : Nat} (hp : p < (dueE now s.D).length) : ∃ i : Nat, memE (dueE now s.D) p = i ∧ i < n ∧ s.T i = true ∧ (dueE now s.D)[p] = ⟨(s.R i).d, (s.R i).a, (i : Int)⟩ ∧ (s.R i).d ≤ now := by
 have h1 := due_mem.1 (List.getElem_mem hp)
 obtain ⟨i, hi, ht, he⟩ := h.ds _ h1.1
 refine ⟨i, ?_, hi, ht, he, by have := h1.2; rw [he] at this; exact this⟩
 unfold memE
 rw [List.getElem?_eq_getElem hp, he]
 simp
theorem OwH.frame {w w' : World} {base q g c l : Nat} {hs : Nat} {Z : Nat → Int} (h : OwH w base (.slice (some ⟨g, 0, none⟩) l c) l Z) (hf : Fr w w' q n) (he : w.cell? ⟨q, 4, none⟩ = some (.slice (some ⟨hs, 0, none⟩) n n)) (hne : g ≠ hs) : OwH w' base (.slice (some ⟨g, 0, none⟩) l c) l Z := by
 refine ⟨h.1, ?_⟩
 rcases h.2 with h0 | ⟨g', cap, cur, hv, hb, hg, h1, h2, h3, h4⟩
 · exact .inl h0
 · refine .inr ⟨g', cap, cur, hv, hb, ?_, h1, h2, h3, h4⟩
   have : g = g' := by injection hv with e _ _; injection e with e; injection e
   subst this
   exact (hf.2 hs he).2 g cur hg hne
theorem OwH.far {w : World} {base g l c : Nat} {Z : Nat → Int} {p : Addr} {cs : Array Value} (h : OwH w base (.slice (some ⟨g, 0, none⟩) l c) l Z) (hb : Blk w p.block 107 cs) (u : Value) : OwH (w.setCell p u) base (.slice (some ⟨g, 0, none⟩) l c) l Z := by
 refine ⟨h.1, ?_⟩
 rcases h.2 with h0 | ⟨g', cap, cur, hv, hb', hg, h1, h2, h3, h4⟩
 · exact .inl h0
 · exact .inr ⟨g', cap, cur, hv, hb', Blk.far (cs := cur) hg u (Blk.other (cs := cur) hg hb (by decide)), h1, h2, h3, h4⟩
end
end Go.Proofs.YtcffeokbipjaoaaGreat
namespace Go.Proofs.YtcffeokbipjaoaaGreat
open Go.ChangeShapes Go.WideShapes Go.RowKit
set_option linter.unusedVariables false
set_option linter.unusedSimpArgs false
def tqTypes : List TypeId := [159, 221, 223, 3, 213, 216, 218, 226, 270, 105]
structure TqO (w : World) (q N n K : Nat) (s : Ts) (O : Nat → Prop) : Prop where
 ex : ∃ hs sp sc sf rp ra rb hp hb A, TqAt w q hs sp sc sf rp ra rb hp hb A N n s.V s.H s.T s.R s.m s.F s.L s.ub s.D ∧ ∀ g, O g ↔ tOwn hs sp sc sf ra rb hp hb A g
 inv : TInv N n K s
section
variable {w w' : World} {q N n K m i : Nat} {s : Ts} {g : Int} {O : Nat → Prop}
theorem TqO.toL (h : TqO w q N n K s O) : TqL w 0 q N n K s := by
 obtain ⟨⟨hs, sp, sc, sf, rp, ra, rb, hp, hb', A, h1, h2⟩, h3⟩ := h
 exact ⟨⟨hs, sp, sc, sf, rp, ra, rb, hp, hb', A, h1, fun g _ => Nat.zero_le g⟩, h3⟩
theorem TqO.below (h : TqO w q N n K s O) (hb : Below w.heap.size w w') : TqO w' q N n K s O := by
 obtain ⟨⟨hs, sp, sc, sf, rp, ra, rb, hp, hb', A, h1, h2⟩, h3⟩ := h
 exact ⟨⟨hs, sp, sc, sf, rp, ra, rb, hp, hb', A, h1.below hb, h2⟩, h3⟩
theorem TqO.apart (h : TqO w q N n K s O) {k : Nat} {t : TypeId} {cs : Array Value} (hk : Blk w k t cs) (ht : t ∉ tqTypes) : ¬ O k := by
 obtain ⟨⟨hs, sp, sc, sf, rp, ra, rb, hp, hb', A, h1, h2⟩, h3⟩ := h
 unfold tqTypes at ht
 simp only [List.mem_cons, List.not_mem_nil, or_false, not_or] at ht
 obtain ⟨t1, t2, t3, t4, t5, t6, t7, t8, t9, t10⟩ := ht
 obtain ⟨cs0, b0, _⟩ := h1.hand
 rw [h2]
 exact h1.apart hk (hk.other b0 t10) t2 t3 t4 t6 t7 t8 t9
theorem TqO.other {own : Nat → Prop} (h : TqO w q N n K s O) (hk : Kept own w w') (hn : ∀ k, k < w.heap.size → own k → ∃ t cs, Blk w k t cs ∧ t ∉ tqTypes) : TqO w' q N n K s O := by
 obtain ⟨⟨hs, sp, sc, sf, rp, ra, rb, hp, hb', A, h1, h2⟩, h3⟩ := h
 refine ⟨⟨hs, sp, sc, sf, rp, ra, rb, hp, hb', A, ?_, h2⟩, h3⟩
 obtain ⟨hd, k1, k2, k3, ⟨cs', bc, cz, cc⟩, k5⟩ := h1
 obtain ⟨⟨c1, t1⟩, ⟨c2, t2⟩, ⟨c3, t3⟩⟩ := k2.types
 obtain ⟨_, ⟨c4, t4⟩, _⟩ := k3.types
 obtain ⟨cs1, bc1, _, _⟩ := k1.rows
 obtain ⟨cs2, bc2, _, _⟩ := k1.frees
 have no : ∀ {k : Nat} {t : TypeId} {cs : Array Value}, Blk w k t cs → t ∈ tqTypes → ¬ own k := fun {k t cs} hb ht ho => by
   obtain ⟨t', cs', hb', ht'⟩ := hn k hb.size ho
   exact hb.other hb' (fun e => by subst e; exact ht' ht) rfl
 exact ⟨hd.kept hk (no hd (by simp [tqTypes])), k1.kept hk (no k1.head (by simp [tqTypes])) (no bc1 (by simp [tqTypes])) (no bc2 (by simp [tqTypes])), RowsAt.kept k2 hk (no t1 (by simp [tqTypes])) (no t2 (by simp [tqTypes])) (no t3 (by simp [tqTypes])),
   k3.kept hk (fun g c hg => no hg (by simp [tqTypes])) (fun g c hg => no hg (by simp [tqTypes])) (no t4 (by simp [tqTypes])), ⟨cs', bc.kept hk (no bc (by simp [tqTypes])), cz, cc⟩, k5⟩
theorem TqO.lt (h : TqO w q N n K s O) {k : Nat} (hk : O k) : k < w.heap.size := by
 obtain ⟨⟨hs, sp, sc, sf, rp, ra, rb, hp, hb', A, h1, h2⟩, h3⟩ := h
 obtain ⟨hd, k1, k2, k3, ⟨cs', bc, cz, cc⟩, k5⟩ := h1
 obtain ⟨⟨c1, t1⟩, ⟨c2, t2⟩, ⟨c3, t3⟩⟩ := k2.types
 obtain ⟨⟨c5, t5⟩, ⟨c4, t4⟩, t6⟩ := k3.types
 obtain ⟨cs1, bc1, _, _⟩ := k1.rows
 obtain ⟨cs2, bc2, _, _⟩ := k1.frees
 rcases (h2 k).1 hk with e | (e | e | e) | (e | e) | (e | e | ⟨x, hx, e⟩)
 · rw [e]; exact bc.size
 · rw [e]; exact k1.head.size
 · rw [e]; exact bc1.size
 · rw [e]; exact bc2.size
 · rw [e]; exact t2.size
 · rw [e]; exact t3.size
 · rw [e]; exact t5.size
 · rw [e]; exact t4.size
 · obtain ⟨c, hc⟩ := t6 x hx
   rw [← e]; exact hc.size
theorem tqo_new (N n : Nat) (w : World) (n0 : 1 ≤ N) (n1 : N ≤ 8) (m0 : 1 ≤ n) (m1 : n ≤ 1024) :
   Calls Tryz.prog 37 #[.int .i64 (N : Int), .int .i64 (n : Int)] w fun e w' => ∃ (q : Nat) (O : Nat → Prop), e = .returned (.tuple #[.pointer (some ⟨q, 0, none⟩), .int .i64 0]) ∧ TqO w' q N n 0 (newS n) O ∧ (∀ k, O k → w.heap.size ≤ k) ∧ Below w.heap.size w w' := by
 refine (tnew_yes N n w n0 n1 m0 m1).mono ?_
 rintro e w' ⟨q, hs, sp, sc, sf, rp, ra, rb, hp, hb, rfl, ⟨h1, h2, ⟨h3, h4, h5⟩, ⟨h6, h7⟩, h8, h9⟩, ht, hbw⟩
 refine ⟨q, tOwn hs sp sc sf ra rb hp hb none, rfl, ⟨⟨hs, sp, sc, sf, rp, ra, rb, hp, hb, none, ht, fun g => Iff.rfl⟩, TInv.new_ N n (by omega)⟩, ?_, hbw⟩
 rintro k (e | (e | e | e) | (e | e) | (e | e | ⟨x, hx, _⟩))
 all_goals first | omega | cases hx
theorem tqo_put (r : Rq) (h : TqO w q N n K s O) (hm : s.m = m + 1) (hi : s.F m = i) (b0 : 0 ≤ r.b) (b1 : r.b < (N : Int)) (hK : K ≤ 1000000) :
   Calls Tryz.prog 123 #[.pointer (some ⟨q, 0, none⟩), rqv r] w fun x w' => x = .returned (.tuple #[.int .u64 (s.H i + 4294967296), .int .i64 0]) ∧ ∃ O' : Nat → Prop, TqO w' q N n (K + 1) (putS s i m r) O' ∧ (∀ k, O' k → O k ∨ w.heap.size ≤ k) ∧ Kept O w w' := by
 obtain ⟨⟨hs, sp, sc, sf, rp, ra, rb, hp, hb, A, h1, h2⟩, h3⟩ := h
 have hf := h3.free hm
 rw [hi] at hf
 have hh := h3.hh i hf.1
 have hub := h3.ub
 have h4 := h3.put (r := r) hm hi b0 b1
 rw [hm] at h1
 have hpe : pushE N n s.L r.b (i : Int) = 0 := by
   unfold pushE
   rw [if_neg (by omega), if_neg (by omega), Int.toNat_natCast, h3.notin hf.2]; rfl
 have hpq : pushQ N n s.L r.b (i : Int) = pushL s.L r.b.toNat i := by unfold pushQ; rw [if_pos hpe, Int.toNat_natCast]
 obtain ⟨a, b, k, d, e⟩ := r
 refine (tput_yes a b k d e w h1 hi hf.1 hh.2.1 (by omega) (by omega) b0 b1 (h3.notin hf.2) (h3.nodue hf.2) (by omega)).mono ?_
 rintro x w' ⟨rfl, A', ht, hk, hal⟩
 rw [hpq] at ht
 refine ⟨rfl, tOwn hs sp sc sf ra rb hp hb A', ⟨⟨hs, sp, sc, sf, rp, ra, rb, hp, hb, A', ht, fun g => Iff.rfl⟩, h4⟩, ?_, hk.more fun k _ hc => (h2 k).2 hc⟩
 rintro k (e | e | e | (e | e | ⟨x, hx, e⟩))
 · exact .inl ((h2 k).2 (.inl e))
 · exact .inl ((h2 k).2 (.inr (.inl e)))
 · exact .inl ((h2 k).2 (.inr (.inr (.inl e))))
 · exact .inl ((h2 k).2 (.inr (.inr (.inr (.inl e)))))
 · exact .inl ((h2 k).2 (.inr (.inr (.inr (.inr (.inl e))))))
 · rcases hal x hx with ⟨y, hy, ey⟩ | c
   · exact .inl ((h2 k).2 (.inr (.inr (.inr (.inr (.inr ⟨y, hy, ey.trans e⟩))))))
   · right; omega
theorem tqo_take (h : TqO w q N n K s O) (hi : i < n) (ht : s.T i = true) (hg : s.H i = g) (hK : K ≤ 1000000) :
   Calls Tryz.prog 120 #[.pointer (some ⟨q, 0, none⟩), .int .u64 g] w fun x w' => x = .returned (.tuple #[rqv (s.R i), .int .i64 0]) ∧ TqO w' q N n K (takS N s i) O ∧ Kept O w w' := by
 obtain ⟨⟨hs, sp, sc, sf, rp, ra, rb, hp, hb, A, h1, h2⟩, h3⟩ := h
 have hh := h3.hh i hi
 have ha := alive_of h3 hi ht hg
 have h4 := h3.tak hi ht
 have hre : remE N n s.L (i : Int) = 0 := by
   unfold remE
   rw [if_neg (by omega), Int.toNat_natCast, h3.isin hi ht]; rfl
 have hrq : remQ N n s.L (i : Int) = remL N s.L i := by unfold remQ; rw [if_pos hre, Int.toNat_natCast]
 refine (ttake_yes g w h1 (by omega) (by omega) ha.1 ha.2 (h3.room hi ht) hre (h3.isdue hi ht)).mono ?_
 rintro x w' ⟨rfl, ht', hk⟩
 rw [hrq] at ht'
 exact ⟨rfl, ⟨⟨hs, sp, sc, sf, rp, ra, rb, hp, hb, A, ht', h2⟩, h4⟩, hk.more fun k _ hc => (h2 k).2 hc⟩
theorem tqo_get (h : TqO w q N n K s O) (hi : i < n) (ht : s.T i = true) (hg : s.H i = g) (hK : K ≤ 1000000) :
   Calls Tryz.prog 162 #[.pointer (some ⟨q, 0, none⟩), .int .u64 g] w fun e w' => e = .returned (.tuple #[rqv (s.R i), .int .i64 0]) ∧ Below w.heap.size w w' := by
 obtain ⟨⟨hs, sp, sc, sf, rp, ra, rb, hp, hb, A, h1, h2⟩, h3⟩ := h
 have hh := h3.hh i hi
 have ha := alive_of h3 hi ht hg
 exact tget_yes g w h1 (by omega) (by omega) ha.1 ha.2
theorem tqo_tail (r : Int) (h : TqO w q N n K s O) : Calls Tryz.prog 169 #[.pointer (some ⟨q, 0, none⟩), .int .i64 r] w fun e w' => e = .returned (.tuple #[.int .u64 (if neE (rowE N s.L r) = true then s.V (laE (rowE N s.L r)) else 0), .bool (neE (rowE N s.L r))]) ∧ w = w' := by
 obtain ⟨⟨hs, sp, sc, sf, rp, ra, rb, hp, hb, A, h1, h2⟩, h3⟩ := h
 exact ttail r w h1
end
end Go.Proofs.YtcffeokbipjaoaaGreat
