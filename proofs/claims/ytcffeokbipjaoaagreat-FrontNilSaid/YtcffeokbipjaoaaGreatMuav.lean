/- Texts of this claim, one behind the other: Tlc Cob Coc. -/
import Derived.Deep.AppendLies
import Derived.Deep.RegionLaw
import Derived.Deep.RegionWith
import Derived.Deep.RegionHeld3
import Derived.Deep.DeepCutAuto
import Derived.BigQuiet
import Derived.Deep.QuietTactic
import Derived.LoopTactic
import Derived.Deep.LoopGhost
import Derived.Test.YtcffeokbipjaoaaGreatMuaa
import Derived.Test.YtcffeokbipjaoaaGreatMuap
import Derived.Test.YtcffeokbipjaoaaGreatMuaq
import Derived.Test.YtcffeokbipjaoaaGreatMuar
import Derived.Test.YtcffeokbipjaoaaGreatMuat
import Derived.Test.YtcffeokbipjaoaaGreatMuau
namespace Go.Proofs.YtcffeokbipjaoaaGreat
open Go.RowKit Go.ChangeShapes Go.WideShapes Go.Deep
set_option maxRecDepth 100000
set_option linter.unusedVariables false
set_option linter.unusedSimpArgs false
theorem own_list {t : TypeId} {w : World} {base : Nat} {v : Value} {L : List Oc} {o : Oc} : OwO t w base v (L ++ [o]) ↔ w.ownsRow base t 6 v (L.length + 1) (flatO L ++ ocRow o) := by
 show w.ownsRow base t 6 v (L ++ [o]).length (flatO (L ++ [o])) ↔ _
 rw [flatO_append, flatO_one, List.length_append]
 exact Iff.rfl
section
variable {base p : Nat} {r : Option Nat} {w w' : World} {L : List Oc}
set_option maxHeartbeats 4000000 in
theorem tadd (o : Oc) (w : World) (h : LogAt base w p r L) (hl : L.length ≤ 1000) (hbw : base ≤ w.heap.size) : Calls Tryz.prog 121 #[.pointer (some ⟨p, 0, none⟩), o.v] w fun e w' => e = .returned (.tuple #[]) ∧
   ∃ r', (r' = r ∨ ∃ g, r' = some g ∧ w.heap.size ≤ g) ∧ LogAt base w' p r' (L ++ [o]) ∧ Kept (fun k => k = p ∨ r = some k) w w' := by
 have hp := h.lt
 obtain ⟨A, c, h0, -, -, ho, hb, hr⟩ := h.slice
 have z0 := hb.free 0
 have HO := Lib.hid ho
 have HB := Lib.hid hb
 have HR := Lib.hid hr
 have hrp : r ≠ some p := fun e => by
   obtain ⟨cs, hc⟩ := (h.row e).2
   exact hc.other hb (by decide) rfl
 have HRP := Lib.hid hrp
 have HNE := Lib.hid (show (Value.slice A L.length c).ownBlock ≠ some p by rw [hr]; exact hrp)
 clear h ho hb hr hrp
 obtain ⟨oa, ob, oc, od, oe, of_⟩ := o
 obtain ⟨i0, hi0, hz0, hz1, hz2⟩ := inf_of tlinfo
 have H1C := oc_one (o := ⟨oa, ob, oc, od, oe, of_⟩)
 go_enter Tryz.func121, Tryz.ntmps121
 go_wp2_with fail
 go_region_law ((refine step_append_lies _ (by rfl) _ _ _ (by rfl) base tT i0 oc0.v 6 48 Tryz.underlying108 hi0 hz0 hz1 hz2 rfl (by decide) (.slice A L.length c) L.length (flatO L) (by rfl) (((HO.out.alloc _).drew).alloc _) ⟨w.heap.size + 1, 0, none⟩ 1 1 [.int .u64 oa, .int .i64 ob, .int .i64 oc, .int .u8 od, .int .i64 oe, .int .i64 of_] (by rfl) (by rfl) (World.news_of_block (cs := #[.int .u64 oa, .int .i64 ob, .int .i64 oc, .int .u8 od, .int .i64 oe, .int .i64 of_]) (t := tT) (fr := (0, 0)) (Blk.new_ (by simp))) H1C (by omega) (by have := maxbig; omega) (by omega) (by simp; omega) (w.heap.size + 2) (by simp) ?_; intro gg cap1 w1 hown1 hgrow hat hlt; have zg1 : w1.frozen? ⟨p, 0, none⟩ = false := (hgrow.frozen_far _ (by simp; omega) (Ne.symm HNE.out)).trans (((HB.out.alloc_ _).drew_.alloc_ _).free 0); have cg1 := (hgrow.cell_far ⟨p, 0, none⟩ (by simp; omega) (Ne.symm HNE.out)).trans (((HB.out.alloc_ _).drew_.alloc_ _).val rfl)))
 all_goals
   go_wp2
   refine bodyPost_end (results_none rfl _ _ _) rfl ?_
   refine ⟨rfl, some gg, ?_, ⟨_, (((HB.out.alloc_ _).drew_.alloc_ _).kept_by hgrow HNE.out).set_ 0 _, ?_, rfl⟩, ?_⟩
   · rcases hat with e | e
     · exact .inl (by rw [← HR.out, e])
     · exact .inr ⟨gg, rfl, by omega⟩
   · have hh : OwO tT w1 base (.slice (some ⟨gg, 0, none⟩) (L.length + 1) cap1) (L ++ [⟨oa, ob, oc, od, oe, of_⟩]) := own_list.2 hown1
     exact OwO.kept (own := fun k => k = p) hh ((Kept.refl (fun k => k = p) w1).set_ (p := ⟨p, 0, none⟩) (.inl rfl) _) fun g e1 e2 => by
       obtain ⟨cs, hc⟩ := (OwO.own_lt hh e1).2
       exact hc.other (((HB.out.alloc_ _).drew_.alloc_ _).kept_by hgrow HNE.out) (by decide) e2
   · exact (((((Kept.refl _ w).alloc_ _).drew_).alloc_ _).grown hgrow (fun k e => .inl (.inr (by rw [← HR.out]; exact e)))).set_ (p := ⟨p, 0, none⟩) (.inl (.inl rfl)) _
end
end Go.Proofs.YtcffeokbipjaoaaGreat
namespace Go.Proofs.YtcffeokbipjaoaaGreat
open Go.ChangeShapes Go.WideShapes Go.RowKit
set_option linter.unusedVariables false
set_option linter.unusedSimpArgs false
def RB (w : World) (g : Nat) (T : TypeId) (sz N : Nat) (row : Nat → List Value) : Prop :=
 ∃ cs : Array Value, Blk w g T cs ∧ cs.size = N * sz ∧ ∀ t, t < N → ∀ k, k < sz → cs[t * sz + k]? = (row t)[k]?
section
variable {w w' : World} {g sz N : Nat} {T : TypeId} {row row' : Nat → List Value} {own : Nat → Prop}
theorem RB.kept (h : RB w g T sz N row) (hk : Kept own w w') (hg : ¬ own g) : RB w' g T sz N row := by
 obtain ⟨cs, hb, h1, h2⟩ := h
 exact ⟨cs, hb.kept hk hg, h1, h2⟩
theorem RB.below (h : RB w g T sz N row) (hb : Below w.heap.size w w') : RB w' g T sz N row := h.kept (own := fun _ => False) (Kept.of_below hb) id
theorem RB.blk (h : RB w g T sz N row) : ∃ cs, Blk w g T cs := by obtain ⟨cs, hb, _⟩ := h; exact ⟨cs, hb⟩
theorem RB.at_ (h : RB w g T sz N row) {t k : Nat} {v : Value} (ht : t < N) (hk : k < sz) (hv : (row t)[k]? = some v) : w.cell? ⟨g, t * sz + k, none⟩ = some v := by
 obtain ⟨cs, hb, h1, h2⟩ := h
 exact hb.val ((h2 t ht k hk).trans hv)
theorem RB.free (h : RB w g T sz N row) (i : Nat) : w.frozen? ⟨g, i, none⟩ = false := by obtain ⟨cs, hb, _⟩ := h; exact hb.free i
theorem RB.congr_ (h : RB w g T sz N row) (hr : ∀ t, t < N → row t = row' t) : RB w g T sz N row' := by
 obtain ⟨cs, hb, h1, h2⟩ := h
 exact ⟨cs, hb, h1, fun t ht k hk => by rw [← hr t ht]; exact h2 t ht k hk⟩
theorem RB.set_ (h : RB w g T sz N row) {t k : Nat} (ht : t < N) (hk : k < sz) (hl : (row t).length = sz) (v : Value) : RB (w.setCell ⟨g, t * sz + k, none⟩ v) g T sz N (fun j => if j = t then (row t).set k v else row j) := by
 obtain ⟨cs, hb, h1, h2⟩ := h
 refine ⟨_, hb.set_ _ v, by rw [Array.size_setIfInBounds]; exact h1, fun j hj i hi => ?_⟩
 by_cases hjt : j = t
 · subst hjt
   show (cs.setIfInBounds (j * sz + k) v)[j * sz + i]? = (if j = j then (row j).set k v else row j)[i]?
   rw [if_pos rfl]
   by_cases hik : i = k
   · subst hik
     have h3 : j * sz + i < cs.size := by
       rw [h1]
       have : (j + 1) * sz ≤ N * sz := Nat.mul_le_mul_right _ hj
       rw [Nat.add_mul, Nat.one_mul] at this
       omega
     rw [get_set_same h3, List.getElem?_set_self (by omega)]
   · rw [get_set_far (by omega), List.getElem?_set_ne (by omega)]
     exact h2 j hj i hi
 · show (cs.setIfInBounds (t * sz + k) v)[j * sz + i]? = (if j = t then (row t).set k v else row j)[i]?
   rw [if_neg hjt, get_set_far (fun e => ?_)]
   · exact h2 j hj i hi
   · rcases Nat.lt_trichotomy j t with hlt | hlt | hlt
     · have : (j + 1) * sz ≤ t * sz := Nat.mul_le_mul_right _ hlt
       rw [Nat.add_mul, Nat.one_mul] at this; omega
     · exact hjt hlt
     · have : (t + 1) * sz ≤ j * sz := Nat.mul_le_mul_right _ hlt
       rw [Nat.add_mul, Nat.one_mul] at this; omega
end
def cRow (s : Cst) : List Value := [.bool s.ab, .int .i64 s.fi, .bool s.dr, .int .i64 s.ne, .int .u64 s.co, .int .u64 s.la]
def mRow (s : Mst) : List Value := [.bool s.li, .int .i64 s.si, .int .u64 s.tu]
structure Cor where
 cf : Cf
 N : Nat
 n : Nat
 K : Nat
 q : Ts
 cod : Nat → Cst
 mod : Nat → Mst
 pid : Pst
 log : List Oc
 ph : Int
 lim : Int
 clk : Int
 tk : Int
def I64_ (a : Int) : Prop := -9223372036854775808 ≤ a ∧ a ≤ 9223372036854775807
structure Cf.fits (c : Cf) : Prop where
 ti : I64_ c.ti
 ro : I64_ c.ro
 ta : I64_ c.ta
 iv : I64_ c.iv
 hg : I64_ c.hg
 lo : I64_ c.lo
 dw : I64_ c.dw
 ho : I64_ c.ho
 sp : I64_ c.sp
 kp : I64_ c.kp
 ki : I64_ c.ki
 kd : I64_ c.kd
 lm : I64_ c.lm
 st : I64_ c.st
 th : I64_ c.th
 rg : I64_ c.rg
structure Cor.ok (S : Cor) : Prop where
 fits : S.cf.fits
 hN : S.cf.ti = (S.N : Int)
 hn : S.cf.ro = (S.n : Int)
 N1 : 1 ≤ S.N
 N8 : S.N ≤ 8
 n1 : 1 ≤ S.n
 nm : S.n ≤ 1024
 cod : ∀ t, t < S.N → (S.cod t).ok
 mod : ∀ t, t < S.N → (S.mod t).ok
 pid : S.pid.ok
 ph : S.ph = 0 ∨ S.ph = 1 ∨ S.ph = 2
 lim : I64_ S.lim
 clk : I64_ S.clk
 tk0 : 0 ≤ S.tk
 tk1 : S.tk = S.K
 rq : ∀ i, i < S.n → S.q.T i = true → I64_ (S.q.R i).e ∧ I64_ (S.q.R i).d ∧ I64_ (S.q.R i).c ∧ 0 ≤ (S.q.R i).a ∧ (S.q.R i).a ≤ S.tk
 lg : S.log.length + S.n ≤ S.K + S.q.m
def coreCells (S : Cor) (q gc gm l : Nat) : List Value :=
 S.cf.l ++ [.pointer (some ⟨q, 0, none⟩), .slice (some ⟨gc, 0, none⟩) S.N S.N, .slice (some ⟨gm, 0, none⟩) S.N S.N, .int .i64 S.pid.su, .int .i64 S.pid.la, .int .i64 S.pid.le, .pointer (some ⟨l, 0, none⟩), .int .u8 S.ph, .int .i64 S.lim, .int .i64 S.clk, .int .u64 S.tk]
abbrev coT : TypeId := 90
abbrev csT : TypeId := 280
abbrev msT : TypeId := 283
structure CoreB (w : World) (p q gc gm l : Nat) (r : Option Nat) (Oq : Nat → Prop) (S : Cor) : Prop where
 head : Blk w p coT (coreCells S q gc gm l).toArray
 que : TqO w q S.N S.n S.K S.q Oq
 cod : RB w gc csT 6 S.N (fun t => cRow (S.cod t))
 mod : RB w gm msT 3 S.N (fun t => mRow (S.mod t))
 log : LogAt 0 w l r S.log
 ok : S.ok
structure CoreL (w : World) (p : Nat) (O : Nat → Prop) (S : Cor) : Prop where
 ex : ∃ q gc gm l r Oq, CoreB w p q gc gm l r Oq S ∧ ∀ k, O k ↔ (k = p ∨ k = gc ∨ k = gm ∨ k = l ∨ r = some k ∨ Oq k)
def CStep (w : World) (p : Nat) (O : Nat → Prop) (S : Cor) (w' : World) : Prop := ∃ O' : Nat → Prop, CoreL w' p O' S ∧ (∀ k, O' k → O k ∨ w.heap.size ≤ k) ∧ Kept O w w'
theorem coT_not : coT ∉ tqTypes := by decide
theorem csT_not : csT ∉ tqTypes := by decide
theorem msT_not : msT ∉ tqTypes := by decide
theorem lgT_not : 110 ∉ tqTypes := by decide
theorem ocT_not : 164 ∉ tqTypes := by decide
section
variable {w w' w'' : World} {p q gc gm l : Nat} {r : Option Nat} {O Oq : Nat → Prop} {S S' : Cor}
theorem CoreB.below (h : CoreB w p q gc gm l r Oq S) (hb : Below w.heap.size w w') : CoreB w' p q gc gm l r Oq S :=
 ⟨h.head.below_ hb h.head.size, h.que.below hb, h.cod.below hb, h.mod.below hb, h.log.below hb, h.ok⟩
theorem CoreL.below (h : CoreL w p O S) (hb : Below w.heap.size w w') : CoreL w' p O S := by
 obtain ⟨⟨q, gc, gm, l, r, Oq, h1, h2⟩⟩ := h
 exact ⟨⟨q, gc, gm, l, r, Oq, h1.below hb, h2⟩⟩
theorem CoreB.lt (h : CoreB w p q gc gm l r Oq S) {k : Nat} (hk : k = p ∨ k = gc ∨ k = gm ∨ k = l ∨ r = some k ∨ Oq k) : k < w.heap.size := by
 rcases hk with e | e | e | e | e | e
 · rw [e]; exact h.head.size
 · obtain ⟨c, hc⟩ := h.cod.blk; rw [e]; exact hc.size
 · obtain ⟨c, hc⟩ := h.mod.blk; rw [e]; exact hc.size
 · rw [e]; exact h.log.lt
 · obtain ⟨_, c, hc⟩ := h.log.row e; exact hc.size
 · exact h.que.lt e
theorem CoreL.lt (h : CoreL w p O S) {k : Nat} (hk : O k) : k < w.heap.size := by
 obtain ⟨⟨q, gc, gm, l, r, Oq, h1, h2⟩⟩ := h
 exact h1.lt ((h2 k).1 hk)
theorem CoreL.ok (h : CoreL w p O S) : S.ok := by
 obtain ⟨⟨q, gc, gm, l, r, Oq, h1, h2⟩⟩ := h
 exact h1.ok
theorem CStep.refl_ (h : CoreL w p O S) (hb : Below w.heap.size w w') : CStep w p O S w' := ⟨O, h.below hb, fun k hk => .inl hk, Kept.of_below hb⟩
theorem kept_step {O O' : Nat → Prop} (h : Kept O w w') (hO : ∀ k, O' k → O k ∨ w.heap.size ≤ k) (h' : Kept O' w' w'') : Kept O w w'' :=
 ⟨h'.os.trans h.os, h'.tape.trans h.tape, h'.output.trans h.output, Nat.le_trans h.size h'.size, fun i hi hn => (h'.block i (Nat.lt_of_lt_of_le hi h.size) fun ho => by rcases hO i ho with h1 | h1; exact hn h1; omega).trans (h.block i hi hn)⟩
theorem CStep.and (h : CStep w p O S w') (h' : ∀ O', CoreL w' p O' S → (∀ k, O' k → O k ∨ w.heap.size ≤ k) → CStep w' p O' S' w'') : CStep w p O S' w'' := by
 obtain ⟨O1, h1, h2, h3⟩ := h
 obtain ⟨O2, h4, h5, h6⟩ := h' O1 h1 h2
 refine ⟨O2, h4, fun k hk => ?_, kept_step h3 h2 h6⟩
 rcases h5 k hk with h7 | h7
 · exact h2 k h7
 · right; have := h3.size; omega
theorem CStep.below (h : CStep w p O S w') (hb : Below w'.heap.size w' w'') : CStep w p O S w'' := by
 obtain ⟨O1, h1, h2, h3⟩ := h
 exact ⟨O1, h1.below hb, h2, kept_step h3 h2 (Kept.of_below hb)⟩
theorem CStep.after (hb : Below w.heap.size w w') (h : CStep w' p O S w'') : CStep w p O S w'' := by
 obtain ⟨O1, h1, h2, h3⟩ := h
 refine ⟨O1, h1, fun k hk => ?_, ?_⟩
 · rcases h2 k hk with h4 | h4
   · exact .inl h4
   · right; have := hb.size; omega
 · exact kept_step (O := O) (Kept.of_below hb) (fun k hk => .inl hk) h3
theorem CStep.size (h : CStep w p O S w') : w.heap.size ≤ w'.heap.size := by obtain ⟨_, _, _, h3⟩ := h; exact h3.size
theorem CoreL.cells (h : CoreL w p O S) : ∃ q gc gm l r Oq, CoreB w p q gc gm l r Oq S ∧ (∀ k, O k ↔ (k = p ∨ k = gc ∨ k = gm ∨ k = l ∨ r = some k ∨ Oq k)) := h.ex
theorem CoreB.c16 (h : CoreB w p q gc gm l r Oq S) : w.cell? ⟨p, 16, none⟩ = some (.pointer (some ⟨q, 0, none⟩)) := h.head.val rfl
theorem CoreB.c19 (h : CoreB w p q gc gm l r Oq S) : w.cell? ⟨p, 19, none⟩ = some (.int .i64 S.pid.su) := h.head.val rfl
theorem CoreB.c20 (h : CoreB w p q gc gm l r Oq S) : w.cell? ⟨p, 20, none⟩ = some (.int .i64 S.pid.la) := h.head.val rfl
theorem CoreB.c21 (h : CoreB w p q gc gm l r Oq S) : w.cell? ⟨p, 21, none⟩ = some (.int .i64 S.pid.le) := h.head.val rfl
theorem CoreB.c22 (h : CoreB w p q gc gm l r Oq S) : w.cell? ⟨p, 22, none⟩ = some (.pointer (some ⟨l, 0, none⟩)) := h.head.val rfl
theorem CoreB.c23 (h : CoreB w p q gc gm l r Oq S) : w.cell? ⟨p, 23, none⟩ = some (.int .u8 S.ph) := h.head.val rfl
theorem CoreB.c24 (h : CoreB w p q gc gm l r Oq S) : w.cell? ⟨p, 24, none⟩ = some (.int .i64 S.lim) := h.head.val rfl
theorem CoreB.c25 (h : CoreB w p q gc gm l r Oq S) : w.cell? ⟨p, 25, none⟩ = some (.int .i64 S.clk) := h.head.val rfl
theorem CoreB.c26 (h : CoreB w p q gc gm l r Oq S) : w.cell? ⟨p, 26, none⟩ = some (.int .u64 S.tk) := h.head.val rfl
theorem CoreB.apart (h : CoreB w p q gc gm l r Oq S) : p ≠ gc ∧ p ≠ gm ∧ p ≠ l ∧ r ≠ some p ∧ ¬ Oq p ∧ gc ≠ gm ∧ gc ≠ l ∧ r ≠ some gc ∧ ¬ Oq gc ∧ gm ≠ l ∧ r ≠ some gm ∧ ¬ Oq gm ∧ ¬ Oq l ∧ (∀ k, r = some k → ¬ Oq k) := by
 obtain ⟨c1, h1⟩ := h.cod.blk
 obtain ⟨c2, h2⟩ := h.mod.blk
 obtain ⟨c3, h3⟩ := h.log.head
 refine ⟨h.head.other h1 (by decide), h.head.other h2 (by decide), h.head.other h3 (by decide), ?_, h.que.apart h.head coT_not, h1.other h2 (by decide), h1.other h3 (by decide), ?_, h.que.apart h1 csT_not, h2.other h3 (by decide), ?_, h.que.apart h2 msT_not, h.que.apart h3 lgT_not, ?_⟩
 · intro e; obtain ⟨_, c, hc⟩ := h.log.row e; exact h.head.other hc (by decide) rfl
 · intro e; obtain ⟨_, c, hc⟩ := h.log.row e; exact h1.other hc (by decide) rfl
 · intro e; obtain ⟨_, c, hc⟩ := h.log.row e; exact h2.other hc (by decide) rfl
 · intro k e; obtain ⟨_, c, hc⟩ := h.log.row e; exact h.que.apart hc ocT_not
theorem CoreB.set_ (h : CoreB w p q gc gm l r Oq S) (i : Nat) (u : Value) (he : (coreCells S q gc gm l).set i u = coreCells S' q gc gm l) (hok : S'.ok) (e1 : S'.N = S.N) (e2 : S'.n = S.n) (e3 : S'.K = S.K) (e4 : S'.q = S.q) (e5 : S'.cod = S.cod) (e6 : S'.mod = S.mod) (e7 : S'.log = S.log) :
   CoreB (w.setCell ⟨p, i, none⟩ u) p q gc gm l r Oq S' := by
 obtain ⟨a1, a2, a3, a4, a5, a6, a7, a8, a9, a10, a11, a12, a13, a14⟩ := h.apart
 have hk : Kept (fun k => k = p) w (w.setCell ⟨p, i, none⟩ u) := Kept.set_ (own := fun k => k = p) (Kept.refl _ _) (p := ⟨p, i, none⟩) (.inl rfl) _
 refine ⟨?_, ?_, ?_, ?_, ?_, hok⟩
 · have := h.head.set_ i u
   rw [← he]
   simpa using this
 · rw [e1, e2, e3, e4]; exact h.que.other hk (fun k _ hc => ⟨_, _, hc ▸ h.head, coT_not⟩)
 · rw [e1, e5]; exact h.cod.kept hk (fun hc => a1 hc.symm)
 · rw [e1, e6]; exact h.mod.kept hk (fun hc => a2 hc.symm)
 · rw [e7]; exact h.log.kept hk (fun hc => a3 hc.symm) (fun g hg hc => a4 (by rw [hg, hc]))
end
end Go.Proofs.YtcffeokbipjaoaaGreat
namespace Go.Proofs.YtcffeokbipjaoaaGreat
open Go.ChangeShapes Go.WideShapes Go.RowKit Kn
set_option linter.unusedVariables false
set_option linter.unusedSimpArgs false
theorem field_le (a b c : Int) (W : World) : (Instr.field 48 (.agg #[.int .i64 a, .int .i64 b, .int .i64 c]) 2).run Tryz.prog W = .ok (.int .i64 c) W := by kernel_rfl
section
variable {w w' w'' : World} {p q gc gm l : Nat} {r : Option Nat} {O Oq : Nat → Prop} {S S' : Cor}
set_option maxRecDepth 100000 in
theorem co_pid (h : CoreL w p O S) : Calls Tryz.prog 20 #[.pointer (some ⟨p, 0, none⟩)] w fun e w' => e = .returned (.agg #[.int .i64 S.pid.su, .int .i64 S.pid.la, .int .i64 S.pid.le]) ∧ Below w.heap.size w w' := by
 obtain ⟨q, gc, gm, l, r, Oq, h1, -⟩ := h.cells
 have c1 := h1.c19
 have c2 := h1.c20
 have c3 := h1.c21
 have hp : p < w.heap.size := h1.head.size
 have hpn : ¬ w.heap.size = p := by omega
 have hpn2 : ¬ p = w.heap.size := by omega
 clear h h1
 go_enter Tryz.func20, Tryz.ntmps20
 go_wp2
 refine bodyPost_ret (v := .agg #[.int .i64 S.pid.su, .int .i64 S.pid.la, .int .i64 S.pid.le]) (by simp [results, Tryz.results20, go_sem]) rfl ⟨rfl, ?_⟩
 repeat (first | with_reducible exact Below.refl _ _ | refine Below.setCell ?_ (by simp) _ | refine Below.alloc ?_ (by simp) _)
set_option maxRecDepth 100000 in
theorem co_level (h : CoreL w p O S) : Calls Tryz.prog 117 #[.pointer (some ⟨p, 0, none⟩)] w fun e w' => e = .returned (.int .i64 S.pid.le) ∧ Below w.heap.size w w' := by
 go_enter Tryz.func117, Tryz.ntmps117
 have hfl := fun W => field_le S.pid.su S.pid.la S.pid.le W
 go_wp2_with (go_at_call 20; refine (co_pid h).mono ?_; rintro e w' ⟨he, hb⟩; subst he; have HB := Lib.hid hb; clear hb)
 go_ret
 exact ⟨rfl, HB.out⟩
set_option maxRecDepth 100000 in
set_option maxHeartbeats 1000000 in
theorem co_waited {i : Nat} {g : Int} (h : CoreL w p O S) (hi : i < S.n) (ht : S.q.T i = true) (hg : S.q.H i = g) (hK : S.K ≤ 1000) :
   Calls Tryz.prog 119 #[.pointer (some ⟨p, 0, none⟩), .int .u64 g] w fun e w' => e = .returned (.int .i64 (sat (S.clk - (S.q.R i).e))) ∧ Below w.heap.size w w' := by
 obtain ⟨q, gc, gm, l, r, Oq, h1, -⟩ := h.cells
 have hk := h1.ok
 obtain ⟨⟨e0, e1⟩, -⟩ := hk.rq i hi ht
 obtain ⟨k0, k1⟩ := hk.clk
 have c := h1.c16
 have c2 := h1.c25
 have hp : p < w.heap.size := h1.head.size
 have HQ := Lib.hid h1.que
 obtain ⟨⟨a, b, cc, d, e9⟩, hR⟩ : ∃ x, S.q.R i = x := ⟨_, rfl⟩
 have HR := Lib.hid hR
 rw [hR] at e0 e1 ⊢
 clear h h1 hk hR
 go_enter Tryz.func119, Tryz.ntmps119
 go_wp2_with fail
 refine (tqo_get HQ.out hi ht hg (by omega)).mono ?_
 rintro e w1 ⟨rfl, hb⟩
 rw [HR.out]
 have he : rqv ⟨a, b, cc, d, e9⟩ = .agg #[.int .u64 a, .int .i64 b, .int .i64 cc, .int .i64 d, .int .i64 e9] := rfl
 rw [he]
 have c3 : w1.cell? ⟨p, 25, none⟩ = some (.int .i64 S.clk) := (hb.cell hp).trans c2
 have HB := Lib.hid (hb.alloc hb.size (.cells #[.int .u64 a, .int .i64 b, .int .i64 cc, .int .i64 d, .int .i64 e9] 107))
 have hp1 : p < w1.heap.size := Nat.lt_of_lt_of_le hp hb.size
 clear hb he c c2
 go_upto_region 2 with fail
 have hfs : ∀ n, Calls Tryz.prog 163 #[.int .i64 S.clk, .int .i64 e9] ((w1.alloc (.cells #[.int .u64 a, .int .i64 b, .int .i64 cc, .int .i64 d, .int .i64 e9] 107)).drewN n) fun e w' => e = .returned (.int .i64 (sat (S.clk - e9))) ∧ w' = (w1.alloc (.cells #[.int .u64 a, .int .i64 b, .int .i64 cc, .int .i64 d, .int .i64 e9] 107)).drewN n := fun n => (fsub_any _ _ _ k0 k1 e0 e1).mono fun _ _ h => ⟨h.1, h.2.symm⟩
 have HFS := Lib.hid hfs
 clear hfs
 go_quiet ((go_at_call 163; exact Calls.quiet_of_same (HFS.out _)))
 go_wp2
 go_ret
 exact ⟨rfl, ⟨HB.out.os, HB.out.tape, HB.out.output, HB.out.size, HB.out.block⟩⟩
end
end Go.Proofs.YtcffeokbipjaoaaGreat
