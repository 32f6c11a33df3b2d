/- Texts of this claim, one behind the other: Coy Crd. -/
import Derived.RangeFuncBox
import Derived.Test.YtcffeokbipjaoaaGreatMtak
import Derived.Test.YtcffeokbipjaoaaGreatMtar
import Derived.Test.YtcffeokbipjaoaaGreatMtbh
import Derived.Test.YtcffeokbipjaoaaGreatMtbr
namespace Go.Proofs.YtcffeokbipjaoaaGreat
open Go.ChangeShapes Go.WideShapes Go.RowKit Kn
set_option linter.unusedVariables false
set_option linter.unusedSimpArgs false
abbrev rqT : TypeId := 107
abbrev quT : TypeId := 170
abbrev sqT : TypeId := 167
abbrev srT : TypeId := 42
def rRow (r : Rq) : List Value := [.int .u64 r.a, .int .i64 r.b, .int .i64 r.c, .int .i64 r.d, .int .i64 r.e]
def qRow (h : Int) (r : Rq) : List Value := [.int .u64 h, .int .u64 r.a, .int .i64 r.b, .int .i64 r.c, .int .i64 r.d, .int .i64 r.e]
def flatR (R : Nat → Rq) (xs : List Nat) : List Value := xs.flatMap fun i => rRow (R i)
def flatQ (V : Nat → Int) (R : Nat → Rq) (xs : List Nat) : List Value := xs.flatMap fun i => qRow (V i) (R i)
theorem flatR_app (R : Nat → Rq) (xs : List Nat) (i : Nat) : flatR R (xs ++ [i]) = flatR R xs ++ rRow (R i) := by simp [flatR]
theorem flatQ_app (V : Nat → Int) (R : Nat → Rq) (xs : List Nat) (i : Nat) : flatQ V R (xs ++ [i]) = flatQ V R xs ++ qRow (V i) (R i) := by simp [flatQ]
theorem rinfo : (Tryz.prog.info? rqT).map (fun i => (i.zero, i.size, i.bytes)) = some (some (.agg #[.int .u64 0, .int .i64 0, .int .i64 0, .int .i64 0, .int .i64 0]), 5, 40) := by kernel_rfl
theorem quinfo : (Tryz.prog.info? quT).map (fun i => (i.zero, i.size, i.bytes)) = some (some (.agg #[.int .u64 0, .int .u64 0, .int .i64 0, .int .i64 0, .int .i64 0, .int .i64 0]), 6, 48) := by kernel_rfl
theorem r_one {r : Rq} : ∀ u ∈ rRow r, u.oneCell' = true := by
 intro u hu
 unfold rRow at hu
 simp only [List.mem_cons, List.not_mem_nil, or_false] at hu
 rcases hu with rfl | rfl | rfl | rfl | rfl <;> rfl
theorem q_one {h : Int} {r : Rq} : ∀ u ∈ qRow h r, u.oneCell' = true := by
 intro u hu
 unfold qRow at hu
 simp only [List.mem_cons, List.not_mem_nil, or_false] at hu
 rcases hu with rfl | rfl | rfl | rfl | rfl | rfl <;> rfl
theorem KpQ.app {B k n0 sz n : Nat} {e : TypeId} {v : Value} {xs : List Value} {X Y : World} (ho : X.ownsRow n0 e sz v n xs) (hB : B ≤ n0) (hBX : B ≤ X.heap.size) (hg : X.grownBy Y v.ownBlock) (hne : e ≠ tyQ ∧ e ≠ tyY ∧ e ≠ tyR ∧ e ≠ tyI) : KpQ B k X Y := by
 refine ⟨(Below.refl B X).grown hg hBX (fun r hr => ?_), fun g t cs hk ht hb => hb.grown_ hg ho (fun h => ?_)⟩
 · rcases ho.2 with ⟨rfl, _⟩ | ⟨g, cap, cur, rfl, h1, _⟩
   · simp [Value.ownBlock] at hr
   · have : g = r := by simpa [Value.ownBlock] using hr
     omega
 · obtain ⟨h1, h2, h3, h4⟩ := hne
   rcases ht with e1 | e1 | e1 | e1
   · exact h1 (h.trans e1)
   · exact h2 (h.trans e1)
   · exact h3 (h.trans e1)
   · exact h4 (h.trans e1)
theorem allT_mem {L : Nat → List Nat} {t x : Nat} : x ∈ allT L t ↔ ∃ r, r < t ∧ x ∈ L r := by
 unfold allT; rw [List.mem_flatMap]
 constructor
 · rintro ⟨r, hr, hx⟩; exact ⟨r, List.mem_range.1 hr, hx⟩
 · rintro ⟨r, hr, hx⟩; exact ⟨r, List.mem_range.2 hr, hx⟩
theorem Lists.all_nd {N M : Nat} {L : Nat → List Nat} (h : Lists N M L) : ∀ t, t ≤ N → (allT L t).Nodup
 | 0, _ => List.nodup_nil
 | t + 1, ht => by
   rw [allT_succ, List.nodup_append]
   refine ⟨h.all_nd t (by omega), h.nd t (by omega), fun x hx y hy e => ?_⟩
   subst e
   obtain ⟨r, hr, hxr⟩ := allT_mem.1 hx
   have := h.ap r t (by omega) (by omega) x hxr hy
   omega
theorem Lists.all_len {N M : Nat} {L : Nat → List Nat} (h : Lists N M L) : (allT L N).length ≤ M :=
 nodup_le M _ (h.all_nd N (Nat.le_refl _)) (fun x hx => by obtain ⟨r, hr, hxr⟩ := allT_mem.1 hx; exact h.lt r hr x hxr)
theorem galloc (w : World) (o : Obj) (row : Option Nat) : w.grownBy (w.alloc o) row := ⟨rfl, rfl, rfl, by simp, fun k hk _ => Below.heap_alloc w o k hk⟩
theorem ax_blk {B : Nat} {a' : Act} {T : TypeId} {cs : Array Value} (fa : Nat → Act) : OwnFrom B (fun (_ : Unit) W => ∃ b, a' = fa b ∧ Blk W b T cs) := fun _ X Y row hs hg hr => by
 obtain ⟨b, h1, h2⟩ := hs
 exact ⟨b, h1, blk_stay h2 hg hr⟩
attribute [local go_sem] Oper.semAt_some
section
variable {w w' w'' : World} {p q gc gm l g b : Nat} {r r' : Option Nat} {O Oq Oq' O1 : Nat → Prop} {S S' : Cor} {T : TypeId} {cs : Array Value}
set_option maxRecDepth 100000 in
set_option maxHeartbeats 8000000 in
theorem co_queue (h : CoreL w p O S) (hK0 : S.K ≤ 1000) :
   Calls Tryz.prog 17 #[.pointer (some ⟨p, 0, none⟩)] w fun e w' => ∃ v, e = .returned v ∧ w'.ownsRow w.heap.size rqT 5 v (allT S.q.L S.N).length (flatR S.q.R (allT S.q.L S.N)) ∧ Below w.heap.size w w' := by
 obtain ⟨q, gc, gm, l, r, Oq, h1, hO⟩ := h.cells
 have hN8 : S.N ≤ 8 := h1.ok.N8
 have hK : S.K ≤ 1000000 := by omega
 have c16 := h1.c16
 have hp := h1.head.size
 have hQ := h1.que.toL
 have hlen : (allT S.q.L S.N).length ≤ 10000 := by have := h1.lists.all_len; have := h1.ok.nm; omega
 have HQ := Lib.hid hQ
 have HL := Lib.hid hlen
 clear h h1 hO hQ hlen
 obtain ⟨i0, hi, hz0, hz1, hz2⟩ := inf_of rinfo
 refine (callsIn_wide (n := 9)).1 ?_
 refine callsIn_of_wp_marks Tryz.func17 rfl trivial ?_ rfl
 simp only [Tryz.ntmps17, List.size_toArray, List.length_cons, List.length_nil, Nat.reduceAdd, Nat.reduceSub, Array.replicate_succ, Array.replicate_zero, List.push_toArray, List.append_toArray, List.nil_append, List.cons_append]
 gi_wp2
 refine ⟨trivial, ?_⟩
 gi_at_call 48
 refine (callsIn_wide.2 (tqall_made (some ⟨q, 0, none⟩) _)).mono ?_
 rintro x W1 ⟨rfl, hk, hb⟩
 have hk0 : (w.alloc (.cells #[.slice none 0 0] srT)).heap.size = w.heap.size + 1 := by simp
 have bO : Boxed W1 w.heap.size srT (.slice none 0 0) := Blk.below_ (Blk.made w srT #[.slice none 0 0]) hb (by simp)
 have hB1 : Below w.heap.size w W1 := ((Below.refl w.heap.size w).alloc (Nat.le_refl _) _).trans (hb.mono (by simp))
 rw [hk0] at hk ⊢
 have hsq := tq_way (m := 8) (k := w.heap.size + 1) w W1 HQ.out hN8 hK (by omega) hB1 (by omega) hk
 clear hb hk0 hk c16
 gi_wp2
 refine wpIn_rangeP rfl (by omega) (gf := 89) (lb := #[.pointer (some ⟨w.heap.size + 1, 0, none⟩)]) rfl trivial (enters_of Tryz.func89 (by kernel_rfl) rfl)
   hsq KpQ.trans (fun X l o o' hl ho hc _ => KpQ.put X l o o' (Nat.le_trans hB1.size hl) ho hc) (Below.refl _ _) (fun _ => rfl)
   (fun pre W => (∃ v, Boxed W w.heap.size srT v ∧ W.ownsRow w.heap.size rqT 5 v pre.length (flatR S.q.R pre) ∧ True) ∧ Below w.heap.size w W)
   (fun _ _ _ => False)
   (OwnFrom.and (Own.from (holdsRow_own w.heap.size w.heap.size srT rqT 5 (fun pre => pre.length) (fun pre => flatR S.q.R pre) (fun _ _ => True)) _) (ownFrom_below (Nat.le_refl _) hB1.size))
   (fun _ _ _ _ _ hs _ _ => hs)
   ⟨⟨_, bO, World.ownsRow_nil _ _ _ _, trivial⟩, hB1⟩
   (fun x a' W => ∃ b, a' = ({ tmps := #[.pointer (some ⟨p, 0, none⟩), undef, .slice none 0 0, .pointer (some ⟨w.heap.size, 0, none⟩), undef, .pointer (some ⟨b, 0, none⟩), .pointer (some ⟨p, 0, none⟩), .bool false, .pointer (some ⟨p, 0, none⟩), .pointer (some ⟨p, 0, none⟩), .pointer (some ⟨p, 16, none⟩), .pointer (some ⟨q, 0, none⟩), .func (.func 89) #[] #[.pointer (some ⟨w.heap.size + 1, 0, none⟩)], .int .u64 (S.q.V x), .agg #[.int .u64 (S.q.R x).a, .int .i64 (S.q.R x).b, .int .i64 (S.q.R x).c, .int .i64 (S.q.R x).d, .int .i64 (S.q.R x).e], undef, undef, undef, undef, undef], defers := [] } : Act) ∧ Blk W b rqT (rRow (S.q.R x)).toArray)
   (fun x a' => ax_blk (fun b => ({ tmps := #[.pointer (some ⟨p, 0, none⟩), undef, .slice none 0 0, .pointer (some ⟨w.heap.size, 0, none⟩), undef, .pointer (some ⟨b, 0, none⟩), .pointer (some ⟨p, 0, none⟩), .bool false, .pointer (some ⟨p, 0, none⟩), .pointer (some ⟨p, 0, none⟩), .pointer (some ⟨p, 16, none⟩), .pointer (some ⟨q, 0, none⟩), .func (.func 89) #[] #[.pointer (some ⟨w.heap.size + 1, 0, none⟩)], .int .u64 (S.q.V x), .agg #[.int .u64 (S.q.R x).a, .int .i64 (S.q.R x).b, .int .i64 (S.q.R x).c, .int .i64 (S.q.R x).d, .int .i64 (S.q.R x).e], undef, undef, undef, undef, undef], defers := [] } : Act))) ?assign ?body ?done ?stop
 case assign =>
   rintro lz pre x W K ⟨⟨v, hv, hrow, -⟩, hB⟩ hlt hK
   have hre : rqv (S.q.R x) = .agg #[.int .u64 (S.q.R x).a, .int .i64 (S.q.R x).b, .int .i64 (S.q.R x).c, .int .i64 (S.q.R x).d, .int .i64 (S.q.R x).e] := rfl
   gi_wp2
   refine hK _ _ (KeepsFrom.of_grownBy (galloc W _ none) (fun j e => by cases e)) (KpQ.of_below ((Below.refl _ W).alloc (Nat.le_refl _) _) hB.size) ⟨⟨v, hv.alloc _, hrow.alloc _, trivial⟩, hB.alloc hB.size _⟩ ⟨_, rfl, Blk.made _ _ _⟩
 case body =>
   rintro lz pre x a' W hl hr ⟨⟨v, hv, hrow, -⟩, hB⟩ ⟨b, rfl, hb⟩ hlt
   have hc := hv.cell
   obtain ⟨⟨ya, yb, yc, yd, ye⟩, hy⟩ : ∃ y, S.q.R x = y := ⟨_, rfl⟩
   rw [hy] at hb
   have n0 : W.cell? ⟨b, 0, none⟩ = some (.int .u64 ya) := hb.val (i := 0) rfl
   have n1 : W.cell? ⟨b, 1, none⟩ = some (.int .i64 yb) := hb.val (i := 1) rfl
   have n2 : W.cell? ⟨b, 2, none⟩ = some (.int .i64 yc) := hb.val (i := 2) rfl
   have n3 : W.cell? ⟨b, 3, none⟩ = some (.int .i64 yd) := hb.val (i := 3) rfl
   have n4 : W.cell? ⟨b, 4, none⟩ = some (.int .i64 ye) := hb.val (i := 4) rfl
   have HR := Lib.hid hrow
   have HV := Lib.hid hv
   have HBB := Lib.hid hB
   have HY := Lib.hid hy
   have hM : pre.length ≤ 10000 := by have h1 := hlt.length_le; have h2 := HL.out; rw [List.length_append] at h1; omega
   have hWs := hB.size
   have H1C := r_one (r := ⟨ya, yb, yc, yd, ye⟩)
   clear hb hr hrow hv hB hy hsq hlt
   gi_wp2_with (gi_at_builtin; refine wpListIn_append_own _ rfl _ _ srT rfl w.heap.size rqT i0 (.agg #[.int .u64 0, .int .i64 0, .int .i64 0, .int .i64 0, .int .i64 0]) 5 40 Tryz.underlying42 hi hz0 hz1 hz2 rfl (by decide) _ _ _ rfl (HR.out.alloc _) ⟨W.heap.size, 0, none⟩ 1 1 [.int .u64 ya, .int .i64 yb, .int .i64 yc, .int .i64 yd, .int .i64 ye] rfl rfl (World.news_of_block (cs := #[.int .u64 ya, .int .i64 yb, .int .i64 yc, .int .i64 yd, .int .i64 ye]) (t := rqT) (fr := (0, 0)) (Blk.new_ (by simp))) H1C (by have := maxbig; omega) (by omega) (by simp; omega) ?_; intro v' w1 hown' hgrow _; obtain ⟨g', cap', rfl⟩ := ownsRow_succ hown'; obtain ⟨hv1, hv2, hr2, hk2, hb2⟩ := HV.out.appended (by decide) HR.out HBB.out.size (Nat.le_refl _) hown' hgrow; have hc1 := hv1.cell; have hf1 := hv1.frozen; have hKP := KpQ.trans (KpQ.of_below (k := w.heap.size + 1) ((Below.refl W.heap.size W).alloc (Nat.le_refl _) (.cells #[.int .u64 ya, .int .i64 yb, .int .i64 yc, .int .i64 yd, .int .i64 ye] rqT)) hWs) (KpQ.app (k := w.heap.size + 1) (HR.out.alloc (.cells #[.int .u64 ya, .int .i64 yb, .int .i64 yc, .int .i64 yd, .int .i64 ye] rqT)) (Nat.le_refl _) (by simp; omega) hgrow (by decide)))
   exact ⟨hk2.from _, KpQ.trans hKP (KpQ.set_ _ (Nat.le_refl _) (by omega) _), ⟨_, hv2, by rw [flatR_app, HY.out, List.length_append]; simpa [rRow] using hr2, trivial⟩, HBB.out.trans hb2⟩
 case done =>
   rintro D W hD ⟨⟨v, hv, hrow, -⟩, hB⟩ hK
   have hc := hv.cell
   gi_wp2
   refine ⟨by simp, .inl ⟨_, _, rfl, run_takeDeferred hK, ?_⟩⟩
   refine ⟨_, results_tmp rfl _ _ _, v, rfl, ?_, ?_⟩
   · exact ownsRow_putObj hrow (.deferred none) hK rfl
   · exact hB.trans ⟨rfl, rfl, rfl, by simp, fun i hi => World.putObj_heap_other (by have := hB1.size; omega)⟩
 case stop =>
   rintro D c pre W _ _ h _
   exact h.elim
set_option maxRecDepth 100000 in
set_option maxHeartbeats 8000000 in
theorem co_allq (h : CoreL w p O S) (hK0 : S.K ≤ 1000) :
   Calls Tryz.prog 88 #[.pointer (some ⟨p, 0, none⟩)] w fun e w' => ∃ v, e = .returned v ∧ w'.ownsRow w.heap.size quT 6 v (allT S.q.L S.N).length (flatQ S.q.V S.q.R (allT S.q.L S.N)) ∧ Below w.heap.size w w' := by
 obtain ⟨q, gc, gm, l, r, Oq, h1, hO⟩ := h.cells
 have hN8 : S.N ≤ 8 := h1.ok.N8
 have hK : S.K ≤ 1000000 := by omega
 have c16 := h1.c16
 have hp := h1.head.size
 have hQ := h1.que.toL
 have hlen : (allT S.q.L S.N).length ≤ 10000 := by have := h1.lists.all_len; have := h1.ok.nm; omega
 have HQ := Lib.hid hQ
 have HL := Lib.hid hlen
 clear h h1 hO hQ hlen
 obtain ⟨i0, hi, hz0, hz1, hz2⟩ := inf_of quinfo
 refine (callsIn_wide (n := 9)).1 ?_
 refine callsIn_of_wp_marks Tryz.func88 rfl trivial ?_ rfl
 simp only [Tryz.ntmps88, List.size_toArray, List.length_cons, List.length_nil, Nat.reduceAdd, Nat.reduceSub, Array.replicate_succ, Array.replicate_zero, List.push_toArray, List.append_toArray, List.nil_append, List.cons_append]
 gi_wp2
 refine ⟨trivial, ?_⟩
 gi_at_call 48
 refine (callsIn_wide.2 (tqall_made (some ⟨q, 0, none⟩) _)).mono ?_
 rintro x W1 ⟨rfl, hk, hb⟩
 have hk0 : (w.alloc (.cells #[.slice none 0 0] sqT)).heap.size = w.heap.size + 1 := by simp
 have bO : Boxed W1 w.heap.size sqT (.slice none 0 0) := Blk.below_ (Blk.made w sqT #[.slice none 0 0]) hb (by simp)
 have hB1 : Below w.heap.size w W1 := ((Below.refl w.heap.size w).alloc (Nat.le_refl _) _).trans (hb.mono (by simp))
 rw [hk0] at hk ⊢
 have hsq := tq_way (m := 8) (k := w.heap.size + 1) w W1 HQ.out hN8 hK (by omega) hB1 (by omega) hk
 clear hb hk0 hk c16
 gi_wp2
 refine wpIn_rangeP rfl (by omega) (gf := 89) (lb := #[.pointer (some ⟨w.heap.size + 1, 0, none⟩)]) rfl trivial (enters_of Tryz.func89 (by kernel_rfl) rfl)
   hsq KpQ.trans (fun X l o o' hl ho hc _ => KpQ.put X l o o' (Nat.le_trans hB1.size hl) ho hc) (Below.refl _ _) (fun _ => rfl)
   (fun pre W => (∃ v, Boxed W w.heap.size sqT v ∧ W.ownsRow w.heap.size quT 6 v pre.length (flatQ S.q.V S.q.R pre) ∧ True) ∧ Below w.heap.size w W)
   (fun _ _ _ => False)
   (OwnFrom.and (Own.from (holdsRow_own w.heap.size w.heap.size sqT quT 6 (fun pre => pre.length) (fun pre => flatQ S.q.V S.q.R pre) (fun _ _ => True)) _) (ownFrom_below (Nat.le_refl _) hB1.size))
   (fun _ _ _ _ _ hs _ _ => hs)
   ⟨⟨_, bO, World.ownsRow_nil _ _ _ _, trivial⟩, hB1⟩
   (fun x a' W => ∃ b, a' = ({ tmps := #[.pointer (some ⟨p, 0, none⟩), undef, .slice none 0 0, .pointer (some ⟨w.heap.size, 0, none⟩), .int .u64 (S.q.V x), .pointer (some ⟨b, 0, none⟩), .pointer (some ⟨p, 0, none⟩), .pointer (some ⟨p, 0, none⟩), .pointer (some ⟨p, 16, none⟩), .pointer (some ⟨q, 0, none⟩), .func (.func 89) #[] #[.pointer (some ⟨w.heap.size + 1, 0, none⟩)], .int .u64 (S.q.V x), .agg #[.int .u64 (S.q.R x).a, .int .i64 (S.q.R x).b, .int .i64 (S.q.R x).c, .int .i64 (S.q.R x).d, .int .i64 (S.q.R x).e], undef, undef, undef, undef, undef, undef, undef], defers := [] } : Act) ∧ Blk W b rqT (rRow (S.q.R x)).toArray)
   (fun x a' => ax_blk (fun b => ({ tmps := #[.pointer (some ⟨p, 0, none⟩), undef, .slice none 0 0, .pointer (some ⟨w.heap.size, 0, none⟩), .int .u64 (S.q.V x), .pointer (some ⟨b, 0, none⟩), .pointer (some ⟨p, 0, none⟩), .pointer (some ⟨p, 0, none⟩), .pointer (some ⟨p, 16, none⟩), .pointer (some ⟨q, 0, none⟩), .func (.func 89) #[] #[.pointer (some ⟨w.heap.size + 1, 0, none⟩)], .int .u64 (S.q.V x), .agg #[.int .u64 (S.q.R x).a, .int .i64 (S.q.R x).b, .int .i64 (S.q.R x).c, .int .i64 (S.q.R x).d, .int .i64 (S.q.R x).e], undef, undef, undef, undef, undef, undef, undef], defers := [] } : Act))) ?assign ?body ?done ?stop
 case assign =>
   rintro lz pre x W K ⟨⟨v, hv, hrow, -⟩, hB⟩ hlt hK
   have hre : rqv (S.q.R x) = .agg #[.int .u64 (S.q.R x).a, .int .i64 (S.q.R x).b, .int .i64 (S.q.R x).c, .int .i64 (S.q.R x).d, .int .i64 (S.q.R x).e] := rfl
   gi_wp2
   refine hK _ _ (KeepsFrom.of_grownBy (galloc W _ none) (fun j e => by cases e)) (KpQ.of_below ((Below.refl _ W).alloc (Nat.le_refl _) _) hB.size) ⟨⟨v, hv.alloc _, hrow.alloc _, trivial⟩, hB.alloc hB.size _⟩ ⟨_, rfl, Blk.made _ _ _⟩
 case body =>
   rintro lz pre x a' W hl hr ⟨⟨v, hv, hrow, -⟩, hB⟩ ⟨b, rfl, hb⟩ hlt
   have hc := hv.cell
   obtain ⟨⟨ya, yb, yc, yd, ye⟩, hy⟩ : ∃ y, S.q.R x = y := ⟨_, rfl⟩
   rw [hy] at hb
   have n0 : W.cell? ⟨b, 0, none⟩ = some (.int .u64 ya) := hb.val (i := 0) rfl
   have n1 : W.cell? ⟨b, 1, none⟩ = some (.int .i64 yb) := hb.val (i := 1) rfl
   have n2 : W.cell? ⟨b, 2, none⟩ = some (.int .i64 yc) := hb.val (i := 2) rfl
   have n3 : W.cell? ⟨b, 3, none⟩ = some (.int .i64 yd) := hb.val (i := 3) rfl
   have n4 : W.cell? ⟨b, 4, none⟩ = some (.int .i64 ye) := hb.val (i := 4) rfl
   have HR := Lib.hid hrow
   have HV := Lib.hid hv
   have HBB := Lib.hid hB
   have HY := Lib.hid hy
   have hM : pre.length ≤ 10000 := by have h1 := hlt.length_le; have h2 := HL.out; rw [List.length_append] at h1; omega
   have hWs := hB.size
   have H1C := q_one (h := S.q.V x) (r := ⟨ya, yb, yc, yd, ye⟩)
   clear hb hr hrow hv hB hy hsq hlt
   gi_wp2_with (gi_at_builtin; refine wpListIn_append_own _ rfl _ _ sqT rfl w.heap.size quT i0 (.agg #[.int .u64 0, .int .u64 0, .int .i64 0, .int .i64 0, .int .i64 0, .int .i64 0]) 6 48 Tryz.underlying167 hi hz0 hz1 hz2 rfl (by decide) _ _ _ rfl (HR.out.alloc _) ⟨W.heap.size, 0, none⟩ 1 1 [.int .u64 (S.q.V x), .int .u64 ya, .int .i64 yb, .int .i64 yc, .int .i64 yd, .int .i64 ye] rfl rfl (World.news_of_block (cs := #[.int .u64 (S.q.V x), .int .u64 ya, .int .i64 yb, .int .i64 yc, .int .i64 yd, .int .i64 ye]) (t := quT) (fr := (0, 0)) (Blk.new_ (by simp))) H1C (by have := maxbig; omega) (by omega) (by simp; omega) ?_; intro v' w1 hown' hgrow _; obtain ⟨g', cap', rfl⟩ := ownsRow_succ hown'; obtain ⟨hv1, hv2, hr2, hk2, hb2⟩ := HV.out.appended (by decide) HR.out HBB.out.size (Nat.le_refl _) hown' hgrow; have hc1 := hv1.cell; have hf1 := hv1.frozen; have hKP := KpQ.trans (KpQ.of_below (k := w.heap.size + 1) ((Below.refl W.heap.size W).alloc (Nat.le_refl _) (.cells #[.int .u64 (S.q.V x), .int .u64 ya, .int .i64 yb, .int .i64 yc, .int .i64 yd, .int .i64 ye] quT)) hWs) (KpQ.app (k := w.heap.size + 1) (HR.out.alloc (.cells #[.int .u64 (S.q.V x), .int .u64 ya, .int .i64 yb, .int .i64 yc, .int .i64 yd, .int .i64 ye] quT)) (Nat.le_refl _) (by simp; omega) hgrow (by decide)))
   exact ⟨hk2.from _, KpQ.trans hKP (KpQ.set_ _ (Nat.le_refl _) (by omega) _), ⟨_, hv2, by rw [flatQ_app, HY.out, List.length_append]; simpa [qRow] using hr2, trivial⟩, HBB.out.trans hb2⟩
 case done =>
   rintro D W hD ⟨⟨v, hv, hrow, -⟩, hB⟩ hK
   have hc := hv.cell
   gi_wp2
   refine ⟨by simp, .inl ⟨_, _, rfl, run_takeDeferred hK, ?_⟩⟩
   refine ⟨_, results_tmp rfl _ _ _, v, rfl, ?_, ?_⟩
   · exact ownsRow_putObj hrow (.deferred none) hK rfl
   · exact hB.trans ⟨rfl, rfl, rfl, by simp, fun i hi => World.putObj_heap_other (by have := hB1.size; omega)⟩
 case stop =>
   rintro D c pre W _ _ h _
   exact h.elim
end
end Go.Proofs.YtcffeokbipjaoaaGreat
namespace Go.Proofs.YtcffeokbipjaoaaGreat
open Go.ChangeShapes Go.WideShapes Go.RowKit Go.Sort Kn
set_option linter.unusedVariables false
set_option linter.unusedSimpArgs false
theorem Grew.trans {a b c : World} (h : Grew a b) (k : Grew b c) : Grew a c := by
 obtain ⟨q, os, rfl⟩ := h
 obtain ⟨r, ps, rfl⟩ := k
 exact ⟨q + r, os ++ ps, (grow_grow ((a.drewN q).drewN r) os ps).trans (by simp [World.drewN, Nat.add_assoc])⟩
theorem Grew.below {w w' : World} (h : Grew w w') : Below w.heap.size w w' := by
 obtain ⟨q, os, rfl⟩ := h
 exact ⟨rfl, rfl, rfl, by rw [size_grow]; exact Nat.le_add_right _ _, fun k hk => heap_grow_old _ _ hk⟩
def keyW (b c : Int) : Int := wrap64 (wrap64 (b * 128) + c)
set_option maxHeartbeats 2000000 in
theorem gkey_w (t k : Int) (w : World) : Calls Tryz.prog 158 #[.int .i64 t, .int .i64 k] w fun e w' => e = .returned (.int .i64 (keyW t k)) ∧ w = w' := by
 go_enter Tryz.func158, Tryz.ntmps158
 go_wp2
 go_ret
 exact ⟨rfl, rfl⟩
abbrev quv (h a b c d e : Int) : Value := .agg #[.int .u64 h, .int .u64 a, .int .i64 b, .int .i64 c, .int .i64 d, .int .i64 e]
set_option maxRecDepth 100000 in
set_option maxHeartbeats 2000000 in
theorem q_key (h a b c d e : Int) (w : World) : Calls Tryz.prog 134 #[quv h a b c d e] w fun x w' => x = .returned (.int .i64 (keyW b c)) ∧ Grew w w' := by
 go_enter Tryz.func134, Tryz.ntmps134
 go_wp2_with (go_at_call 158; refine (gkey_w b c _).mono ?_; rintro x w1 ⟨rfl, rfl⟩)
 go_ret
 exact ⟨rfl, (Grew.refl _).alloc _⟩
def cmpI (a b : Int) : Int := if a < b then -1 else if b < a then 1 else 0
set_option maxHeartbeats 2000000 in
theorem cmp_i64 (a b : Int) (w : World) : Calls Tryz.prog 191 #[.int .i64 a, .int .i64 b] w fun x w' => x = .returned (.int .i64 (cmpI a b)) ∧ w = w' := by
 have hn : ∀ z : Int, ∀ W : World, Calls Tryz.prog 234 #[.int .i64 z] W fun x w' => x = .returned (.bool false) ∧ W = w' := fun z W => by
   go_enter Tryz.func234, Tryz.ntmps234
   go_wp2
   go_ret
   exact ⟨rfl, rfl⟩
 have HN := Lib.hid hn
 clear hn
 unfold cmpI
 rcases Int.lt_trichotomy a b with hc | hc | hc
 · rw [if_pos hc]
   go_enter Tryz.func191, Tryz.ntmps191
   go_wp2_with (go_at_call 234; refine (HN.out _ _).mono ?_; rintro x w1 ⟨rfl, rfl⟩)
   go_ret
   exact ⟨rfl, rfl⟩
 · subst hc
   rw [if_neg (Int.lt_irrefl _), if_neg (Int.lt_irrefl _)]
   go_enter Tryz.func191, Tryz.ntmps191
   go_wp2_with (go_at_call 234; refine (HN.out _ _).mono ?_; rintro x w1 ⟨rfl, rfl⟩)
   go_ret
   exact ⟨rfl, rfl⟩
 · have hc' : ¬ a < b := by omega
   rw [if_neg hc', if_pos hc]
   go_enter Tryz.func191, Tryz.ntmps191
   go_wp2_with (go_at_call 234; refine (HN.out _ _).mono ?_; rintro x w1 ⟨rfl, rfl⟩)
   go_ret
   exact ⟨rfl, rfl⟩
set_option maxHeartbeats 2000000 in
theorem cmp_u64 (a b : Int) (w : World) : Calls Tryz.prog 192 #[.int .u64 a, .int .u64 b] w fun x w' => x = .returned (.int .i64 (cmpI a b)) ∧ w = w' := by
 have hn : ∀ z : Int, ∀ W : World, Calls Tryz.prog 235 #[.int .u64 z] W fun x w' => x = .returned (.bool false) ∧ W = w' := fun z W => by
   go_enter Tryz.func235, Tryz.ntmps235
   go_wp2
   go_ret
   exact ⟨rfl, rfl⟩
 have HN := Lib.hid hn
 clear hn
 unfold cmpI
 rcases Int.lt_trichotomy a b with hc | hc | hc
 · rw [if_pos hc]
   go_enter Tryz.func192, Tryz.ntmps192
   go_wp2_with (go_at_call 235; refine (HN.out _ _).mono ?_; rintro x w1 ⟨rfl, rfl⟩)
   go_ret
   exact ⟨rfl, rfl⟩
 · subst hc
   rw [if_neg (Int.lt_irrefl _), if_neg (Int.lt_irrefl _)]
   go_enter Tryz.func192, Tryz.ntmps192
   go_wp2_with (go_at_call 235; refine (HN.out _ _).mono ?_; rintro x w1 ⟨rfl, rfl⟩)
   go_ret
   exact ⟨rfl, rfl⟩
 · have hc' : ¬ a < b := by omega
   rw [if_neg hc', if_pos hc]
   go_enter Tryz.func192, Tryz.ntmps192
   go_wp2_with (go_at_call 235; refine (HN.out _ _).mono ?_; rintro x w1 ⟨rfl, rfl⟩)
   go_ret
   exact ⟨rfl, rfl⟩
def orI (x y : Int) : Int := if x = 0 then y else x
theorem orI_0 {x : Int} (h : x = 0) (y : Int) : orI x y = y := if_pos h
theorem orI_1 {x : Int} (h : ¬ x = 0) (y : Int) : orI x y = x := if_neg h
set_option maxHeartbeats 4000000 in
theorem cmp_or (x y : Int) (g : Nat) (w : World) (h0 : w.cell? ⟨g, 0, none⟩ = some (.int .i64 x)) (h1 : w.cell? ⟨g, 1, none⟩ = some (.int .i64 y)) :
   Calls Tryz.prog 190 #[.slice (some ⟨g, 0, none⟩) 2 2] w fun e w' => e = .returned (.int .i64 (orI x y)) ∧ w = w' := by
 generalize hR : orI x y = R
 have HR := Lib.hid hR
 have H0 := Lib.hid h0
 have H1 := Lib.hid h1
 clear h0 h1 hR
 go_enter Tryz.func190, Tryz.ntmps190
 go_wp2_with fail
 go_loopw [8] (fun s8 wr => ∃ k : Nat, k ≤ 2 ∧ s8 = .int .i64 (k : Int) ∧ w = wr ∧ (0 < k → x = 0) ∧ (1 < k → y = 0)) (fun i _ => 2 - (intOf i).toNat)
 case atStart => exact ⟨0, by omega, rfl, rfl, fun h => absurd h (by omega), fun h => absurd h (by omega)⟩
 case round =>
   obtain ⟨k, hk, rfl, rfl, hx, hy⟩ := hrel
   have q0 := H0.out
   have q1 := H1.out
   match k, hk with
   | 0, _ =>
     clear hx hy
     by_cases h : x = 0
     · go_wp2_with fail
       refine ⟨⟨1, by omega, by simp, ?_, fun _ => h, fun h => absurd h (by omega)⟩, by simp [intOf]⟩
       try trivial
     · have h' : ¬ x = 0 := h
       go_wp2_with fail
       go_ret
       refine ⟨?_, ?_⟩
       · rw [← HR.out, orI_1 h]; rfl
       · try trivial
   | 1, _ =>
     have hx0 := hx (by omega)
     clear hx hy
     by_cases h : y = 0
     · go_wp2_with fail
       refine ⟨⟨2, by omega, by simp, ?_, fun _ => hx0, fun _ => h⟩, by simp [intOf]⟩
       try trivial
     · have h' : ¬ y = 0 := h
       go_wp2_with fail
       go_ret
       refine ⟨?_, ?_⟩
       · rw [← HR.out, orI_0 hx0]; rfl
       · try trivial
   | 2, _ =>
     have hx0 := hx (by omega)
     have hy0 := hy (by omega)
     clear hx hy
     go_wp2_with fail
     go_ret
     refine ⟨?_, ?_⟩
     · rw [← HR.out, orI_0 hx0, hy0]; rfl
     · try trivial
end Go.Proofs.YtcffeokbipjaoaaGreat
