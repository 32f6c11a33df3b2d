/- Texts of this claim, one behind the other: Coe Cof Cog. -/
import Derived.Deep.RegionHeld3
import Derived.StillTailTactics
import Derived.Test.YtcffeokbipjaoaaGreatMuav
namespace Go.Proofs.YtcffeokbipjaoaaGreat
open Go.ChangeShapes Go.WideShapes Go.RowKit Kn
set_option linter.unusedVariables false
set_option linter.unusedSimpArgs false
section
variable {w w' w'' : World} {p q gc gm l : Nat} {r r' : Option Nat} {O Oq Oq' : Nat → Prop} {S S' : Cor}
theorem CoreB.que_ (h : CoreB w p q gc gm l r Oq S) {s' : Ts} {K' : Nat} (hq : TqO w' q S.N S.n K' s' Oq') (hk : Kept Oq w w') (hok : Cor.ok { S with q := s', K := K' }) : CoreB w' p q gc gm l r Oq' { S with q := s', K := K' } := by
 obtain ⟨a1, a2, a3, a4, a5, a6, a7, a8, a9, a10, a11, a12, a13, a14⟩ := h.apart
 exact ⟨h.head.kept hk a5, hq, h.cod.kept hk a9, h.mod.kept hk a12, h.log.kept hk a13 a14, hok⟩
theorem CoreB.log_ (h : CoreB w p q gc gm l r Oq S) {L' : List Oc} (hl : LogAt 0 w' l r' L') (hk : Kept (fun k => k = l ∨ r = some k) w w') (hok : Cor.ok { S with log := L' }) : CoreB w' p q gc gm l r' Oq { S with log := L' } := by
 obtain ⟨a1, a2, a3, a4, a5, a6, a7, a8, a9, a10, a11, a12, a13, a14⟩ := h.apart
 have no : ∀ {k : Nat} {t : TypeId} {cs : Array Value}, Blk w k t cs → t ≠ 110 → t ≠ 164 → ¬ (k = l ∨ r = some k) := fun {k t cs} hb h1 h2 hc => by
   rcases hc with e | e
   · obtain ⟨c, hc⟩ := h.log.head; exact hb.other hc h1 e
   · obtain ⟨_, c, hc⟩ := h.log.row e; exact hb.other hc h2 rfl
 refine ⟨h.head.kept hk (no h.head (by decide) (by decide)), h.que.other hk (fun k _ hc => ?_), ?_, ?_, hl, hok⟩
 · rcases hc with e | e
   · obtain ⟨c, hc⟩ := h.log.head; exact ⟨_, _, e ▸ hc, lgT_not⟩
   · obtain ⟨_, c, hc⟩ := h.log.row e; exact ⟨_, _, hc, ocT_not⟩
 · obtain ⟨c, hc⟩ := h.cod.blk; exact h.cod.kept hk (no hc (by decide) (by decide))
 · obtain ⟨c, hc⟩ := h.mod.blk; exact h.mod.kept hk (no hc (by decide) (by decide))
theorem CoreB.box_ (h : CoreB w p q gc gm l r Oq S) {b : Nat} {T : TypeId} {cs : Array Value} (hb : Blk w b T cs) (hT : T ∉ tqTypes) (hne : b ≠ p ∧ b ≠ gc ∧ b ≠ gm ∧ b ≠ l ∧ r ≠ some b) (hk : Kept (fun k => k = b) w w') : CoreB w' p q gc gm l r Oq S := by
 obtain ⟨b1, b2, b3, b4, b5⟩ := hne
 exact ⟨h.head.kept hk (fun e => b1 e.symm), h.que.other hk (fun k _ hc => ⟨_, _, hc ▸ hb, hT⟩), h.cod.kept hk (fun e => b2 e.symm), h.mod.kept hk (fun e => b3 e.symm), h.log.kept hk (fun e => b4 e.symm) (fun g hg e => b5 (by rw [hg, e])), h.ok⟩
theorem CoreB.to (h : CoreB w p q gc gm l r Oq S) : CoreL w p (fun k => k = p ∨ k = gc ∨ k = gm ∨ k = l ∨ r = some k ∨ Oq k) S := ⟨⟨q, gc, gm, l, r, Oq, h, fun k => Iff.rfl⟩⟩
end
def ocOf (S : Cor) (i : Nat) (why : Int) : Oc := ⟨(S.q.R i).a, (S.q.R i).b, (S.q.R i).c, why, S.clk, sat (S.clk - (S.q.R i).e)⟩
noncomputable def settleS (S : Cor) (i : Nat) (why : Int) : Cor := { S with q := takS S.N S.q i, log := S.log ++ [ocOf S i why] }
theorem Cor.ok.takes {S : Cor} (h : S.ok) (i : Nat) : Cor.ok { S with q := takS S.N S.q i } := by
 obtain ⟨a1, a2, a3, a4, a5, a6, a7, a8, a9, a10, a11, a12, a13, a14, a15, a16, a17⟩ := h
 refine ⟨a1, a2, a3, a4, a5, a6, a7, a8, a9, a10, a11, a12, a13, a14, a15, fun j hj ht => ?_, ?_⟩
 · have ht' : (if j = i then false else S.q.T j) = true := ht
   by_cases hji : j = i
   · rw [if_pos hji] at ht'; cases ht'
   · rw [if_neg hji] at ht'
     have := a16 j hj ht'
     show I64_ (if j = i then ⟨0, 0, 0, 0, 0⟩ else S.q.R j : Rq).e ∧ I64_ (if j = i then ⟨0, 0, 0, 0, 0⟩ else S.q.R j : Rq).d ∧ I64_ (if j = i then ⟨0, 0, 0, 0, 0⟩ else S.q.R j : Rq).c ∧ 0 ≤ (if j = i then ⟨0, 0, 0, 0, 0⟩ else S.q.R j : Rq).a ∧ (if j = i then ⟨0, 0, 0, 0, 0⟩ else S.q.R j : Rq).a ≤ S.tk
     rw [if_neg hji]; exact this
 · show S.log.length + S.n ≤ S.K + (S.q.m + 1); omega
theorem Cor.ok.settles {S : Cor} (h : S.ok) (i : Nat) (why : Int) : (settleS S i why).ok := by
 obtain ⟨a1, a2, a3, a4, a5, a6, a7, a8, a9, a10, a11, a12, a13, a14, a15, a16, a17⟩ := h.takes i
 refine ⟨a1, a2, a3, a4, a5, a6, a7, a8, a9, a10, a11, a12, a13, a14, a15, a16, ?_⟩
 show (S.log ++ [ocOf S i why]).length + S.n ≤ S.K + (S.q.m + 1)
 have := h.lg
 rw [List.length_append, List.length_singleton]
 omega
section
variable {w w' w'' : World} {p q gc gm l : Nat} {r r' : Option Nat} {O Oq Oq' : Nat → Prop} {S S' : Cor}
set_option maxRecDepth 100000 in
set_option maxHeartbeats 4000000 in
theorem co_settle {i : Nat} {g why : Int} (h : CoreL w p O S) (hi : i < S.n) (ht : S.q.T i = true) (hg : S.q.H i = g) (hK : S.K ≤ 1000) (y0 : 0 ≤ why) (y1 : why ≤ 255) :
   Calls Tryz.prog 82 #[.pointer (some ⟨p, 0, none⟩), .int .u64 g, .int .u8 why] w fun e w' => e = .returned (ocOf S i why).v ∧ CStep w p O (settleS S i why) w' := by
 have HL := Lib.hid h
 have hp : p < w.heap.size := by obtain ⟨q, gc, gm, l, r, Oq, h1, -⟩ := h.cells; exact h1.head.size
 clear h
 go_enter Tryz.func82, Tryz.ntmps82
 go_wp2_with fail
 obtain ⟨W0, hW0⟩ : ∃ W, w.alloc (.cells #[.int .u64 0, .int .i64 0, .int .i64 0, .int .u8 0, .int .i64 0, .int .i64 0] 164) = W := ⟨_, rfl⟩
 have hb0 : Below w.heap.size w W0 := by rw [← hW0]; exact (Below.refl _ _).alloc (Nat.le_refl _) _
 have hx0 : Blk W0 w.heap.size 164 #[.int .u64 0, .int .i64 0, .int .i64 0, .int .u8 0, .int .i64 0, .int .i64 0] := by rw [← hW0]; exact Blk.made _ _ _
 rw [hW0]
 clear hW0
 refine (co_waited (HL.out.below hb0) hi ht hg hK).mono ?_
 rintro e w1 ⟨rfl, hb⟩
 have hb1 := hb0.trans (hb.mono hb0.size)
 have hx1 := hx0.below_ hb hx0.size
 obtain ⟨q, gc, gm, l, r, Oq, hB, hO⟩ := HL.out.cells
 have hB1 := hB.below hb1
 have c := hB1.c16
 have HB1 := Lib.hid hB1
 have HBb := Lib.hid hb1
 have HX1 := Lib.hid hx1
 have HO := Lib.hid hO
 have HB0 := Lib.hid hB
 clear hb0 hx0 hb hb1 hx1 hB hB1 hO
 go_wp2_with fail
 refine (tqo_take HB1.out.que hi ht hg (by omega)).mono ?_
 rintro e w2 ⟨rfl, hq2, hk2⟩
 have hok := HL.out.ok
 obtain ⟨⟨ra, rb, rc, rd, re⟩, hR⟩ : ∃ x, S.q.R i = x := ⟨_, rfl⟩
 have hoc : ocOf S i why = ⟨ra, rb, rc, why, S.clk, sat (S.clk - re)⟩ := by unfold ocOf; rw [hR]
 have hB2 := HB1.out.que_ hq2 hk2 (hok.takes i)
 have hx2 := HX1.out.kept hk2 (HB1.out.que.apart HX1.out ocT_not)
 have hk2w := kept_step (Kept.of_below (own := Oq) HBb.out) (fun k hk => .inl hk) hk2
 have HOK := Lib.hid hok
 have HOC := Lib.hid hoc
 have hz1 := HBb.out.size
 have hz2 := hk2.size
 have hrq : rqv ⟨ra, rb, rc, rd, re⟩ = .agg #[.int .u64 ra, .int .i64 rb, .int .i64 rc, .int .i64 rd, .int .i64 re] := rfl
 rw [hR, hrq]
 obtain ⟨sj, hsj⟩ : ∃ sj, sat (S.clk - (⟨ra, rb, rc, rd, re⟩ : Rq).e) = sj := ⟨_, rfl⟩
 have hsj2 : sat (S.clk - re) = sj := hsj
 rw [hsj]
 have HSJ := Lib.hid hsj2
 have HB2 := Lib.hid hB2
 have HX2 := Lib.hid hx2
 have HK2 := Lib.hid hk2w
 clear hq2 hk2 hok hR hoc hB2 hx2 hk2w hrq hsj hsj2 c
 obtain ⟨W3, hW3⟩ : ∃ W, w2.alloc (.cells #[.int .u64 ra, .int .i64 rb, .int .i64 rc, .int .i64 rd, .int .i64 re] 107) = W := ⟨_, rfl⟩
 have hb3 : Below w2.heap.size w2 W3 := by rw [← hW3]; exact (Below.refl _ _).alloc (Nat.le_refl _) _
 have hx3 : Blk W3 w2.heap.size 107 #[.int .u64 ra, .int .i64 rb, .int .i64 rc, .int .i64 rd, .int .i64 re] := by rw [← hW3]; exact Blk.made _ _ _
 have hz3 : W3.heap.size = w2.heap.size + 1 := by rw [← hW3]; simp
 go_upto_region 3 with fail
 (try rw [hW3])
 have HB3 := Lib.hid hb3
 have HZ3 := Lib.hid hz3
 have c25 := (HB2.out.below hb3).c25
 have e0 : W3.cell? ⟨w2.heap.size, 0, none⟩ = some (.int .u64 ra) := hx3.val rfl
 have e1 : W3.cell? ⟨w2.heap.size, 1, none⟩ = some (.int .i64 rb) := hx3.val rfl
 have e2 : W3.cell? ⟨w2.heap.size, 2, none⟩ = some (.int .i64 rc) := hx3.val rfl
 have hp3 : p < W3.heap.size := klt c25
 have hg3 : w2.heap.size < W3.heap.size := klt e0
 obtain ⟨g2, hg2⟩ : ∃ g2, w2.heap.size = g2 := ⟨_, rfl⟩
 have HG2 := Lib.hid hg2
 rw [hg2] at e0 e1 e2 hg3 ⊢
 clear hW3 hb3 hx3 hz3 hg2
 go_region_held3 (fun w' => w'.cell? ⟨g2, 0, none⟩ = some (.int .u64 ra) ∧ w'.cell? ⟨g2, 1, none⟩ = some (.int .i64 rb) ∧ w'.cell? ⟨g2, 2, none⟩ = some (.int .i64 rc) ∧ w'.cell? ⟨p, 25, none⟩ = some (.int .i64 S.clk)) (repeat (first | with_reducible assumption | refine ⟨?_, ?_⟩ | with_reducible refine kdrew ?_ | with_reducible refine kalloc ?_ _ | refine kset ?_ (by simp; omega))) (fail)
 go_upto_region 4 with fail
 obtain ⟨W4, hW4⟩ : ∃ W, (W3.alloc (.cells #[.int .u64 ra, .int .i64 rb, .int .i64 rc, .int .u8 why, .int .i64 S.clk, .int .i64 sj] 164)).drew = W := ⟨_, rfl⟩
 have hb4 : Below W3.heap.size W3 W4 := by rw [← hW4]; exact ((Below.refl _ _).alloc (Nat.le_refl _) _).drew
 have hx4 : Blk W4 W3.heap.size 164 #[.int .u64 ra, .int .i64 rb, .int .i64 rc, .int .u8 why, .int .i64 S.clk, .int .i64 sj] := by rw [← hW4]; exact (Blk.made W3 _ _).drew_
 rw [hW4]
 clear hW4 e0 e1 e2 c25
 have hB4 := (HB2.out.below HB3.out).below hb4
 have c22 := hB4.c22
 obtain ⟨g3, hg3'⟩ : ∃ g3, W3.heap.size = g3 := ⟨_, rfl⟩
 rw [hg3'] at hx4 ⊢
 have HG3 := Lib.hid hg3'
 have f0 : W4.cell? ⟨g3, 0, none⟩ = some (.int .u64 ra) := hx4.val rfl
 have f1 : W4.cell? ⟨g3, 1, none⟩ = some (.int .i64 rb) := hx4.val rfl
 have f2 : W4.cell? ⟨g3, 2, none⟩ = some (.int .i64 rc) := hx4.val rfl
 have f3 : W4.cell? ⟨g3, 3, none⟩ = some (.int .u8 why) := hx4.val rfl
 have f4 : W4.cell? ⟨g3, 4, none⟩ = some (.int .i64 S.clk) := hx4.val rfl
 have f5 : W4.cell? ⟨g3, 5, none⟩ = some (.int .i64 sj) := hx4.val rfl
 have HB4 := Lib.hid hB4
 have HX4 := Lib.hid hx4
 have HBB4 := Lib.hid hb4
 clear hg3' hx4 hb4 hB4 hg3 hp3
 go_still_tail 5, (by kernel_rfl)
 go_wp2_with fail
 have hll := HB4.out.ok.lg
 have hmn := HB4.out.que.inv.mn
 refine (tadd ⟨ra, rb, rc, why, S.clk, sj⟩ _ (HB4.out.log.below (Below.drew (Below.refl _ _))) (by
   have h1 : S.log.length + S.n ≤ S.K + (S.q.m + 1) := hll
   have h2 : S.q.m + 1 ≤ S.n := hmn
   show S.log.length ≤ 1000
   omega) (Nat.zero_le _)).mono ?_
 rintro e w5 ⟨rfl, r', hr', hl5, hk5⟩
 have hocs : (⟨ra, rb, rc, why, S.clk, sj⟩ : Oc) = ocOf S i why := by rw [HOC.out, HSJ.out]
 have hB5 := (HB4.out.below (Below.drew (Below.refl _ _))).log_ (L' := S.log ++ [ocOf S i why]) (by rw [← hocs]; exact hl5) hk5 (HOK.out.settles i why)
 have hcore : ∀ k, (k = p ∨ k = gc ∨ k = gm ∨ k = l ∨ r = some k ∨ Oq k) → k < w.heap.size := fun k hk => HB0.out.lt hk
 have hg3n : ¬ (g3 = l ∨ r = some g3) := by
   have h3 := HG3.out
   rintro (e | e)
   · have := hcore g3 (.inr (.inr (.inr (.inl e)))); have := HZ3.out; omega
   · have := hcore g3 (.inr (.inr (.inr (.inr (.inl e))))); have := HZ3.out; omega
 have hx5 := (HX4.out.drew_).kept hk5 hg3n
 have hg0n : ¬ (w.heap.size = l ∨ r = some w.heap.size) := by
   rintro (e | e)
   · have := hcore _ (.inr (.inr (.inr (.inl e)))); omega
   · have := hcore _ (.inr (.inr (.inr (.inr (.inl e))))); omega
 have hy5 := ((((HX2.out.below_ HB3.out HX2.out.size).below_ HBB4.out (HX2.out.below_ HB3.out HX2.out.size).size)).drew_).kept hk5 hg0n
 have hkk := kept_step (O := fun k => k = l ∨ r = some k ∨ Oq k) (O' := fun k => k = l ∨ r = some k) ((kept_step HK2.out (fun k hk => .inl hk) (Kept.of_below (HB3.out.trans ((HBB4.out.mono (by have := HZ3.out; omega)).drew)))).more fun k _ hk => .inr (.inr hk)) (fun k hk => .inl (by rcases hk with e | e; exact .inl e; exact .inr (.inl e))) hk5
 have hne0 : w.heap.size ≠ p ∧ w.heap.size ≠ gc ∧ w.heap.size ≠ gm ∧ w.heap.size ≠ l ∧ r' ≠ some w.heap.size := by
   refine ⟨fun e => ?_, fun e => ?_, fun e => ?_, fun e => ?_, fun e => ?_⟩
   · have := hcore _ (.inl e); omega
   · have := hcore _ (.inr (.inl e)); omega
   · have := hcore _ (.inr (.inr (.inl e))); omega
   · have := hcore _ (.inr (.inr (.inr (.inl e)))); omega
   · rcases hr' with h1 | ⟨g', h1, h2⟩
     · exact hg0n (.inr (by rw [← h1]; exact e))
     · rw [h1] at e
       injection e with e
       have h3 := HBB4.out.size
       have h4 := HZ3.out
       have h5 : W4.heap.size ≤ g' := h2
       omega
 have HB5 := Lib.hid hB5
 have HK5 := Lib.hid hkk
 have HY5 := Lib.hid hy5
 have HR5 := Lib.hid hr'
 have HNE := Lib.hid hne0
 have HCO := Lib.hid hcore
 have HHH := Lib.hid (show W3.heap.size ≤ W4.heap.size from HBB4.out.size)
 have u0 : w5.cell? ⟨g3, 0, none⟩ = some (.int .u64 ra) := hx5.val rfl
 have u1 : w5.cell? ⟨g3, 1, none⟩ = some (.int .i64 rb) := hx5.val rfl
 have u2 : w5.cell? ⟨g3, 2, none⟩ = some (.int .i64 rc) := hx5.val rfl
 have u3 : w5.cell? ⟨g3, 3, none⟩ = some (.int .u8 why) := hx5.val rfl
 have u4 : w5.cell? ⟨g3, 4, none⟩ = some (.int .i64 S.clk) := hx5.val rfl
 have u5 : w5.cell? ⟨g3, 5, none⟩ = some (.int .i64 sj) := hx5.val rfl
 have y0' : w5.cell? ⟨w.heap.size, 0, none⟩ = some (.int .u64 0) := hy5.val rfl
 have y1' : w5.cell? ⟨w.heap.size, 1, none⟩ = some (.int .i64 0) := hy5.val rfl
 have y2' : w5.cell? ⟨w.heap.size, 2, none⟩ = some (.int .i64 0) := hy5.val rfl
 have y3' : w5.cell? ⟨w.heap.size, 3, none⟩ = some (.int .u8 0) := hy5.val rfl
 have y4' : w5.cell? ⟨w.heap.size, 4, none⟩ = some (.int .i64 0) := hy5.val rfl
 have y5' : w5.cell? ⟨w.heap.size, 5, none⟩ = some (.int .i64 0) := hy5.val rfl
 have z0 := hy5.free 0
 have z1 := hy5.free 1
 have z2 := hy5.free 2
 have z3 := hy5.free 3
 have z4 := hy5.free 4
 have z5 := hy5.free 5
 have hgn : g3 ≠ w.heap.size := by have := HG3.out; have := HZ3.out; omega
 have hgn2 : w.heap.size ≠ g3 := Ne.symm hgn
 clear hll hmn hl5 hk5 hB5 hcore hg3n hx5 hg0n hy5 hkk hne0 f0 f1 f2 f3 f4 f5 c22 hr' hocs
 go_wp2
 have hyz := ((((((HY5.out.set_ 0 (.int .u64 ra)).set_ 1 (.int .i64 rb)).set_ 2 (.int .i64 rc)).set_ 3 (.int .u8 why)).set_ 4 (.int .i64 S.clk)).set_ 5 (.int .i64 sj))
 have hkz : Kept (fun k => k = w.heap.size) w5 ((((((w5.setCell ⟨w.heap.size, 0, none⟩ (.int .u64 ra)).setCell ⟨w.heap.size, 1, none⟩ (.int .i64 rb)).setCell ⟨w.heap.size, 2, none⟩ (.int .i64 rc)).setCell ⟨w.heap.size, 3, none⟩ (.int .u8 why)).setCell ⟨w.heap.size, 4, none⟩ (.int .i64 S.clk)).setCell ⟨w.heap.size, 5, none⟩ (.int .i64 sj)) :=
   (((((((Kept.refl (fun k => k = w.heap.size) w5).set_ (p := ⟨w.heap.size, 0, none⟩) (.inl rfl) _).set_ (p := ⟨w.heap.size, 1, none⟩) (.inl rfl) _).set_ (p := ⟨w.heap.size, 2, none⟩) (.inl rfl) _).set_ (p := ⟨w.heap.size, 3, none⟩) (.inl rfl) _).set_ (p := ⟨w.heap.size, 4, none⟩) (.inl rfl) _).set_ (p := ⟨w.heap.size, 5, none⟩) (.inl rfl) _)
 obtain ⟨WZ, hWZ⟩ : ∃ W, ((((((w5.setCell ⟨w.heap.size, 0, none⟩ (.int .u64 ra)).setCell ⟨w.heap.size, 1, none⟩ (.int .i64 rb)).setCell ⟨w.heap.size, 2, none⟩ (.int .i64 rc)).setCell ⟨w.heap.size, 3, none⟩ (.int .u8 why)).setCell ⟨w.heap.size, 4, none⟩ (.int .i64 S.clk)).setCell ⟨w.heap.size, 5, none⟩ (.int .i64 sj)) = W := ⟨_, rfl⟩
 rw [hWZ] at hyz hkz ⊢
 clear hWZ
 have d0 : WZ.cell? ⟨w.heap.size, 0, none⟩ = some (.int .u64 ra) := hyz.val rfl
 have d1 : WZ.cell? ⟨w.heap.size, 1, none⟩ = some (.int .i64 rb) := hyz.val rfl
 have d2 : WZ.cell? ⟨w.heap.size, 2, none⟩ = some (.int .i64 rc) := hyz.val rfl
 have d3 : WZ.cell? ⟨w.heap.size, 3, none⟩ = some (.int .u8 why) := hyz.val rfl
 have d4 : WZ.cell? ⟨w.heap.size, 4, none⟩ = some (.int .i64 S.clk) := hyz.val rfl
 have d5 : WZ.cell? ⟨w.heap.size, 5, none⟩ = some (.int .i64 sj) := hyz.val rfl
 refine bodyPost_ret (v := .agg #[.int .u64 ra, .int .i64 rb, .int .i64 rc, .int .u8 why, .int .i64 S.clk, .int .i64 sj]) (by simp [results, Tryz.results82, go_sem, d0, d1, d2, d3, d4, d5]) rfl ⟨?_, ?_⟩
 · have hocs : (⟨ra, rb, rc, why, S.clk, sj⟩ : Oc) = ocOf S i why := by rw [HOC.out, HSJ.out]
   rw [← hocs]
 · have hZ := HB5.out.box_ HY5.out ocT_not HNE.out hkz
   refine ⟨_, hZ.to, fun k hk => ?_, ?_⟩
   · rcases hk with e | e | e | e | e | e
     · exact .inl ((HO.out k).2 (.inl e))
     · exact .inl ((HO.out k).2 (.inr (.inl e)))
     · exact .inl ((HO.out k).2 (.inr (.inr (.inl e))))
     · exact .inl ((HO.out k).2 (.inr (.inr (.inr (.inl e)))))
     · rcases HR5.out with h1 | ⟨g', h1, h2⟩
       · exact .inl ((HO.out k).2 (.inr (.inr (.inr (.inr (.inl (by rw [← h1]; exact e)))))))
       · rw [h1] at e
         injection e with e
         right
         have h4 := HZ3.out
         have h5 : W4.heap.size ≤ g' := h2
         have h6 := HHH.out
         omega
     · exact .inl ((HO.out k).2 (.inr (.inr (.inr (.inr (.inr e))))))
   · refine (kept_step (O := O) (O' := fun k => k = w.heap.size) (HK5.out.more fun k _ hk => (HO.out k).2 ?_) (fun k hk => .inr (by omega)) hkz)
     rcases hk with e | e | e
     · exact .inr (.inr (.inr (.inl e)))
     · exact .inr (.inr (.inr (.inr (.inl e))))
     · exact .inr (.inr (.inr (.inr (.inr e))))
end
end Go.Proofs.YtcffeokbipjaoaaGreat
namespace Go.Proofs.YtcffeokbipjaoaaGreat
open Go.ChangeShapes Go.WideShapes Go.RowKit Kn
set_option linter.unusedVariables false
set_option linter.unusedSimpArgs false
theorem laE_mem {l : List Nat} (h : 0 < l.length) : laE l ∈ l := by
 unfold laE
 have : l ≠ [] := List.length_pos_iff.1 h
 rw [List.getLastD_eq_getLast?, List.getLast?_eq_some_getLast this]
 exact List.getLast_mem this
theorem neE_yes {l : List Nat} (h : 0 < l.length) : neE l = true := by
 cases l with
 | nil => simp at h
 | cons a l => rfl
def canI (S : Cor) (t : Nat) : Nat := if (S.mod t).li = true then laE (S.q.L t) else hdE (S.q.L t)
section
variable {w w' w'' : World} {p q gc gm l : Nat} {r r' : Option Nat} {O Oq Oq' : Nat → Prop} {S S' : Cor}
theorem CoreB.mem (h : CoreB w p q gc gm l r Oq S) {t i : Nat} (ht : t < S.N) (hi : i ∈ S.q.L t) : i < S.n ∧ S.q.T i = true ∧ (S.q.R i).b = (t : Int) ∧ S.q.V i = S.q.H i := by
 obtain ⟨h1, h2, h3⟩ := h.que.inv.rt t ht i hi
 exact ⟨h1, h2, h3, h.que.inv.vh i h1 h2⟩
theorem CoreL.mem (h : CoreL w p O S) {t i : Nat} (ht : t < S.N) (hi : i ∈ S.q.L t) : i < S.n ∧ S.q.T i = true ∧ (S.q.R i).b = (t : Int) ∧ S.q.V i = S.q.H i := by
 obtain ⟨q, gc, gm, l, r, Oq, h1, -⟩ := h.cells
 exact h1.mem ht hi
end
end Go.Proofs.YtcffeokbipjaoaaGreat
namespace Go.Proofs.YtcffeokbipjaoaaGreat
open Go.ChangeShapes Go.WideShapes Go.RowKit Kn
set_option linter.unusedVariables false
set_option linter.unusedSimpArgs false
section
variable {w w' w'' : World} {p q gc gm l : Nat} {r r' : Option Nat} {O Oq Oq' : Nat → Prop} {S S' : Cor}
theorem CoreB.c1 (h : CoreB w p q gc gm l r Oq S) : w.cell? ⟨p, 1, none⟩ = some (.int .i64 S.cf.ro) := h.head.val rfl
theorem TqO.last_ {q N n K u : Nat} {s : Ts} (h : TqO w q N n K s O) (hu : u < N) (hn : 0 < (s.L u).length) (hz : ∀ r, u < r → r < N → (s.L r).length = 0) (hN : N ≤ 1000) :
   Calls Tryz.prog 168 #[.pointer (some ⟨q, 0, none⟩)] w fun e w' => e = .returned (.tuple #[.int .i64 (u : Int), .bool true]) ∧ w = w' := tq_last h.toL hu hn hz hN
def LastIs (S : Cor) (u : Nat) : Prop := u < S.N ∧ 0 < (S.q.L u).length ∧ ∀ r, u < r → r < S.N → (S.q.L r).length = 0
def FirstIs (S : Cor) (u : Nat) : Prop := u < S.N ∧ 0 < (S.q.L u).length ∧ ∀ r, r < u → (S.q.L r).length = 0
set_option maxRecDepth 100000 in
set_option maxHeartbeats 2000000 in
theorem co_room_free {t : Int} (h : CoreL w p O S) (hm : 0 < S.q.m) :
   Calls Tryz.prog 122 #[.pointer (some ⟨p, 0, none⟩), .int .i64 t] w fun e w' => e = .returned (.bool true) ∧ Below w.heap.size w w' := by
 obtain ⟨q, gc, gm, l, r, Oq, h1, -⟩ := h.cells
 have c16 := h1.c16
 have c1 := h1.c1
 rw [h1.ok.hn] at c1
 have hp : p < w.heap.size := h1.head.size
 have hmn := h1.que.inv.mn
 have hn1 := h1.ok.nm
 obtain ⟨x, hx⟩ : ∃ x, (S.n : Int) - S.q.m = x := ⟨_, rfl⟩
 have hx2 : decide (x < (S.n : Int)) = true := decide_eq_true (by omega)
 have HX := Lib.hid hx
 have HQ := Lib.hid h1.que
 clear h h1 hx
 go_enter Tryz.func122, Tryz.ntmps122
 go_upto_region 1 with fail
 go_region_held3 (fun w' => w'.cell? ⟨p, 16, none⟩ = some (.pointer (some ⟨q, 0, none⟩)) ∧ w'.cell? ⟨p, 1, none⟩ = some (.int .i64 (S.n : Int))) (repeat (first | with_reducible assumption | refine ⟨?_, ?_⟩ | with_reducible refine kdrew ?_)) (first | (go_at_call 87; refine (tq_len (HQ.out.below (Below.drew (Below.refl _ _))).toL).mono ?_; rw [HX.out]; rintro e w1 ⟨rfl, hb⟩; have d1 : w1.cell? ⟨p, 16, none⟩ = some (.pointer (some ⟨q, 0, none⟩)) := (hb.cell hp).trans c16; have d2 : w1.cell? ⟨p, 1, none⟩ = some (.int .i64 (S.n : Int)) := (hb.cell hp).trans c1; have HB := Lib.hid hb; clear hb))
 go_wp2
 go_ret
 exact ⟨rfl, (Below.drew (Below.refl _ _)).trans HB.out⟩
set_option maxRecDepth 100000 in
set_option maxHeartbeats 2000000 in
theorem co_room_no {t : Int} {u : Nat} (h : CoreL w p O S) (hm : S.q.m = 0) (hl : LastIs S u) (hut : (u : Int) ≤ t) :
   Calls Tryz.prog 122 #[.pointer (some ⟨p, 0, none⟩), .int .i64 t] w fun e w' => e = .returned (.bool false) ∧ Below w.heap.size w w' := by
 obtain ⟨q, gc, gm, l, r, Oq, h1, -⟩ := h.cells
 have c16 := h1.c16
 have c1 := h1.c1
 rw [h1.ok.hn] at c1
 have hp : p < w.heap.size := h1.head.size
 have hn1 := h1.ok.nm
 have hN8 : S.N ≤ 8 := h1.ok.N8
 obtain ⟨x, hx⟩ : ∃ x, (S.n : Int) - S.q.m = x := ⟨_, rfl⟩
 have hx2 : decide (x < (S.n : Int)) = false := decide_eq_false (by omega)
 have HX := Lib.hid hx
 have HQ := Lib.hid h1.que
 have HL := Lib.hid hl
 clear h h1 hx hl hm
 go_enter Tryz.func122, Tryz.ntmps122
 go_upto_region 1 with fail
 go_region_held3 (fun w' => w'.cell? ⟨p, 16, none⟩ = some (.pointer (some ⟨q, 0, none⟩)) ∧ w'.cell? ⟨p, 1, none⟩ = some (.int .i64 (S.n : Int))) (repeat (first | with_reducible assumption | refine ⟨?_, ?_⟩ | with_reducible refine kdrew ?_)) (first | (go_at_call 87; refine (tq_len (HQ.out.below (Below.drew (Below.refl _ _))).toL).mono ?_; rw [HX.out]; rintro e w1 ⟨rfl, hb⟩; have d1 : w1.cell? ⟨p, 16, none⟩ = some (.pointer (some ⟨q, 0, none⟩)) := (hb.cell hp).trans c16; have d2 : w1.cell? ⟨p, 1, none⟩ = some (.int .i64 (S.n : Int)) := (hb.cell hp).trans c1; have HB := Lib.hid hb; clear hb))
 have hq1 := (HQ.out.below (Below.drew (Below.refl _ _))).below HB.out
 have HQ1 := Lib.hid hq1
 clear hq1 c16 c1 d2
 go_wp2_with fail
 refine (HQ1.out.last_ HL.out.1 HL.out.2.1 HL.out.2.2 (by omega)).mono ?_
 rintro e w2 ⟨rfl, rfl⟩
 go_wp2
 go_ret
 exact ⟨rfl, (Below.drew (Below.refl _ _)).trans HB.out⟩
set_option maxRecDepth 100000 in
set_option maxHeartbeats 2000000 in
theorem co_room_yes {t : Int} {u : Nat} (h : CoreL w p O S) (hm : S.q.m = 0) (hl : LastIs S u) (hut : t < (u : Int)) (hK : S.K ≤ 1000) :
   Calls Tryz.prog 122 #[.pointer (some ⟨p, 0, none⟩), .int .i64 t] w fun e w' => e = .returned (.bool true) ∧ CStep w p O (settleS S (laE (S.q.L u)) 4) w' := by
 obtain ⟨q, gc, gm, l, r, Oq, h1, -⟩ := h.cells
 have c16 := h1.c16
 have c1 := h1.c1
 rw [h1.ok.hn] at c1
 have hp : p < w.heap.size := h1.head.size
 have hn1 := h1.ok.nm
 have hN8 : S.N ≤ 8 := h1.ok.N8
 have hr : rowE S.N S.q.L (u : Int) = S.q.L u := rowE_at hl.1
 have hn := neE_yes hl.2.1
 obtain ⟨i1, i2, i3, i4⟩ := h1.mem hl.1 (laE_mem hl.2.1)
 have hle : ¬ (u : Int) ≤ t := by omega
 obtain ⟨x, hx⟩ : ∃ x, (S.n : Int) - S.q.m = x := ⟨_, rfl⟩
 have hx2 : decide (x < (S.n : Int)) = false := decide_eq_false (by omega)
 have HX := Lib.hid hx
 have HQ := Lib.hid h1.que
 have HL := Lib.hid hl
 have HC := Lib.hid h
 have HR := Lib.hid hr
 have HN := Lib.hid hn
 have HI := Lib.hid (And.intro i1 (And.intro i2 i4))
 clear h h1 hx hl hm hr hn i1 i2 i3 i4
 go_enter Tryz.func122, Tryz.ntmps122
 go_upto_region 1 with fail
 go_region_held3 (fun w' => w'.cell? ⟨p, 16, none⟩ = some (.pointer (some ⟨q, 0, none⟩)) ∧ w'.cell? ⟨p, 1, none⟩ = some (.int .i64 (S.n : Int))) (repeat (first | with_reducible assumption | refine ⟨?_, ?_⟩ | with_reducible refine kdrew ?_)) (first | (go_at_call 87; refine (tq_len (HQ.out.below (Below.drew (Below.refl _ _))).toL).mono ?_; rw [HX.out]; rintro e w1 ⟨rfl, hb⟩; have d1 : w1.cell? ⟨p, 16, none⟩ = some (.pointer (some ⟨q, 0, none⟩)) := (hb.cell hp).trans c16; have d2 : w1.cell? ⟨p, 1, none⟩ = some (.int .i64 (S.n : Int)) := (hb.cell hp).trans c1; have HB := Lib.hid hb; clear hb))
 have hq1 := (HQ.out.below (Below.drew (Below.refl _ _))).below HB.out
 have HQ1 := Lib.hid hq1
 have hbb := (Below.drew (Below.refl w.heap.size w)).trans HB.out
 have HBB := Lib.hid hbb
 clear hq1 c16 c1 d2 hbb
 go_wp2_with fail
 refine (HQ1.out.last_ HL.out.1 HL.out.2.1 HL.out.2.2 (by omega)).mono ?_
 rintro e w2 ⟨rfl, rfl⟩
 go_wp2_with fail
 refine (tqo_tail (u : Int) HQ1.out).mono ?_
 rw [HR.out, HN.out]
 rintro e w2 ⟨rfl, rfl⟩
 rw [if_pos rfl, HI.out.2.2]
 go_wp2_with fail
 refine (co_settle (HC.out.below HBB.out) HI.out.1 HI.out.2.1 rfl hK (by omega) (by omega)).mono ?_
 rintro e w3 ⟨rfl, hst⟩
 have HS := Lib.hid (CStep.after HBB.out hst)
 clear hst
 go_wp2
 go_ret
 exact ⟨rfl, HS.out⟩
end
end Go.Proofs.YtcffeokbipjaoaaGreat
