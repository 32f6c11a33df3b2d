/- Texts of this claim, one behind the other: Cor. -/
import Derived.Test.YtcffeokbipjaoaaGreatMtbj
import Derived.Test.YtcffeokbipjaoaaGreatMtbk
namespace Go.Proofs.YtcffeokbipjaoaaGreat
open Go.ChangeShapes Go.WideShapes Go.RowKit Kn
set_option linter.unusedVariables false
set_option linter.unusedSimpArgs false
def turnC (S : Cor) (t : Nat) : Mst := turnM (S.mod t) S.cf.hg S.cf.lo S.cf.dw S.clk (sat (S.clk - (S.q.R (hdE (S.q.L t))).e)) ((S.q.L t).length : Int)
def turnS (S : Cor) (t : Nat) : Cor := { S with mod := fun j => if j = t then turnC S t else S.mod j }
section
variable {w w' w'' : World} {p q gc gm l : Nat} {r r' : Option Nat} {O Oq Oq' : Nat → Prop} {S S' : Cor}
theorem CoreB.conf {c : Cf} (h : CoreB w p q gc gm l r Oq S) (hc : S.cf = c) {i : Nat} {v : Value} (hv : c.l[i]? = some v) : w.cell? ⟨p, i, none⟩ = some v := by
 refine h.head.val ?_
 unfold coreCells
 rw [List.getElem?_toArray, hc, List.getElem?_append_left (List.getElem?_eq_some_iff.1 hv).1, hv]
theorem CoreB.mod_ {t : Nat} (h : CoreB w p q gc gm l r Oq S) (ht : t < S.N) (m : Mst) (hok : m.ok) :
   CoreB (((w.setCell ⟨gm, t * 3, none⟩ (.bool m.li)).setCell ⟨gm, t * 3 + 1, none⟩ (.int .i64 m.si)).setCell ⟨gm, t * 3 + 2, none⟩ (.int .u64 m.tu)) p q gc gm l r Oq { S with mod := fun j => if j = t then m else S.mod j } := by
 obtain ⟨a1, a2, a3, a4, a5, a6, a7, a8, a9, a10, a11, a12, a13, a14⟩ := h.apart
 obtain ⟨cm, hcm⟩ := h.mod.blk
 have hk : Kept (fun k => k = gm) w (((w.setCell ⟨gm, t * 3, none⟩ (.bool m.li)).setCell ⟨gm, t * 3 + 1, none⟩ (.int .i64 m.si)).setCell ⟨gm, t * 3 + 2, none⟩ (.int .u64 m.tu)) :=
   (((Kept.refl (fun k => k = gm) w).set_ (p := ⟨gm, t * 3, none⟩) (.inl rfl) (.bool m.li)).set_ (p := ⟨gm, t * 3 + 1, none⟩) (.inl rfl) (.int .i64 m.si)).set_ (p := ⟨gm, t * 3 + 2, none⟩) (.inl rfl) (.int .u64 m.tu)
 have hm := ((h.mod.set_ (t := t) (k := 0) ht (by omega) rfl (.bool m.li)).set_ (t := t) (k := 1) ht (by omega) (by simp [mRow]) (.int .i64 m.si)).set_ (t := t) (k := 2) ht (by omega) (by simp [mRow]) (.int .u64 m.tu)
 refine ⟨h.head.kept hk a2, h.que.other hk (fun k _ hc => ⟨_, _, hc ▸ hcm, msT_not⟩), h.cod.kept hk a6, hm.congr_ (fun j hj => ?_), h.log.kept hk (fun e => a10 e.symm) (fun g hg e => a11 (by rw [hg, e])), ?_⟩
 · by_cases hj : j = t
   · subst hj; simp [mRow]
   · simp [hj]
 · obtain ⟨b1, b2, b3, b4, b5, b6, b7, b8, b9, b10, b11, b12, b13, b14, b15, b16, b17⟩ := h.ok
   refine ⟨b1, b2, b3, b4, b5, b6, b7, b8, fun j hj => ?_, b10, b11, b12, b13, b14, b15, b16, b17⟩
   show (if j = t then m else S.mod j).ok
   split
   · exact hok
   · exact b9 j hj
theorem CoreB.cod_ {t : Nat} (h : CoreB w p q gc gm l r Oq S) (ht : t < S.N) (m : Cst) (hok : m.ok) :
   CoreB ((((((w.setCell ⟨gc, t * 6, none⟩ (.bool m.ab)).setCell ⟨gc, t * 6 + 1, none⟩ (.int .i64 m.fi)).setCell ⟨gc, t * 6 + 2, none⟩ (.bool m.dr)).setCell ⟨gc, t * 6 + 3, none⟩ (.int .i64 m.ne)).setCell ⟨gc, t * 6 + 4, none⟩ (.int .u64 m.co)).setCell ⟨gc, t * 6 + 5, none⟩ (.int .u64 m.la)) p q gc gm l r Oq { S with cod := fun j => if j = t then m else S.cod j } := by
 obtain ⟨a1, a2, a3, a4, a5, a6, a7, a8, a9, a10, a11, a12, a13, a14⟩ := h.apart
 obtain ⟨cm, hcm⟩ := h.cod.blk
 have hk : Kept (fun k => k = gc) w ((((((w.setCell ⟨gc, t * 6, none⟩ (.bool m.ab)).setCell ⟨gc, t * 6 + 1, none⟩ (.int .i64 m.fi)).setCell ⟨gc, t * 6 + 2, none⟩ (.bool m.dr)).setCell ⟨gc, t * 6 + 3, none⟩ (.int .i64 m.ne)).setCell ⟨gc, t * 6 + 4, none⟩ (.int .u64 m.co)).setCell ⟨gc, t * 6 + 5, none⟩ (.int .u64 m.la)) :=
   ((((((Kept.refl (fun k => k = gc) w).set_ (p := ⟨gc, t * 6, none⟩) (.inl rfl) _).set_ (p := ⟨gc, t * 6 + 1, none⟩) (.inl rfl) _).set_ (p := ⟨gc, t * 6 + 2, none⟩) (.inl rfl) _).set_ (p := ⟨gc, t * 6 + 3, none⟩) (.inl rfl) _).set_ (p := ⟨gc, t * 6 + 4, none⟩) (.inl rfl) _).set_ (p := ⟨gc, t * 6 + 5, none⟩) (.inl rfl) _
 have hm := (((((h.cod.set_ (t := t) (k := 0) ht (by omega) rfl (.bool m.ab)).set_ (t := t) (k := 1) ht (by omega) (by simp [cRow]) (.int .i64 m.fi)).set_ (t := t) (k := 2) ht (by omega) (by simp [cRow]) (.bool m.dr)).set_ (t := t) (k := 3) ht (by omega) (by simp [cRow]) (.int .i64 m.ne)).set_ (t := t) (k := 4) ht (by omega) (by simp [cRow]) (.int .u64 m.co)).set_ (t := t) (k := 5) ht (by omega) (by simp [cRow]) (.int .u64 m.la)
 refine ⟨h.head.kept hk a1, h.que.other hk (fun k _ hc => ⟨_, _, hc ▸ hcm, csT_not⟩), hm.congr_ (fun j hj => ?_), h.mod.kept hk (fun e => a6 e.symm), h.log.kept hk (fun e => a7 e.symm) (fun g hg e => a8 (by rw [hg, e])), ?_⟩
 · by_cases hj : j = t
   · subst hj; simp [cRow]
   · simp [hj]
 · obtain ⟨b1, b2, b3, b4, b5, b6, b7, b8, b9, b10, b11, b12, b13, b14, b15, b16, b17⟩ := h.ok
   refine ⟨b1, b2, b3, b4, b5, b6, b7, fun j hj => ?_, b9, b10, b11, b12, b13, b14, b15, b16, b17⟩
   show (if j = t then m else S.cod j).ok
   split
   · exact hok
   · exact b8 j hj
set_option maxRecDepth 100000 in
set_option maxHeartbeats 8000000 in
theorem co_turn {t : Nat} (h : CoreL w p O S) (ht : t < S.N) (h0 : 0 < (S.q.L t).length) (hK : S.K ≤ 1000) :
   Calls Tryz.prog 127 #[.pointer (some ⟨p, 0, none⟩), .int .i64 (t : Int)] w fun e w' => (∃ v, e = .returned v) ∧ CStep w p O (turnS S t) w' := by
 obtain ⟨q, gc, gm, l, r, Oq, h1, hO⟩ := h.cells
 have hN8 : S.N ≤ 8 := h1.ok.N8
 have c16 := h1.c16
 have hr : rowE S.N S.q.L (t : Int) = S.q.L t := rowE_at ht
 have hm := h1.mem ht (hdE_mem h0)
 have hv : S.q.V (hdE (S.q.L t)) = S.q.H (hdE (S.q.L t)) := hm.2.2.2
 have hn := neE_yes h0
 obtain ⟨cf, hcf⟩ : ∃ cf, S.cf = cf := ⟨_, rfl⟩
 obtain ⟨ti, ro, ta, iv, hg, lo, dw, ho, sp, kp, ki, kd, lm, st, th, rg⟩ := cf
 obtain ⟨⟨li, si, tu⟩, hmo⟩ : ∃ m, S.mod t = m := ⟨_, rfl⟩
 obtain ⟨g, hg0⟩ : ∃ g, S.q.H (hdE (S.q.L t)) = g := ⟨_, rfl⟩
 obtain ⟨y, hy⟩ : ∃ y, sat (S.clk - (S.q.R (hdE (S.q.L t))).e) = y := ⟨_, rfl⟩
 obtain ⟨k, hk⟩ : ∃ k : Int, ((S.q.L t).length : Int) = k := ⟨_, rfl⟩
 have H1 := Lib.hid h1
 have HO := Lib.hid hO
 have HR := Lib.hid hr
 have HN := Lib.hid hn
 have HM := Lib.hid hm
 have HV := Lib.hid hv
 have HCF := Lib.hid hcf
 have HMO := Lib.hid hmo
 have HG0 := Lib.hid hg0
 have HY := Lib.hid hy
 have HKK := Lib.hid hk
 have ht0 : (0 : Int) ≤ (t : Int) := by omega
 have ht1 : (t : Int) < (S.N : Int) := by omega
 clear h h1 hr hn hO hm hv h0 hcf hmo hg0 hy hk
 go_enter Tryz.func127, Tryz.ntmps127
 go_wp2_with fail
 refine (tq_head (t : Int) H1.out.que.toL).mono ?_
 rw [HR.out, HN.out, if_pos rfl, HV.out, HG0.out]
 rintro e w1 ⟨rfl, rfl⟩
 go_upto_region 1 with fail
 refine wp_region_noPanic ?_
 refine wp_region_U (fun w' => CoreB w' p q gc gm l r Oq S ∧ Below w.heap.size w w') [] [32] (by kernel_rfl) (⟨H1.out.below ((Below.refl _ _).drew), (Below.refl _ _).drew⟩) ?_
 intro hsh0
 skip
 refine anyU_tk 60 (i := 0) (v := ?_) rfl (fun _ _ _ h => h) (YieldsS.of_if (Or.inl ⟨by rfl, ?_⟩)) ?_
 rotate_left
 · (intro wS hSw; (try dsimp only at hSw); (first | (go_simp; done) | (go_simp; with_reducible rfl)))
 intro hsh1
 clear hsh0
 try simp only [Act.put, List.getElem_toArray, List.getElem_cons_zero, List.getElem_cons_succ, List.setIfInBounds_toArray, List.set_cons_zero, List.set_cons_succ]
 refine anyU_tk 60 (i := 1) (v := ?_) rfl (fun _ _ _ h => h) (YieldsS.of_if (Or.inl ⟨by rfl, ?_⟩)) ?_
 rotate_left
 · (intro wS hSw; (try dsimp only at hSw); (first | (go_simp; done) | (go_simp; with_reducible rfl)))
 intro hsh2
 clear hsh1
 try simp only [Act.put, List.getElem_toArray, List.getElem_cons_zero, List.getElem_cons_succ, List.setIfInBounds_toArray, List.set_cons_zero, List.set_cons_succ]
 refine anyU_tk 60 (i := 2) (v := ?_) rfl (fun _ _ _ h => h) (YieldsS.of_if (Or.inl ⟨by rfl, ?_⟩)) ?_
 rotate_left
 · (intro wS hSw; (try dsimp only at hSw); (first | (go_simp; done) | (go_simp; with_reducible rfl)))
 intro hsh3
 clear hsh2
 try simp only [Act.put, List.getElem_toArray, List.getElem_cons_zero, List.getElem_cons_succ, List.setIfInBounds_toArray, List.set_cons_zero, List.set_cons_succ]
 refine anyU_tk 60 (i := 3) (v := ?_) rfl (fun _ _ _ h => h) (YieldsS.of_if (Or.inl ⟨by rfl, ?_⟩)) ?_
 rotate_left
 · (intro wS hSw; (try dsimp only at hSw); have c18 := hSw.1.c18; clear hSw; (first | (go_simp; done) | (go_simp; with_reducible rfl)))
 intro hsh4
 clear hsh3
 try simp only [Act.put, List.getElem_toArray, List.getElem_cons_zero, List.getElem_cons_succ, List.setIfInBounds_toArray, List.set_cons_zero, List.set_cons_succ]
 refine anyU_tk 60 (i := 4) (v := ?_) rfl (fun _ _ _ h => h) (YieldsS.of_if (Or.inl ⟨by rfl, ?_⟩)) ?_
 rotate_left
 · (intro wS hSw; (try dsimp only at hSw); (first | (go_simp; done) | (go_simp; with_reducible rfl)))
 intro hsh5
 clear hsh4
 try simp only [Act.put, List.getElem_toArray, List.getElem_cons_zero, List.getElem_cons_succ, List.setIfInBounds_toArray, List.set_cons_zero, List.set_cons_succ]
 refine anyU_tk 60 (i := 5) (v := ?_) rfl (fun _ _ _ h => h) (YieldsS.of_if (Or.inl ⟨by rfl, ?_⟩)) ?_
 rotate_left
 · (intro wS hSw; (try dsimp only at hSw); (first | (go_simp; done) | (go_simp; with_reducible rfl)))
 intro hsh6
 clear hsh5
 try simp only [Act.put, List.getElem_toArray, List.getElem_cons_zero, List.getElem_cons_succ, List.setIfInBounds_toArray, List.set_cons_zero, List.set_cons_succ]
 refine anyU_tk 60 (i := 6) (v := ?_) rfl (fun _ _ _ h => h) (YieldsS.of_if (Or.inl ⟨by rfl, ?_⟩)) ?_
 rotate_left
 · (intro wS hSw; (try dsimp only at hSw); (first | (go_simp; done) | (go_simp; with_reducible rfl)))
 intro hsh7
 clear hsh6
 try simp only [Act.put, List.getElem_toArray, List.getElem_cons_zero, List.getElem_cons_succ, List.setIfInBounds_toArray, List.set_cons_zero, List.set_cons_succ]
 refine anyU_tk 60 (i := 7) (v := ?_) rfl (fun _ _ _ h => h) (YieldsS.of_if (Or.inl ⟨by rfl, ?_⟩)) ?_
 rotate_left
 · (intro wS hSw; (try dsimp only at hSw); (first | (go_simp; done) | (go_simp; with_reducible rfl)))
 intro hsh8
 clear hsh7
 try simp only [Act.put, List.getElem_toArray, List.getElem_cons_zero, List.getElem_cons_succ, List.setIfInBounds_toArray, List.set_cons_zero, List.set_cons_succ]
 refine anyU_tk 60 (i := 8) (v := ?_) rfl (fun _ _ _ h => h) (YieldsS.of_if (Or.inl ⟨by rfl, ?_⟩)) ?_
 rotate_left
 · (intro wS hSw; (try dsimp only at hSw); have c18 := hSw.1.c18; clear hSw; (first | (go_simp; done) | (go_simp; with_reducible rfl)))
 intro hsh9
 clear hsh8
 try simp only [Act.put, List.getElem_toArray, List.getElem_cons_zero, List.getElem_cons_succ, List.setIfInBounds_toArray, List.set_cons_zero, List.set_cons_succ]
 refine anyU_tk 60 (i := 9) (v := ?_) rfl (fun _ _ _ h => h) (YieldsS.of_if (Or.inl ⟨by rfl, ?_⟩)) ?_
 rotate_left
 · (intro wS hSw; (try dsimp only at hSw); (first | (go_simp; done) | (go_simp; with_reducible rfl)))
 intro hsh10
 clear hsh9
 try simp only [Act.put, List.getElem_toArray, List.getElem_cons_zero, List.getElem_cons_succ, List.setIfInBounds_toArray, List.set_cons_zero, List.set_cons_succ]
 refine anyU_tk 60 (i := 10) (v := ?_) rfl (fun _ _ _ h => h) (YieldsS.of_if (Or.inl ⟨by rfl, ?_⟩)) ?_
 rotate_left
 · (intro wS hSw; (try dsimp only at hSw); (first | (go_simp; done) | (go_simp; with_reducible rfl)))
 intro hsh11
 clear hsh10
 try simp only [Act.put, List.getElem_toArray, List.getElem_cons_zero, List.getElem_cons_succ, List.setIfInBounds_toArray, List.set_cons_zero, List.set_cons_succ]
 refine anyU_tk 60 (i := 11) (v := ?_) rfl (fun _ _ _ h => h) (YieldsS.of_if (Or.inl ⟨by rfl, ?_⟩)) ?_
 rotate_left
 · (intro wS hSw; (try dsimp only at hSw); have m0 : wS.cell? ⟨gm, t * 3 + 0, none⟩ = some (.bool li) := hSw.1.mod.at_ ht (by omega) (by rw [HMO.out]; rfl); have m1 : wS.cell? ⟨gm, t * 3 + 1, none⟩ = some (.int .i64 si) := hSw.1.mod.at_ ht (by omega) (by rw [HMO.out]; rfl); have m2 : wS.cell? ⟨gm, t * 3 + 2, none⟩ = some (.int .u64 tu) := hSw.1.mod.at_ ht (by omega) (by rw [HMO.out]; rfl); (try simp only [Nat.add_zero] at m0 m1 m2); clear hSw; (first | (go_simp; done) | (go_simp; with_reducible rfl)))
 intro hsh12
 clear hsh11
 try simp only [Act.put, List.getElem_toArray, List.getElem_cons_zero, List.getElem_cons_succ, List.setIfInBounds_toArray, List.set_cons_zero, List.set_cons_succ]
 refine anyU_tk 60 (i := 12) (v := ?_) rfl (fun _ _ _ h => h) (YieldsS.of_if (Or.inl ⟨by rfl, ?_⟩)) ?_
 rotate_left
 · (intro wS hSw; (try dsimp only at hSw); (first | (go_simp; done) | (go_simp; with_reducible rfl)))
 intro hsh13
 clear hsh12
 try simp only [Act.put, List.getElem_toArray, List.getElem_cons_zero, List.getElem_cons_succ, List.setIfInBounds_toArray, List.set_cons_zero, List.set_cons_succ]
 refine anyU_tk 60 (i := 13) (v := ?_) rfl (fun _ _ _ h => h) (YieldsS.of_if (Or.inl ⟨by rfl, ?_⟩)) ?_
 rotate_left
 · (intro wS hSw; (try dsimp only at hSw); (first | (go_simp; done) | (go_simp; with_reducible rfl)))
 intro hsh14
 clear hsh13
 try simp only [Act.put, List.getElem_toArray, List.getElem_cons_zero, List.getElem_cons_succ, List.setIfInBounds_toArray, List.set_cons_zero, List.set_cons_succ]
 refine anyU_tk 60 (i := 14) (v := ?_) rfl (fun _ _ _ h => h) (YieldsS.of_if (Or.inl ⟨by rfl, ?_⟩)) ?_
 rotate_left
 · (intro wS hSw; (try dsimp only at hSw); (first | (go_simp; done) | (go_simp; with_reducible rfl)))
 intro hsh15
 clear hsh14
 try simp only [Act.put, List.getElem_toArray, List.getElem_cons_zero, List.getElem_cons_succ, List.setIfInBounds_toArray, List.set_cons_zero, List.set_cons_succ]
 refine anyU_tk 60 (i := 15) (v := ?_) rfl (fun _ _ _ h => h) (YieldsS.of_if (Or.inl ⟨by rfl, ?_⟩)) ?_
 rotate_left
 · (intro wS hSw; (try dsimp only at hSw); have k0 := hSw.1.conf HCF.out (i := 0) rfl; have k1 := hSw.1.conf HCF.out (i := 1) rfl; have k2 := hSw.1.conf HCF.out (i := 2) rfl; have k3 := hSw.1.conf HCF.out (i := 3) rfl; have k4 := hSw.1.conf HCF.out (i := 4) rfl; have k5 := hSw.1.conf HCF.out (i := 5) rfl; have k6 := hSw.1.conf HCF.out (i := 6) rfl; have k7 := hSw.1.conf HCF.out (i := 7) rfl; have k8 := hSw.1.conf HCF.out (i := 8) rfl; have k9 := hSw.1.conf HCF.out (i := 9) rfl; have k10 := hSw.1.conf HCF.out (i := 10) rfl; have k11 := hSw.1.conf HCF.out (i := 11) rfl; have k12 := hSw.1.conf HCF.out (i := 12) rfl; have k13 := hSw.1.conf HCF.out (i := 13) rfl; have k14 := hSw.1.conf HCF.out (i := 14) rfl; have k15 := hSw.1.conf HCF.out (i := 15) rfl; clear hSw; (first | (go_simp; done) | (go_simp; with_reducible rfl)))
 intro hsh16
 clear hsh15
 try simp only [Act.put, List.getElem_toArray, List.getElem_cons_zero, List.getElem_cons_succ, List.setIfInBounds_toArray, List.set_cons_zero, List.set_cons_succ]
 refine anyU_tk 60 (i := 16) (v := .agg #[.int .i64 hg, .int .i64 lo, .int .i64 dw]) rfl (fun _ _ _ h => h) (YieldsS.of_call (by rfl) (f := 66) (args := #[.agg #[.int .i64 ti, .int .i64 ro, .int .i64 ta, .int .i64 iv, .int .i64 hg, .int .i64 lo, .int .i64 dw, .int .i64 ho, .int .i64 sp, .int .i64 kp, .int .i64 ki, .int .i64 kd, .int .i64 lm, .int .i64 st, .int .i64 th, .int .i64 rg]]) (fun wS hSw => by first | rfl | (go_simp; done)) (fun wS hSw => ?_)) ?_
 · refine (cmode_any ⟨ti, ro, ta, iv, hg, lo, dw, ho, sp, kp, ki, kd, lm, st, th, rg⟩ wS).mono ?_; rintro e wn ⟨rfl, hb⟩; exact ⟨rfl, ⟨hSw.1.below hb, hSw.2.trans (hb.mono hSw.2.size)⟩, hb⟩
 intro hsh17
 clear hsh16
 try simp only [Act.put, List.getElem_toArray, List.getElem_cons_zero, List.getElem_cons_succ, List.setIfInBounds_toArray, List.set_cons_zero, List.set_cons_succ]
 refine anyU_tk 60 (i := 17) (v := ?_) rfl (fun _ _ _ h => h) (YieldsS.of_if (Or.inl ⟨by rfl, ?_⟩)) ?_
 rotate_left
 · (intro wS hSw; (try dsimp only at hSw); (first | (go_simp; done) | (go_simp; with_reducible rfl)))
 intro hsh18
 clear hsh17
 try simp only [Act.put, List.getElem_toArray, List.getElem_cons_zero, List.getElem_cons_succ, List.setIfInBounds_toArray, List.set_cons_zero, List.set_cons_succ]
 refine anyU_tk 60 (i := 18) (v := ?_) rfl (fun _ _ _ h => h) (YieldsS.of_if (Or.inl ⟨by rfl, ?_⟩)) ?_
 rotate_left
 · (intro wS hSw; (try dsimp only at hSw); (first | (go_simp; done) | (go_simp; with_reducible rfl)))
 intro hsh19
 clear hsh18
 try simp only [Act.put, List.getElem_toArray, List.getElem_cons_zero, List.getElem_cons_succ, List.setIfInBounds_toArray, List.set_cons_zero, List.set_cons_succ]
 refine anyU_tk 60 (i := 19) (v := ?_) rfl (fun _ _ _ h => h) (YieldsS.of_if (Or.inl ⟨by rfl, ?_⟩)) ?_
 rotate_left
 · (intro wS hSw; (try dsimp only at hSw); (first | (go_simp; done) | (go_simp; with_reducible rfl)))
 intro hsh20
 clear hsh19
 try simp only [Act.put, List.getElem_toArray, List.getElem_cons_zero, List.getElem_cons_succ, List.setIfInBounds_toArray, List.set_cons_zero, List.set_cons_succ]
 refine anyU_tk 60 (i := 20) (v := ?_) rfl (fun _ _ _ h => h) (YieldsS.of_if (Or.inl ⟨by rfl, ?_⟩)) ?_
 rotate_left
 · (intro wS hSw; (try dsimp only at hSw); have c25 := hSw.1.c25; clear hSw; (first | (go_simp; done) | (go_simp; with_reducible rfl)))
 intro hsh21
 clear hsh20
 try simp only [Act.put, List.getElem_toArray, List.getElem_cons_zero, List.getElem_cons_succ, List.setIfInBounds_toArray, List.set_cons_zero, List.set_cons_succ]
 refine anyU_tk 60 (i := 21) (v := ?_) rfl (fun _ _ _ h => h) (YieldsS.of_if (Or.inl ⟨by rfl, ?_⟩)) ?_
 rotate_left
 · (intro wS hSw; (try dsimp only at hSw); (first | (go_simp; done) | (go_simp; with_reducible rfl)))
 intro hsh22
 clear hsh21
 try simp only [Act.put, List.getElem_toArray, List.getElem_cons_zero, List.getElem_cons_succ, List.setIfInBounds_toArray, List.set_cons_zero, List.set_cons_succ]
 refine anyU_tk 60 (i := 22) (v := ?_) rfl (fun _ _ _ h => h) (YieldsS.of_if (Or.inl ⟨by rfl, ?_⟩)) ?_
 rotate_left
 · (intro wS hSw; (try dsimp only at hSw); (first | (go_simp; done) | (go_simp; with_reducible rfl)))
 intro hsh23
 clear hsh22
 try simp only [Act.put, List.getElem_toArray, List.getElem_cons_zero, List.getElem_cons_succ, List.setIfInBounds_toArray, List.set_cons_zero, List.set_cons_succ]
 refine anyU_tk 60 (i := 23) (v := .int .i64 y) rfl (fun _ _ _ h => h) (YieldsS.of_call (by rfl) (f := 119) (args := #[.pointer (some ⟨p, 0, none⟩), .int .u64 g]) (fun wS hSw => by first | rfl | (go_simp; done)) (fun wS hSw => ?_)) ?_
 · refine (co_waited hSw.1.to HM.out.1 HM.out.2.1 HG0.out hK).mono ?_; rw [HY.out]; rintro e wn ⟨rfl, hb⟩; exact ⟨rfl, ⟨hSw.1.below hb, hSw.2.trans (hb.mono hSw.2.size)⟩, hb⟩
 intro hsh24
 clear hsh23
 try simp only [Act.put, List.getElem_toArray, List.getElem_cons_zero, List.getElem_cons_succ, List.setIfInBounds_toArray, List.set_cons_zero, List.set_cons_succ]
 refine anyU_tk 60 (i := 24) (v := ?_) rfl (fun _ _ _ h => h) (YieldsS.of_if (Or.inl ⟨by rfl, ?_⟩)) ?_
 rotate_left
 · (intro wS hSw; (try dsimp only at hSw); (first | (go_simp; done) | (go_simp; with_reducible rfl)))
 intro hsh25
 clear hsh24
 try simp only [Act.put, List.getElem_toArray, List.getElem_cons_zero, List.getElem_cons_succ, List.setIfInBounds_toArray, List.set_cons_zero, List.set_cons_succ]
 refine anyU_tk 60 (i := 25) (v := ?_) rfl (fun _ _ _ h => h) (YieldsS.of_if (Or.inl ⟨by rfl, ?_⟩)) ?_
 rotate_left
 · (intro wS hSw; (try dsimp only at hSw); (first | (go_simp; done) | (go_simp; with_reducible rfl)))
 intro hsh26
 clear hsh25
 try simp only [Act.put, List.getElem_toArray, List.getElem_cons_zero, List.getElem_cons_succ, List.setIfInBounds_toArray, List.set_cons_zero, List.set_cons_succ]
 refine anyU_tk 60 (i := 26) (v := ?_) rfl (fun _ _ _ h => h) (YieldsS.of_if (Or.inl ⟨by rfl, ?_⟩)) ?_
 rotate_left
 · (intro wS hSw; (try dsimp only at hSw); (first | (go_simp; done) | (go_simp; with_reducible rfl)))
 intro hsh27
 clear hsh26
 try simp only [Act.put, List.getElem_toArray, List.getElem_cons_zero, List.getElem_cons_succ, List.setIfInBounds_toArray, List.set_cons_zero, List.set_cons_succ]
 refine anyU_tk 60 (i := 27) (v := ?_) rfl (fun _ _ _ h => h) (YieldsS.of_if (Or.inl ⟨by rfl, ?_⟩)) ?_
 rotate_left
 · (intro wS hSw; (try dsimp only at hSw); have c16 := hSw.1.c16; clear hSw; (first | (go_simp; done) | (go_simp; with_reducible rfl)))
 intro hsh28
 clear hsh27
 try simp only [Act.put, List.getElem_toArray, List.getElem_cons_zero, List.getElem_cons_succ, List.setIfInBounds_toArray, List.set_cons_zero, List.set_cons_succ]
 refine anyU_tk 60 (i := 28) (v := ?_) rfl (fun _ _ _ h => h) (YieldsS.of_if (Or.inl ⟨by rfl, ?_⟩)) ?_
 rotate_left
 · (intro wS hSw; (try dsimp only at hSw); (first | (go_simp; done) | (go_simp; with_reducible rfl)))
 intro hsh29
 clear hsh28
 try simp only [Act.put, List.getElem_toArray, List.getElem_cons_zero, List.getElem_cons_succ, List.setIfInBounds_toArray, List.set_cons_zero, List.set_cons_succ]
 refine anyU_tk 60 (i := 29) (v := .int .i64 k) rfl (fun _ _ _ h => h) (YieldsS.of_call (by rfl) (f := 173) (args := #[.pointer (some ⟨q, 0, none⟩), .int .i64 (t : Int)]) (fun wS hSw => by first | rfl | (go_simp; done)) (fun wS hSw => ?_)) ?_
 · refine (tqo_count (t : Int) hSw.1.que).mono ?_; rw [HR.out, HKK.out]; rintro e wn ⟨rfl, rfl⟩; exact ⟨rfl, hSw, Below.refl _ _⟩
 intro hsh30
 clear hsh29
 try simp only [Act.put, List.getElem_toArray, List.getElem_cons_zero, List.getElem_cons_succ, List.setIfInBounds_toArray, List.set_cons_zero, List.set_cons_succ]
 refine anyU_tk 60 (i := 30) (v := (turnM ⟨li, si, tu⟩ hg lo dw S.clk y k).v) rfl (fun _ _ _ h => h) (YieldsS.of_call (by rfl) (f := 176) (args := #[.agg #[.bool li, .int .i64 si, .int .u64 tu], .agg #[.int .i64 hg, .int .i64 lo, .int .i64 dw], .int .i64 S.clk, .int .i64 y, .int .i64 k]) (fun wS hSw => by first | rfl | (go_simp; done)) (fun wS hSw => ?_)) ?_
 · have so := hSw.1.ok.mod t ht; rw [HMO.out] at so; refine (mturn_any ⟨li, si, tu⟩ hg lo dw S.clk y k wS so hSw.1.ok.clk.1 hSw.1.ok.clk.2).mono ?_; rintro e wn ⟨rfl, hb⟩; exact ⟨rfl, ⟨hSw.1.below hb, hSw.2.trans (hb.mono hSw.2.size)⟩, hb⟩
 intro hsh31
 clear hsh30
 try simp only [Act.put, List.getElem_toArray, List.getElem_cons_zero, List.getElem_cons_succ, List.setIfInBounds_toArray, List.set_cons_zero, List.set_cons_succ]
 refine anyU_tk 60 (i := 31) (v := ?_) rfl (fun _ _ _ h => h) (YieldsS.of_if (Or.inl ⟨by rfl, ?_⟩)) ?_
 rotate_left
 · (intro wS hSw; (try dsimp only at hSw); (first | (go_simp; done) | (go_simp; with_reducible rfl)))
 intro hsh32
 clear hsh31
 try simp only [Act.put, List.getElem_toArray, List.getElem_cons_zero, List.getElem_cons_succ, List.setIfInBounds_toArray, List.set_cons_zero, List.set_cons_succ]
 refine anyU_last (i := 32) (by kernel_rfl) (by kernel_rfl) (fun wS hSw _ => ?_)
 refine last_op rfl (by rfl) (by kernel_rfl) ?_
 have m0 : wS.cell? ⟨gm, t * 3 + 0, none⟩ = some (.bool li) := hSw.1.mod.at_ ht (by omega) (by rw [HMO.out]; rfl)
 have m1 : wS.cell? ⟨gm, t * 3 + 1, none⟩ = some (.int .i64 si) := hSw.1.mod.at_ ht (by omega) (by rw [HMO.out]; rfl)
 have m2 : wS.cell? ⟨gm, t * 3 + 2, none⟩ = some (.int .u64 tu) := hSw.1.mod.at_ ht (by omega) (by rw [HMO.out]; rfl)
 (try simp only [Nat.add_zero] at m0 m1 m2)
 have zf := hSw.1.mod.free
 have HS := Lib.hid hSw
 clear hSw
 unfold Oper.wp
 go_simp
 have so := HS.out.1.ok.mod t ht
 rw [HMO.out] at so
 have hok := turnM_ok ⟨li, si, tu⟩ hg lo dw S.clk y k so HS.out.1.ok.clk.1 HS.out.1.ok.clk.2
 have hB := HS.out.1.mod_ ht _ hok
 have hgm : O gm := (HO.out gm).2 (.inr (.inr (.inl rfl)))
 have hK2 : Kept O w _ := (((Kept.of_below HS.out.2).set_ (own := O) (p := ⟨gm, t * 3, none⟩) (.inl hgm) (.bool (turnM ⟨li, si, tu⟩ hg lo dw S.clk y k).li)).set_ (p := ⟨gm, t * 3 + 1, none⟩) (.inl hgm) (.int .i64 (turnM ⟨li, si, tu⟩ hg lo dw S.clk y k).si)).set_ (p := ⟨gm, t * 3 + 2, none⟩) (.inl hgm) (.int .u64 (turnM ⟨li, si, tu⟩ hg lo dw S.clk y k).tu)
 have hT : turnC S t = turnM ⟨li, si, tu⟩ hg lo dw S.clk y k := by unfold turnC; rw [HMO.out, HCF.out, HY.out, HKK.out]
 rw [← hT] at hB hK2 ⊢
 have hF : CStep w p O (turnS S t) _ := ⟨O, ⟨⟨q, gc, gm, l, r, Oq, hB, HO.out⟩⟩, fun k hk => .inl hk, hK2⟩
 have HF := Lib.hid hF
 refine NoPanic.normal ?_
 clear hF hK2 hB hT m0 m1 m2 zf so hok
 go_wp2
 exact bodyPost_end (results_none rfl _ _ _) rfl ⟨⟨_, rfl⟩, HF.out⟩
end
end Go.Proofs.YtcffeokbipjaoaaGreat
