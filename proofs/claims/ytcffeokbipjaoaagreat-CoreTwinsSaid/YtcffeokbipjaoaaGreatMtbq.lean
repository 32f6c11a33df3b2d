/- Texts of this claim, one behind the other: Cow. -/
import Derived.Test.YtcffeokbipjaoaaGreatMtbp
namespace Go.Proofs.YtcffeokbipjaoaaGreat
open Go.ChangeShapes Go.WideShapes Go.RowKit Kn
set_option linter.unusedVariables false
set_option linter.unusedSimpArgs false
abbrev cpT : TypeId := 286
theorem one_op {P : Program} {ops : Array Oper} {Q : Exit → Act → World → Prop} {K : Act → World → Prop} {i : Nat} {o : Oper} {a : Act} {w : World} (hi : ops[i]? = some o) (hw : Region.wanted o (yielded ops a.tmps) = true) (h : o.wp P a w K Q) : wpOp P ops Q i K a w := by
 unfold Go.wpOp
 simp only [hi, hw, if_true]
 exact .inl h
def cpRow (a b : Int) : List Value := [.int .i64 a, .int .i64 b]
def put6 (w : World) (g o : Nat) (m : Cst) : World := (((((w.setCell ⟨g, o, none⟩ (.bool m.ab)).setCell ⟨g, o + 1, none⟩ (.int .i64 m.fi)).setCell ⟨g, o + 2, none⟩ (.bool m.dr)).setCell ⟨g, o + 3, none⟩ (.int .i64 m.ne)).setCell ⟨g, o + 4, none⟩ (.int .u64 m.co)).setCell ⟨g, o + 5, none⟩ (.int .u64 m.la)
section
variable {w w' w'' : World} {p q gc gm l g : Nat} {r r' : Option Nat} {O Oq Oq' : Nat → Prop} {S S' : Cor}
theorem put6_blk {T : TypeId} {m0 m : Cst} (h : Blk w g T (cRow m0).toArray) : Blk (put6 w g 0 m) g T (cRow m).toArray := by
 have := (((((h.set_ 0 (.bool m.ab)).set_ 1 (.int .i64 m.fi)).set_ 2 (.bool m.dr)).set_ 3 (.int .i64 m.ne)).set_ 4 (.int .u64 m.co)).set_ 5 (.int .u64 m.la)
 simpa [put6, cRow] using this
theorem put6_kept {o : Nat} {m : Cst} : Kept (fun k => k = g) w (put6 w g o m) :=
 ((((((Kept.refl (fun k => k = g) w).set_ (p := ⟨g, o, none⟩) (.inl rfl) _).set_ (p := ⟨g, o + 1, none⟩) (.inl rfl) _).set_ (p := ⟨g, o + 2, none⟩) (.inl rfl) _).set_ (p := ⟨g, o + 3, none⟩) (.inl rfl) _).set_ (p := ⟨g, o + 4, none⟩) (.inl rfl) _).set_ (p := ⟨g, o + 5, none⟩) (.inl rfl) _
structure Thin (w0 wr : World) (p g4 g5 : Nat) (O : Nat → Prop) (S : Cor) (ta iv : Int) (st : Cst) (O1 : Nat → Prop) : Prop where
 co : CoreL wr p O1 S
 sub : ∀ k, O1 k → O k ∨ w0.heap.size ≤ k
 kp : Kept O w0 wr
 b4 : Blk wr g4 cpT (cpRow ta iv).toArray
 b5 : Blk wr g5 csT (cRow st).toArray
 n4 : ¬ O1 g4
 n5 : ¬ O1 g5
 l4 : w0.heap.size ≤ g4
 l5 : w0.heap.size ≤ g5
theorem Thin.step {w0 wr w' : World} {g4 g5 : Nat} {O1 : Nat → Prop} {ta iv : Int} {st : Cst} (h : Thin w0 wr p g4 g5 O S ta iv st O1) (hc : CStep wr p O1 S' w') : ∃ O2, Thin w0 w' p g4 g5 O S' ta iv st O2 := by
 obtain ⟨h1, h2, h3, h4, h5, h6, h7, h8, h9⟩ := h
 have hs := h3.size
 have hc' := hc
 obtain ⟨O2, c1, c2, c3⟩ := hc
 refine ⟨O2, c1, fun k hk => ?_, kept_step h3 h2 c3, h4.kept c3 h6, h5.kept c3 h7, fun e => ?_, fun e => ?_, h8, h9⟩
 · rcases c2 k hk with e | e
   · exact h2 k e
   · right; omega
 · rcases c2 _ e with d | d
   · exact h6 d
   · have := h4.size; omega
 · rcases c2 _ e with d | d
   · exact h7 d
   · have := h5.size; omega
theorem Thin.below {w0 wr w' : World} {g4 g5 : Nat} {O1 : Nat → Prop} {ta iv : Int} {st : Cst} (h : Thin w0 wr p g4 g5 O S ta iv st O1) (hb : Below wr.heap.size wr w') : Thin w0 w' p g4 g5 O S ta iv st O1 :=
 ⟨h.co.below hb, h.sub, kept_step h.kp h.sub (Kept.of_below hb), h.b4.below_ hb h.b4.size, h.b5.below_ hb h.b5.size, h.n4, h.n5, h.l4, h.l5⟩
theorem Thin.put {w0 wr : World} {g4 g5 : Nat} {O1 : Nat → Prop} {ta iv : Int} {st : Cst} (m : Cst) (h : Thin w0 wr p g4 g5 O S ta iv st O1) : Thin w0 (put6 wr g5 0 m) p g4 g5 O S ta iv m O1 := by
 have hk : Kept (fun k => k = g5) wr (put6 wr g5 0 m) := put6_kept
 exact ⟨h.co.box_ h.b5 csT_not h.n5 hk, h.sub, kept_step (O' := fun k => k = g5) h.kp (fun k hk => .inr (by have := h.l5; omega)) hk, h.b4.kept hk (h.b4.other h.b5 (by decide)), put6_blk h.b5, h.n4, h.n5, h.l4, h.l5⟩
theorem Thin.out {w0 wr : World} {g4 g5 : Nat} {O1 : Nat → Prop} {ta iv : Int} {st : Cst} {t : Nat} (h : Thin w0 wr p g4 g5 O S ta iv st O1) (hB : CoreB wr p q gc gm l r Oq S) (hO : ∀ k, O1 k ↔ (k = p ∨ k = gc ∨ k = gm ∨ k = l ∨ r = some k ∨ Oq k)) (ht : t < S.N) (hok : st.ok) :
   CStep w0 p O (codS S t st) (put6 wr gc (t * 6) st) := by
 refine ⟨O1, ⟨⟨q, gc, gm, l, r, Oq, hB.cod_ ht st hok, hO⟩⟩, h.sub, kept_step (O' := fun k => k = gc) h.kp (fun k hk => ?_) put6_kept⟩
 rw [hk]
 exact h.sub gc ((hO gc).2 (.inr (.inl rfl)))
set_option maxRecDepth 100000 in
set_option maxHeartbeats 16000000 in
theorem co_thin {t : Nat} (h : CoreL w p O S) (ht : t < S.N) (h0 : 0 < (S.q.L t).length) (hK : S.K ≤ 1000) :
   Calls Tryz.prog 128 #[.pointer (some ⟨p, 0, none⟩), .int .i64 (t : Int)] w fun e w' => (∃ v, e = .returned v) ∧ CStep w p O (thinS S t) w' := by
 obtain ⟨q, gc, gm, l, r, Oq, h1, hO⟩ := h.cells
 have hN8 : S.N ≤ 8 := h1.ok.N8
 have hnm : S.n ≤ 1024 := h1.ok.nm
 have ht0 : (0 : Int) ≤ (t : Int) := by omega
 have ht1 : (t : Int) < (S.N : Int) := by omega
 obtain ⟨cf, hcf⟩ : ∃ cf, S.cf = cf := ⟨_, rfl⟩
 obtain ⟨ti, ro, ta, iv, hg, lo, dw, ho, sp, kp, ki, kd, lm, sx, th, rg⟩ := cf
 have k0 : w.cell? ⟨p, 0, none⟩ = some (.int .i64 ti) := h1.conf hcf (i := 0) rfl
 have k1 : w.cell? ⟨p, 1, none⟩ = some (.int .i64 ro) := h1.conf hcf (i := 1) rfl
 have k2 : w.cell? ⟨p, 2, none⟩ = some (.int .i64 ta) := h1.conf hcf (i := 2) rfl
 have k3 : w.cell? ⟨p, 3, none⟩ = some (.int .i64 iv) := h1.conf hcf (i := 3) rfl
 have k4 : w.cell? ⟨p, 4, none⟩ = some (.int .i64 hg) := h1.conf hcf (i := 4) rfl
 have k5 : w.cell? ⟨p, 5, none⟩ = some (.int .i64 lo) := h1.conf hcf (i := 5) rfl
 have k6 : w.cell? ⟨p, 6, none⟩ = some (.int .i64 dw) := h1.conf hcf (i := 6) rfl
 have k7 : w.cell? ⟨p, 7, none⟩ = some (.int .i64 ho) := h1.conf hcf (i := 7) rfl
 have k8 : w.cell? ⟨p, 8, none⟩ = some (.int .i64 sp) := h1.conf hcf (i := 8) rfl
 have k9 : w.cell? ⟨p, 9, none⟩ = some (.int .i64 kp) := h1.conf hcf (i := 9) rfl
 have k10 : w.cell? ⟨p, 10, none⟩ = some (.int .i64 ki) := h1.conf hcf (i := 10) rfl
 have k11 : w.cell? ⟨p, 11, none⟩ = some (.int .i64 kd) := h1.conf hcf (i := 11) rfl
 have k12 : w.cell? ⟨p, 12, none⟩ = some (.int .i64 lm) := h1.conf hcf (i := 12) rfl
 have k13 : w.cell? ⟨p, 13, none⟩ = some (.int .i64 sx) := h1.conf hcf (i := 13) rfl
 have k14 : w.cell? ⟨p, 14, none⟩ = some (.int .i64 th) := h1.conf hcf (i := 14) rfl
 have k15 : w.cell? ⟨p, 15, none⟩ = some (.int .i64 rg) := h1.conf hcf (i := 15) rfl
 obtain ⟨clk, hclk⟩ : ∃ c, S.clk = c := ⟨_, rfl⟩
 have hclk0 : -9223372036854775808 ≤ clk := by rw [← hclk]; exact h1.ok.clk.1
 have hclk1 : clk ≤ 9223372036854775807 := by rw [← hclk]; exact h1.ok.clk.2
 have hfit := h1.ok.fits
 have hiv0 : -9223372036854775808 ≤ iv := by have := hfit.iv.1; rw [hcf] at this; exact this
 have hiv1 : iv ≤ 9223372036854775807 := by have := hfit.iv.2; rw [hcf] at this; exact this
 obtain ⟨⟨ab, fi, dr, ne, co, la⟩, hco⟩ : ∃ m, S.cod t = m := ⟨_, rfl⟩
 have hcok : (⟨ab, fi, dr, ne, co, la⟩ : Cst).ok := by rw [← hco]; exact h1.ok.cod t ht
 obtain ⟨ci, hci⟩ : ∃ ci, canI S t = ci := ⟨_, rfl⟩
 have hcm := h1.mem ht (canI_mem h0)
 rw [hci] at hcm
 obtain ⟨g0, hg0⟩ : ∃ g, S.q.H ci = g := ⟨_, rfl⟩
 obtain ⟨y, hy⟩ : ∃ y, sat (S.clk - (S.q.R ci).e) = y := ⟨_, rfl⟩
 obtain ⟨k, hk⟩ : ∃ k : Int, ((S.q.L t).length : Int) = k := ⟨_, rfl⟩
 obtain ⟨hb, hhb⟩ : ∃ b, highB ta y k = b := ⟨_, rfl⟩
 obtain ⟨Z, hZ⟩ : ∃ z, lookC ⟨ab, fi, dr, ne, co, la⟩ iv clk hb = z := ⟨_, rfl⟩
 obtain ⟨st, d⟩ := Z
 have hzok : st.ok := by have := look_ok hcok iv clk hb; rw [hZ] at this; exact this
 have hr : rowE S.N S.q.L (t : Int) = S.q.L t := rowE_at ht
 have hbo : hbOf S t = hb := by unfold hbOf; rw [hci, hy, hk, hcf]; exact hhb
 have hthin : thinZ S t = thinGo t ((S.q.L t).length) S st d := by unfold thinZ; rw [hbo, hco, hcf, hclk]; show thinGo t _ S (lookC _ iv clk hb).1 (lookC _ iv clk hb).2 = _; rw [hZ]
 have hdec : d = 0 ∨ 1 < (S.q.L t).length ∧ (d = 1 ∨ d = 2) := by
   have := look_dec ⟨ab, fi, dr, ne, co, la⟩ iv clk hb
   rw [hZ] at this
   rcases this with e | ⟨e1, e2⟩
   · exact .inl e
   · refine .inr ⟨?_, e2⟩
     rw [← hhb, ← hk] at e1
     exact highB_two e1
 have H1 := Lib.hid h1
 have HO := Lib.hid hO
 have HR := Lib.hid hr
 have HCF := Lib.hid hcf
 have HCLK := Lib.hid hclk
 have HCO := Lib.hid hco
 have HCOK := Lib.hid hcok
 have HCI := Lib.hid hci
 have HCM := Lib.hid hcm
 have HG0 := Lib.hid hg0
 have HY := Lib.hid hy
 have HKK := Lib.hid hk
 have HHB := Lib.hid hhb
 have HZ := Lib.hid hZ
 have HZOK := Lib.hid hzok
 have HTH := Lib.hid hthin
 have HDEC := Lib.hid hdec
 have H0 := Lib.hid h0
 clear h h1 hO hr hcf hclk hco hcok hci hcm hg0 hy hk hhb hZ hzok hthin hdec h0 hbo hfit
 go_enter Tryz.func128, Tryz.ntmps128
 go_wp2_with fail
 refine (ccodel_any ⟨ti, ro, ta, iv, hg, lo, dw, ho, sp, kp, ki, kd, lm, sx, th, rg⟩ _).mono ?_
 rintro e w1 ⟨rfl, hb1⟩
 have HB1 := Lib.hid hb1
 clear hb1 k0 k1 k2 k3 k4 k5 k6 k7 k8 k9 k10 k11 k12 k13 k14 k15
 go_upto_region 1 with fail
 refine wp_worldx (fun wx => CoreB wx p q gc gm l r Oq S ∧ Blk wx w1.heap.size cpT (cpRow ta iv).toArray ∧ Below w.heap.size w wx) ⟨H1.out.below (HB1.out.alloc HB1.out.size _), Blk.made _ _ _, HB1.out.alloc HB1.out.size _⟩ ?_
 obtain ⟨g4, hg4⟩ : ∃ g, w1.heap.size = g := ⟨_, rfl⟩
 have hl4 : w.heap.size ≤ g4 := by have := HB1.out.size; omega
 rw [hg4]
 clear HB1 hg4
 rintro w2 ⟨h1, h2, h3⟩
 have HA := Lib.hid h1
 have HB := Lib.hid h2
 have HC := Lib.hid h3
 have h24 := h2.size
 clear h1 h2 h3
 refine wp_region_noPanic ?_
 refine wp_region_U (fun w' => CoreB w' p q gc gm l r Oq S ∧ Blk w' g4 cpT (cpRow ta iv).toArray ∧ Below w2.heap.size w2 w') [27, 28] [] (by kernel_rfl) (⟨HA.out.below ((Below.refl _ _).drew), HB.out.drew_, (Below.refl _ _).drew⟩) ?_
 intro hsh0
 skip
 refine anyU_tk 60 (i := 0) (v := ?_) rfl (fun _ _ _ h => h) (YieldsS.of_if (Or.inl ⟨by rfl, ?_⟩)) ?_
 rotate_left
 · (intro wS hSw; (try dsimp only at hSw); (first | (go_simp; done) | (go_simp; with_reducible rfl)))
 intro hsh1
 clear hsh0
 try simp only [Act.put, List.getElem_toArray, List.getElem_cons_zero, List.getElem_cons_succ, List.setIfInBounds_toArray, List.set_cons_zero, List.set_cons_succ]
 refine anyU_tk 60 (i := 1) (v := ?_) rfl (fun _ _ _ h => h) (YieldsS.of_if (Or.inl ⟨by rfl, ?_⟩)) ?_
 rotate_left
 · (intro wS hSw; (try dsimp only at hSw); (first | (go_simp; done) | (go_simp; with_reducible rfl)))
 intro hsh2
 clear hsh1
 try simp only [Act.put, List.getElem_toArray, List.getElem_cons_zero, List.getElem_cons_succ, List.setIfInBounds_toArray, List.set_cons_zero, List.set_cons_succ]
 refine anyU_tk 60 (i := 2) (v := ?_) rfl (fun _ _ _ h => h) (YieldsS.of_if (Or.inl ⟨by rfl, ?_⟩)) ?_
 rotate_left
 · (intro wS hSw; (try dsimp only at hSw); (first | (go_simp; done) | (go_simp; with_reducible rfl)))
 intro hsh3
 clear hsh2
 try simp only [Act.put, List.getElem_toArray, List.getElem_cons_zero, List.getElem_cons_succ, List.setIfInBounds_toArray, List.set_cons_zero, List.set_cons_succ]
 refine anyU_tk 60 (i := 3) (v := ?_) rfl (fun _ _ _ h => h) (YieldsS.of_if (Or.inl ⟨by rfl, ?_⟩)) ?_
 rotate_left
 · (intro wS hSw; (try dsimp only at hSw); have c17 := hSw.1.c17; clear hSw; (first | (go_simp; done) | (go_simp; with_reducible rfl)))
 intro hsh4
 clear hsh3
 try simp only [Act.put, List.getElem_toArray, List.getElem_cons_zero, List.getElem_cons_succ, List.setIfInBounds_toArray, List.set_cons_zero, List.set_cons_succ]
 refine anyU_tk 60 (i := 4) (v := ?_) rfl (fun _ _ _ h => h) (YieldsS.of_if (Or.inl ⟨by rfl, ?_⟩)) ?_
 rotate_left
 · (intro wS hSw; (try dsimp only at hSw); (first | (go_simp; done) | (go_simp; with_reducible rfl)))
 intro hsh5
 clear hsh4
 try simp only [Act.put, List.getElem_toArray, List.getElem_cons_zero, List.getElem_cons_succ, List.setIfInBounds_toArray, List.set_cons_zero, List.set_cons_succ]
 refine anyU_tk 60 (i := 5) (v := ?_) rfl (fun _ _ _ h => h) (YieldsS.of_if (Or.inl ⟨by rfl, ?_⟩)) ?_
 rotate_left
 · (intro wS hSw; (try dsimp only at hSw); (first | (go_simp; done) | (go_simp; with_reducible rfl)))
 intro hsh6
 clear hsh5
 try simp only [Act.put, List.getElem_toArray, List.getElem_cons_zero, List.getElem_cons_succ, List.setIfInBounds_toArray, List.set_cons_zero, List.set_cons_succ]
 refine anyU_tk 60 (i := 6) (v := ?_) rfl (fun _ _ _ h => h) (YieldsS.of_if (Or.inl ⟨by rfl, ?_⟩)) ?_
 rotate_left
 · (intro wS hSw; (try dsimp only at hSw); have m0 : wS.cell? ⟨gc, t * 6 + 0, none⟩ = some (.bool ab) := hSw.1.cod.at_ ht (by omega) (by rw [HCO.out]; rfl); have m1 : wS.cell? ⟨gc, t * 6 + 1, none⟩ = some (.int .i64 fi) := hSw.1.cod.at_ ht (by omega) (by rw [HCO.out]; rfl); have m2 : wS.cell? ⟨gc, t * 6 + 2, none⟩ = some (.bool dr) := hSw.1.cod.at_ ht (by omega) (by rw [HCO.out]; rfl); have m3 : wS.cell? ⟨gc, t * 6 + 3, none⟩ = some (.int .i64 ne) := hSw.1.cod.at_ ht (by omega) (by rw [HCO.out]; rfl); have m4 : wS.cell? ⟨gc, t * 6 + 4, none⟩ = some (.int .u64 co) := hSw.1.cod.at_ ht (by omega) (by rw [HCO.out]; rfl); have m5 : wS.cell? ⟨gc, t * 6 + 5, none⟩ = some (.int .u64 la) := hSw.1.cod.at_ ht (by omega) (by rw [HCO.out]; rfl); (try simp only [Nat.add_zero] at m0 m1 m2 m3 m4 m5); clear hSw; (first | (go_simp; done) | (go_simp; with_reducible rfl)))
 intro hsh7
 clear hsh6
 try simp only [Act.put, List.getElem_toArray, List.getElem_cons_zero, List.getElem_cons_succ, List.setIfInBounds_toArray, List.set_cons_zero, List.set_cons_succ]
 refine anyU_tk 60 (i := 7) (v := ?_) rfl (fun _ _ _ h => h) (YieldsS.of_if (Or.inl ⟨by rfl, ?_⟩)) ?_
 rotate_left
 · (intro wS hSw; (try dsimp only at hSw); have u0 : wS.cell? ⟨g4, 0, none⟩ = some (.int .i64 ta) := hSw.2.1.val (i := 0) rfl; have u1 : wS.cell? ⟨g4, 1, none⟩ = some (.int .i64 iv) := hSw.2.1.val (i := 1) rfl; clear hSw; (first | (go_simp; done) | (go_simp; with_reducible rfl)))
 intro hsh8
 clear hsh7
 try simp only [Act.put, List.getElem_toArray, List.getElem_cons_zero, List.getElem_cons_succ, List.setIfInBounds_toArray, List.set_cons_zero, List.set_cons_succ]
 refine anyU_tk 60 (i := 8) (v := ?_) rfl (fun _ _ _ h => h) (YieldsS.of_if (Or.inl ⟨by rfl, ?_⟩)) ?_
 rotate_left
 · (intro wS hSw; (try dsimp only at hSw); (first | (go_simp; done) | (go_simp; with_reducible rfl)))
 intro hsh9
 clear hsh8
 try simp only [Act.put, List.getElem_toArray, List.getElem_cons_zero, List.getElem_cons_succ, List.setIfInBounds_toArray, List.set_cons_zero, List.set_cons_succ]
 refine anyU_tk 60 (i := 9) (v := ?_) rfl (fun _ _ _ h => h) (YieldsS.of_if (Or.inl ⟨by rfl, ?_⟩)) ?_
 rotate_left
 · (intro wS hSw; (try dsimp only at hSw); (first | (go_simp; done) | (go_simp; with_reducible rfl)))
 intro hsh10
 clear hsh9
 try simp only [Act.put, List.getElem_toArray, List.getElem_cons_zero, List.getElem_cons_succ, List.setIfInBounds_toArray, List.set_cons_zero, List.set_cons_succ]
 refine anyU_tk 60 (i := 10) (v := ?_) rfl (fun _ _ _ h => h) (YieldsS.of_if (Or.inl ⟨by rfl, ?_⟩)) ?_
 rotate_left
 · (intro wS hSw; (try dsimp only at hSw); (first | (go_simp; done) | (go_simp; with_reducible rfl)))
 intro hsh11
 clear hsh10
 try simp only [Act.put, List.getElem_toArray, List.getElem_cons_zero, List.getElem_cons_succ, List.setIfInBounds_toArray, List.set_cons_zero, List.set_cons_succ]
 refine anyU_tk 60 (i := 11) (v := ?_) rfl (fun _ _ _ h => h) (YieldsS.of_if (Or.inl ⟨by rfl, ?_⟩)) ?_
 rotate_left
 · (intro wS hSw; (try dsimp only at hSw); have c25 := hSw.1.c25; rw [HCLK.out] at c25; clear hSw; (first | (go_simp; done) | (go_simp; with_reducible rfl)))
 intro hsh12
 clear hsh11
 try simp only [Act.put, List.getElem_toArray, List.getElem_cons_zero, List.getElem_cons_succ, List.setIfInBounds_toArray, List.set_cons_zero, List.set_cons_succ]
 refine anyU_tk 60 (i := 12) (v := ?_) rfl (fun _ _ _ h => h) (YieldsS.of_if (Or.inl ⟨by rfl, ?_⟩)) ?_
 rotate_left
 · (intro wS hSw; (try dsimp only at hSw); (first | (go_simp; done) | (go_simp; with_reducible rfl)))
 intro hsh13
 clear hsh12
 try simp only [Act.put, List.getElem_toArray, List.getElem_cons_zero, List.getElem_cons_succ, List.setIfInBounds_toArray, List.set_cons_zero, List.set_cons_succ]
 refine anyU_tk 60 (i := 13) (v := ?_) rfl (fun _ _ _ h => h) (YieldsS.of_if (Or.inl ⟨by rfl, ?_⟩)) ?_
 rotate_left
 · (intro wS hSw; (try dsimp only at hSw); (first | (go_simp; done) | (go_simp; with_reducible rfl)))
 intro hsh14
 clear hsh13
 try simp only [Act.put, List.getElem_toArray, List.getElem_cons_zero, List.getElem_cons_succ, List.setIfInBounds_toArray, List.set_cons_zero, List.set_cons_succ]
 refine anyU_tk 60 (i := 14) (v := ?_) rfl (fun _ _ _ h => h) (YieldsS.of_if (Or.inl ⟨by rfl, ?_⟩)) ?_
 rotate_left
 · (intro wS hSw; (try dsimp only at hSw); (first | (go_simp; done) | (go_simp; with_reducible rfl)))
 intro hsh15
 clear hsh14
 try simp only [Act.put, List.getElem_toArray, List.getElem_cons_zero, List.getElem_cons_succ, List.setIfInBounds_toArray, List.set_cons_zero, List.set_cons_succ]
 refine anyU_tk 60 (i := 15) (v := .int .u64 g0) rfl (fun _ _ _ h => h) (YieldsS.of_call (by rfl) (f := 129) (args := #[.pointer (some ⟨p, 0, none⟩), .int .i64 (t : Int)]) (fun wS hSw => by first | rfl | (go_simp; done)) (fun wS hSw => ?_)) ?_
 · refine (co_candidate hSw.1.to ht H0.out).mono ?_; rw [HCI.out, HG0.out]; rintro e wn ⟨rfl, hb⟩; exact ⟨rfl, ⟨hSw.1.below hb, hSw.2.1.below_ hb hSw.2.1.size, hSw.2.2.trans (hb.mono hSw.2.2.size)⟩, hb⟩
 intro hsh16
 clear hsh15
 try simp only [Act.put, List.getElem_toArray, List.getElem_cons_zero, List.getElem_cons_succ, List.setIfInBounds_toArray, List.set_cons_zero, List.set_cons_succ]
 refine anyU_tk 60 (i := 16) (v := .int .i64 y) rfl (fun _ _ _ h => h) (YieldsS.of_call (by rfl) (f := 119) (args := #[.pointer (some ⟨p, 0, none⟩), .int .u64 g0]) (fun wS hSw => by first | rfl | (go_simp; done)) (fun wS hSw => ?_)) ?_
 · refine (co_waited hSw.1.to HCM.out.1 HCM.out.2.1 HG0.out hK).mono ?_; rw [HY.out]; rintro e wn ⟨rfl, hb⟩; exact ⟨rfl, ⟨hSw.1.below hb, hSw.2.1.below_ hb hSw.2.1.size, hSw.2.2.trans (hb.mono hSw.2.2.size)⟩, hb⟩
 intro hsh17
 clear hsh16
 try simp only [Act.put, List.getElem_toArray, List.getElem_cons_zero, List.getElem_cons_succ, List.setIfInBounds_toArray, List.set_cons_zero, List.set_cons_succ]
 refine anyU_tk 60 (i := 17) (v := ?_) rfl (fun _ _ _ h => h) (YieldsS.of_if (Or.inl ⟨by rfl, ?_⟩)) ?_
 rotate_left
 · (intro wS hSw; (try dsimp only at hSw); (first | (go_simp; done) | (go_simp; with_reducible rfl)))
 intro hsh18
 clear hsh17
 try simp only [Act.put, List.getElem_toArray, List.getElem_cons_zero, List.getElem_cons_succ, List.setIfInBounds_toArray, List.set_cons_zero, List.set_cons_succ]
 refine anyU_tk 60 (i := 18) (v := ?_) rfl (fun _ _ _ h => h) (YieldsS.of_if (Or.inl ⟨by rfl, ?_⟩)) ?_
 rotate_left
 · (intro wS hSw; (try dsimp only at hSw); (first | (go_simp; done) | (go_simp; with_reducible rfl)))
 intro hsh19
 clear hsh18
 try simp only [Act.put, List.getElem_toArray, List.getElem_cons_zero, List.getElem_cons_succ, List.setIfInBounds_toArray, List.set_cons_zero, List.set_cons_succ]
 refine anyU_tk 60 (i := 19) (v := ?_) rfl (fun _ _ _ h => h) (YieldsS.of_if (Or.inl ⟨by rfl, ?_⟩)) ?_
 rotate_left
 · (intro wS hSw; (try dsimp only at hSw); (first | (go_simp; done) | (go_simp; with_reducible rfl)))
 intro hsh20
 clear hsh19
 try simp only [Act.put, List.getElem_toArray, List.getElem_cons_zero, List.getElem_cons_succ, List.setIfInBounds_toArray, List.set_cons_zero, List.set_cons_succ]
 refine anyU_tk 60 (i := 20) (v := ?_) rfl (fun _ _ _ h => h) (YieldsS.of_if (Or.inl ⟨by rfl, ?_⟩)) ?_
 rotate_left
 · (intro wS hSw; (try dsimp only at hSw); have c16 := hSw.1.c16; clear hSw; (first | (go_simp; done) | (go_simp; with_reducible rfl)))
 intro hsh21
 clear hsh20
 try simp only [Act.put, List.getElem_toArray, List.getElem_cons_zero, List.getElem_cons_succ, List.setIfInBounds_toArray, List.set_cons_zero, List.set_cons_succ]
 refine anyU_tk 60 (i := 21) (v := ?_) rfl (fun _ _ _ h => h) (YieldsS.of_if (Or.inl ⟨by rfl, ?_⟩)) ?_
 rotate_left
 · (intro wS hSw; (try dsimp only at hSw); (first | (go_simp; done) | (go_simp; with_reducible rfl)))
 intro hsh22
 clear hsh21
 try simp only [Act.put, List.getElem_toArray, List.getElem_cons_zero, List.getElem_cons_succ, List.setIfInBounds_toArray, List.set_cons_zero, List.set_cons_succ]
 refine anyU_tk 60 (i := 22) (v := .int .i64 k) rfl (fun _ _ _ h => h) (YieldsS.of_call (by rfl) (f := 173) (args := #[.pointer (some ⟨q, 0, none⟩), .int .i64 (t : Int)]) (fun wS hSw => by first | rfl | (go_simp; done)) (fun wS hSw => ?_)) ?_
 · refine (tqo_count (t : Int) hSw.1.que).mono ?_; rw [HR.out, HKK.out]; rintro e wn ⟨rfl, rfl⟩; exact ⟨rfl, hSw, Below.refl _ _⟩
 intro hsh23
 clear hsh22
 try simp only [Act.put, List.getElem_toArray, List.getElem_cons_zero, List.getElem_cons_succ, List.setIfInBounds_toArray, List.set_cons_zero, List.set_cons_succ]
 refine anyU_tk 60 (i := 23) (v := .tuple #[st.v, .int .i64 d]) rfl (fun _ _ _ h => h) (YieldsS.of_call (by rfl) (f := 178) (args := #[.agg #[.bool ab, .int .i64 fi, .bool dr, .int .i64 ne, .int .u64 co, .int .u64 la], .agg #[.int .i64 ta, .int .i64 iv], .int .i64 clk, .int .i64 y, .int .i64 k]) (fun wS hSw => by first | rfl | (go_simp; done)) (fun wS hSw => ?_)) ?_
 · refine (clook_any ⟨ab, fi, dr, ne, co, la⟩ ta iv clk y k hb HHB.out wS hclk0 hclk1 hiv0 hiv1 HCOK.out).mono ?_; rw [HZ.out]; rintro e wn ⟨rfl, hb⟩; exact ⟨rfl, ⟨hSw.1.below hb, hSw.2.1.below_ hb hSw.2.1.size, hSw.2.2.trans (hb.mono hSw.2.2.size)⟩, hb⟩
 intro hsh24
 clear hsh23
 try simp only [Act.put, List.getElem_toArray, List.getElem_cons_zero, List.getElem_cons_succ, List.setIfInBounds_toArray, List.set_cons_zero, List.set_cons_succ]
 refine anyU_tk 60 (i := 24) (v := ?_) rfl (fun _ _ _ h => h) (YieldsS.of_if (Or.inl ⟨by rfl, ?_⟩)) ?_
 rotate_left
 · (intro wS hSw; (try dsimp only at hSw); (first | (go_simp; done) | (go_simp; with_reducible rfl)))
 intro hsh25
 clear hsh24
 try simp only [Act.put, List.getElem_toArray, List.getElem_cons_zero, List.getElem_cons_succ, List.setIfInBounds_toArray, List.set_cons_zero, List.set_cons_succ]
 refine anyU_tk 60 (i := 25) (v := ?_) rfl (fun _ _ _ h => h) (YieldsS.of_if (Or.inl ⟨by rfl, ?_⟩)) ?_
 rotate_left
 · (intro wS hSw; (try dsimp only at hSw); (first | (go_simp; done) | (go_simp; with_reducible rfl)))
 intro hsh26
 clear hsh25
 try simp only [Act.put, List.getElem_toArray, List.getElem_cons_zero, List.getElem_cons_succ, List.setIfInBounds_toArray, List.set_cons_zero, List.set_cons_succ]
 refine anyU_tk 60 (i := 26) (v := ?_) rfl (fun _ _ _ h => h) (YieldsS.of_if (Or.inl ⟨by rfl, ?_⟩)) ?_
 rotate_left
 · (intro wS hSw; (try dsimp only at hSw); (first | (go_simp; done) | (go_simp; with_reducible rfl)))
 intro hsh27
 clear hsh26
 try simp only [Act.put, List.getElem_toArray, List.getElem_cons_zero, List.getElem_cons_succ, List.setIfInBounds_toArray, List.set_cons_zero, List.set_cons_succ]
 refine anyU_make (i := 27) (by kernel_rfl) (by kernel_rfl) (fun wS hSw _ => one_op rfl (by rfl) ?_)
 unfold Oper.wp
 go_simp
 obtain ⟨g5, hg5⟩ : ∃ g, wS.heap.size = g := ⟨_, rfl⟩
 have hl5 : w2.heap.size ≤ g5 := by have := hSw.2.2.size; omega
 refine ⟨⟨hSw.1.below ((Below.refl _ _).alloc (Nat.le_refl _) _), hSw.2.1.alloc_ _, hSw.2.2.alloc hSw.2.2.size _⟩, fun w' => Blk w' g5 csT (cRow ⟨false, 0, false, 0, 0, 0⟩).toArray, fun a b h1 h2 => h1.below_ h2 h1.size, Blk.new_ hg5.symm, ?_⟩
 rw [hg5]
 clear hSw hg5
 refine anyU_make (i := 28) (by kernel_rfl) (by kernel_rfl) (fun wS hSw hD => one_op rfl (by rfl) ?_)
 have e0 := hD.val (i := 0) rfl
 have e1 := hD.val (i := 1) rfl
 have e2 := hD.val (i := 2) rfl
 have e3 := hD.val (i := 3) rfl
 have e4 := hD.val (i := 4) rfl
 have e5 := hD.val (i := 5) rfl
 have ef := hD.free
 have HS := Lib.hid hSw
 have HD := Lib.hid hD
 clear hSw hD
 unfold Oper.wp
 go_simp
 clear e0 e1 e2 e3 e4 e5 ef
 have hkk : Kept (fun k => k = g5) wS (put6 wS g5 0 st) := put6_kept
 have hlt : ∀ {k : Nat}, (k = p ∨ k = gc ∨ k = gm ∨ k = l ∨ r = some k ∨ Oq k) → k ≠ g5 := fun hk e => by have := HA.out.lt hk; omega
 have hBx : CoreB (put6 wS g5 0 st) p q gc gm l r Oq S := HS.out.1.box_ HD.out csT_not ⟨fun e => hlt (.inl rfl) e.symm, fun e => hlt (.inr (.inl rfl)) e.symm, fun e => hlt (.inr (.inr (.inl rfl))) e.symm, fun e => hlt (.inr (.inr (.inr (.inl rfl)))) e.symm, fun e => hlt (.inr (.inr (.inr (.inr (.inl e))))) rfl⟩ hkk
 refine ⟨⟨hBx, HS.out.2.1.kept hkk (by omega), HS.out.2.2.trans (hkk.below (fun k hk => by omega) (by have := HS.out.2.2.size; omega))⟩, fun w' => Blk w' g5 csT (cRow st).toArray, fun a b h1 h2 => h1.below_ h2 h1.size, put6_blk HD.out, ?_⟩
 clear hBx hkk hlt HS HD
 refine anyU_one (i := 29) (v := ?_) (by kernel_rfl) rfl (YieldsS.of_if (Or.inl ⟨by rfl, ?_⟩)) ?_
 rotate_left
 · (intro wS hSw; (try dsimp only at hSw); (first | (go_simp; done) | (go_simp; with_reducible rfl)))
 try simp only [Act.put, List.getElem_toArray, List.getElem_cons_zero, List.getElem_cons_succ, List.setIfInBounds_toArray, List.set_cons_zero, List.set_cons_succ]
 refine anyU_done (by kernel_rfl) (fun wS hSw hD => ?_) _
 have hno : ∀ g, w.heap.size ≤ g → g = g4 ∨ g = g5 → ¬ (g = p ∨ g = gc ∨ g = gm ∨ g = l ∨ r = some g ∨ Oq g) := fun g h1 h2 h3 => by have := H1.out.lt h3; omega
 have hT : Thin w wS p g4 g5 O S ta iv st O := ⟨⟨⟨q, gc, gm, l, r, Oq, hSw.1, HO.out⟩⟩, fun k hk => .inl hk, Kept.of_below (HC.out.trans (hSw.2.2.mono HC.out.size)), hSw.2.1, hD, fun e => hno g4 hl4 (.inl rfl) ((HO.out g4).1 e), fun e => hno g5 (by have := HC.out.size; omega) (.inr rfl) ((HO.out g5).1 e), hl4, by have := HC.out.size; omega⟩
 have HT := Lib.hid hT
 clear hT hno hSw hD
 refine NoPanic.normal ?_
 clear HA HB HC
 go_wp2_with fail
 go_loopg [6] (S.q.L t).length (fun gh s6 wr => ∃ (S1 : Cor) (st1 : Cst) (d1 : Int) (O1 : Nat → Prop), s6 = .int .i64 d1 ∧ gh = (S1.q.L t).length ∧ 0 < gh ∧ (d1 = 0 ∨ 1 < gh ∧ (d1 = 1 ∨ d1 = 2)) ∧ st1.ok ∧ thinGo t gh S1 st1 d1 = thinGo t (S.q.L t).length S st d ∧ (S1.N = S.N ∧ S1.cf = S.cf ∧ S1.clk = S.clk ∧ S1.K = S.K) ∧ Thin w wr p g4 g5 O S1 ta iv st1 O1)
 case atStart => exact ⟨S, st, d, O, rfl, rfl, H0.out, HDEC.out, HZOK.out, rfl, ⟨rfl, rfl, rfl, rfl⟩, HT.out⟩
 case round =>
   clear HT H1 HO HR HCO HCOK HCI HCM HG0 HY HKK HHB HZ HZOK HDEC H0 hl4
   obtain ⟨S1, st1, d1, O1, rfl, hgh, hgp, hdec, hok1, hgo, ⟨hN1, hcf1, hclk1', hK1⟩, hT⟩ := hrel
   obtain ⟨ab1, fi1, dr1, ne1, co1, la1⟩ := st1
   have HT := Lib.hid hT
   have HGO := Lib.hid hgo
   have HGH := Lib.hid hgh
   clear hT hgo hgh
   by_cases hd0 : d1 = 0
   · subst hd0
     obtain ⟨q1, gc1, gm1, l1, r1, Oq1, hB1, hO1⟩ := HT.out.co.cells
     have HB1 := Lib.hid hB1
     have HO1 := Lib.hid hO1
     clear hB1 hO1
     go_upto_region 9 with fail
     refine wp_region_noPanic ?_
     refine wp_region_U (fun w' => Thin w w' p g4 g5 O S1 ta iv ⟨ab1, fi1, dr1, ne1, co1, la1⟩ O1 ∧ CoreB w' p q1 gc1 gm1 l1 r1 Oq1 S1) [] [7] (by kernel_rfl) (⟨HT.out.below ((Below.refl _ _).drew), HB1.out.below ((Below.refl _ _).drew)⟩) ?_
     intro hsh0
     skip
     refine anyU_tk 60 (i := 0) (v := ?_) rfl (fun _ _ _ h => h) (YieldsS.of_if (Or.inl ⟨by rfl, ?_⟩)) ?_
     rotate_left
     · (intro wS hSw; (try dsimp only at hSw); (first | (go_simp; done) | (go_simp; with_reducible rfl)))
     intro hsh1
     clear hsh0
     try simp only [Act.put, List.getElem_toArray, List.getElem_cons_zero, List.getElem_cons_succ, List.setIfInBounds_toArray, List.set_cons_zero, List.set_cons_succ]
     refine anyU_tk 60 (i := 1) (v := ?_) rfl (fun _ _ _ h => h) (YieldsS.of_if (Or.inl ⟨by rfl, ?_⟩)) ?_
     rotate_left
     · (intro wS hSw; (try dsimp only at hSw); (first | (go_simp; done) | (go_simp; with_reducible rfl)))
     intro hsh2
     clear hsh1
     try simp only [Act.put, List.getElem_toArray, List.getElem_cons_zero, List.getElem_cons_succ, List.setIfInBounds_toArray, List.set_cons_zero, List.set_cons_succ]
     refine anyU_tk 60 (i := 2) (v := ?_) rfl (fun _ _ _ h => h) (YieldsS.of_if (Or.inl ⟨by rfl, ?_⟩)) ?_
     rotate_left
     · (intro wS hSw; (try dsimp only at hSw); (first | (go_simp; done) | (go_simp; with_reducible rfl)))
     intro hsh3
     clear hsh2
     try simp only [Act.put, List.getElem_toArray, List.getElem_cons_zero, List.getElem_cons_succ, List.setIfInBounds_toArray, List.set_cons_zero, List.set_cons_succ]
     refine anyU_tk 60 (i := 3) (v := ?_) rfl (fun _ _ _ h => h) (YieldsS.of_if (Or.inl ⟨by rfl, ?_⟩)) ?_
     rotate_left
     · (intro wS hSw; (try dsimp only at hSw); have c17 : wS.cell? ⟨p, 17, none⟩ = some (.slice (some ⟨gc1, 0, none⟩) S.N S.N) := (by have := hSw.2.c17; rw [hN1] at this; exact this); clear hSw; (first | (go_simp; done) | (go_simp; with_reducible rfl)))
     intro hsh4
     clear hsh3
     try simp only [Act.put, List.getElem_toArray, List.getElem_cons_zero, List.getElem_cons_succ, List.setIfInBounds_toArray, List.set_cons_zero, List.set_cons_succ]
     refine anyU_tk 60 (i := 4) (v := ?_) rfl (fun _ _ _ h => h) (YieldsS.of_if (Or.inl ⟨by rfl, ?_⟩)) ?_
     rotate_left
     · (intro wS hSw; (try dsimp only at hSw); (first | (go_simp; done) | (go_simp; with_reducible rfl)))
     intro hsh5
     clear hsh4
     try simp only [Act.put, List.getElem_toArray, List.getElem_cons_zero, List.getElem_cons_succ, List.setIfInBounds_toArray, List.set_cons_zero, List.set_cons_succ]
     refine anyU_tk 60 (i := 5) (v := ?_) rfl (fun _ _ _ h => h) (YieldsS.of_if (Or.inl ⟨by rfl, ?_⟩)) ?_
     rotate_left
     · (intro wS hSw; (try dsimp only at hSw); have v0 : wS.cell? ⟨g5, 0, none⟩ = some (.bool ab1) := hSw.1.b5.val (i := 0) rfl; have v1 : wS.cell? ⟨g5, 1, none⟩ = some (.int .i64 fi1) := hSw.1.b5.val (i := 1) rfl; have v2 : wS.cell? ⟨g5, 2, none⟩ = some (.bool dr1) := hSw.1.b5.val (i := 2) rfl; have v3 : wS.cell? ⟨g5, 3, none⟩ = some (.int .i64 ne1) := hSw.1.b5.val (i := 3) rfl; have v4 : wS.cell? ⟨g5, 4, none⟩ = some (.int .u64 co1) := hSw.1.b5.val (i := 4) rfl; have v5 : wS.cell? ⟨g5, 5, none⟩ = some (.int .u64 la1) := hSw.1.b5.val (i := 5) rfl; clear hSw; (first | (go_simp; done) | (go_simp; with_reducible rfl)))
     intro hsh6
     clear hsh5
     try simp only [Act.put, List.getElem_toArray, List.getElem_cons_zero, List.getElem_cons_succ, List.setIfInBounds_toArray, List.set_cons_zero, List.set_cons_succ]
     refine anyU_tk 60 (i := 6) (v := ?_) rfl (fun _ _ _ h => h) (YieldsS.of_if (Or.inl ⟨by rfl, ?_⟩)) ?_
     rotate_left
     · (intro wS hSw; (try dsimp only at hSw); (first | (go_simp; done) | (go_simp; with_reducible rfl)))
     intro hsh7
     clear hsh6
     try simp only [Act.put, List.getElem_toArray, List.getElem_cons_zero, List.getElem_cons_succ, List.setIfInBounds_toArray, List.set_cons_zero, List.set_cons_succ]
     refine anyU_last (i := 7) (by kernel_rfl) (by kernel_rfl) (fun wS hSw _ => ?_)
     refine last_op rfl (by rfl) (by kernel_rfl) ?_
     obtain ⟨x0, x1, x2, x3, x4, x5, hrow⟩ : ∃ x0 x1 x2 x3 x4 x5, cRow ((S1).cod t) = [x0, x1, x2, x3, x4, x5] := ⟨_, _, _, _, _, _, rfl⟩
     have m0 : wS.cell? ⟨gc1, t * 6 + 0, none⟩ = some x0 := hSw.2.cod.at_ (by rw [hN1]; exact ht) (by omega) (by rw [hrow]; rfl)
     have m1 : wS.cell? ⟨gc1, t * 6 + 1, none⟩ = some x1 := hSw.2.cod.at_ (by rw [hN1]; exact ht) (by omega) (by rw [hrow]; rfl)
     have m2 : wS.cell? ⟨gc1, t * 6 + 2, none⟩ = some x2 := hSw.2.cod.at_ (by rw [hN1]; exact ht) (by omega) (by rw [hrow]; rfl)
     have m3 : wS.cell? ⟨gc1, t * 6 + 3, none⟩ = some x3 := hSw.2.cod.at_ (by rw [hN1]; exact ht) (by omega) (by rw [hrow]; rfl)
     have m4 : wS.cell? ⟨gc1, t * 6 + 4, none⟩ = some x4 := hSw.2.cod.at_ (by rw [hN1]; exact ht) (by omega) (by rw [hrow]; rfl)
     have m5 : wS.cell? ⟨gc1, t * 6 + 5, none⟩ = some x5 := hSw.2.cod.at_ (by rw [hN1]; exact ht) (by omega) (by rw [hrow]; rfl)
     (try simp only [Nat.add_zero] at m0 m1 m2 m3 m4 m5)
     have zf := hSw.2.cod.free
     have HS := Lib.hid hSw
     clear hSw hrow
     unfold Oper.wp
     go_simp
     have hF := HS.out.1.out HS.out.2 HO1.out (by rw [hN1]; exact ht) hok1
     rw [(show codS S1 t ⟨ab1, fi1, dr1, ne1, co1, la1⟩ = thinS S t from by unfold thinS; rw [HTH.out, ← HGO.out]; obtain ⟨f, rfl⟩ : ∃ f, gk = f + 1 := ⟨gk - 1, by omega⟩; unfold thinGo; rw [if_pos rfl])] at hF
     unfold put6 at hF
     have HF := Lib.hid hF
     clear hF zf m0 m1 m2 m3 m4 m5
     refine NoPanic.normal ?_
     go_wp2
     exact bodyPost_end (results_none rfl _ _ _) rfl ⟨⟨_, rfl⟩, HF.out⟩
   · have hdn : ¬ d1 = 0 := hd0
     obtain ⟨h2, h12⟩ : 1 < gk ∧ (d1 = 1 ∨ d1 = 2) := by rcases hdec with e | e; exact absurd e hd0; exact e
     have ht1 : t < S1.N := by rw [hN1]; exact ht
     have hgl : 0 < (S1.q.L t).length := by rw [← HGH.out]; omega
     have hl := HT.out.co.last_of ht1 hgl
     by_cases hu : lastE S1 = t
     · rw [hu] at hl
       go_wp2_with fail
       refine (co_shed_no HT.out.co hl).mono ?_
       rintro e wn ⟨rfl, rfl⟩
       obtain ⟨f, hf⟩ : ∃ f, gk = f + 1 := ⟨gk - 1, by omega⟩
       obtain ⟨c1, hc1⟩ : ∃ c, canI S1 t = c := ⟨_, rfl⟩
       have hm1 := HT.out.co.mem ht1 (canI_mem hgl)
       have hlen := settle_len (why := 5) HT.out.co.lists ht1 (canI_mem hgl)
       rw [hc1] at hm1 hlen
       obtain ⟨x1, hx1⟩ : ∃ x, S1.q.H c1 = x := ⟨_, rfl⟩
       obtain ⟨S2, hS2⟩ : ∃ s, settleS S1 c1 5 = s := ⟨_, rfl⟩
       have hlen2 : (S2.q.L t).length = f := by rw [← hS2, hlen, ← HGH.out]; omega
       have e2N : S2.N = S.N := by rw [← hS2]; exact hN1
       have e2c : S2.cf = S.cf := by rw [← hS2]; exact hcf1
       have e2k : S2.clk = S.clk := by rw [← hS2]; exact hclk1'
       have e2K : S2.K = S.K := by rw [← hS2]; exact hK1
       have ht2 : t < S2.N := by rw [e2N]; exact ht
       have hgl2 : 0 < (S2.q.L t).length := by omega
       have HGO2 : Hid (thinGo t (f + 1) S1 ⟨ab1, fi1, dr1, ne1, co1, la1⟩ d1 = thinGo t (S.q.L t).length S st d) := Lib.hid (by rw [← hf]; exact HGO.out)
       have HC1 := Lib.hid hc1
       have HX1 := Lib.hid hx1
       have HS2 := Lib.hid hS2
       have HM1 := Lib.hid hm1
       have HL2 := Lib.hid hlen2
       have HGL := Lib.hid hgl
       have HGL2 := Lib.hid hgl2
       clear hl hc1 hx1 hS2 hm1 hlen hlen2 hgl hgl2 HGO
       go_wp2_with fail
       refine (co_candidate HT.out.co ht1 HGL.out).mono ?_
       rw [HC1.out, HX1.out]
       rintro e w3 ⟨rfl, hb3⟩
       have HT3 := Lib.hid (HT.out.below hb3)
       clear hb3 HT
       go_wp2_with fail
       refine (co_settle HT3.out.co HM1.out.1 HM1.out.2.1 HX1.out (by rw [hK1]; exact hK) (by omega) (by omega)).mono ?_
       rw [HS2.out]
       rintro e w4 ⟨rfl, hst⟩
       obtain ⟨O2, hT4⟩ := HT3.out.step hst
       have HT := Lib.hid hT4
       clear hst hT4 HT3
       obtain ⟨c2, hc2⟩ : ∃ c, canI S2 t = c := ⟨_, rfl⟩
       have hm2 := HT.out.co.mem ht2 (canI_mem HGL2.out)
       rw [hc2] at hm2
       obtain ⟨x2, hx2⟩ : ∃ x, S2.q.H c2 = x := ⟨_, rfl⟩
       obtain ⟨y2, hy2⟩ : ∃ y, sat (S2.clk - (S2.q.R c2).e) = y := ⟨_, rfl⟩
       obtain ⟨k2, hk2⟩ : ∃ k : Int, ((S2.q.L t).length : Int) = k := ⟨_, rfl⟩
       obtain ⟨b2, hb2⟩ : ∃ b, highB ta y2 k2 = b := ⟨_, rfl⟩
       have hr2 : rowE S2.N S2.q.L (t : Int) = S2.q.L t := rowE_at ht2
       have hbo2 : hbOf S2 t = b2 := by unfold hbOf; rw [hc2, hy2, hk2, e2c, HCF.out]; exact hb2
       obtain ⟨q2, gc2, gm2, l2, r2, Oq2, hB2, hO2⟩ := HT.out.co.cells
       have HB2 := Lib.hid hB2
       have HO2 := Lib.hid hO2
       have HC2 := Lib.hid hc2
       have HM2 := Lib.hid hm2
       have HX2 := Lib.hid hx2
       have HY2 := Lib.hid hy2
       have HK2 := Lib.hid hk2
       have HHB2 := Lib.hid hb2
       have HR2 := Lib.hid hr2
       have HBO2 := Lib.hid hbo2
       clear hB2 hO2 hc2 hm2 hx2 hy2 hk2 hb2 hr2 hbo2
       go_upto_region 5 with fail
       refine wp_region_noPanic ?_
       refine wp_region_U (fun w' => Thin w w' p g4 g5 O S2 ta iv ⟨ab1, fi1, dr1, ne1, co1, la1⟩ O2 ∧ CoreB w' p q2 gc2 gm2 l2 r2 Oq2 S2) [] [] (by kernel_rfl) (⟨HT.out.below ((Below.refl _ _).drew), HB2.out.below ((Below.refl _ _).drew)⟩) ?_
       intro hsh0
       skip
       refine anyU_tk 60 (i := 0) (v := ?_) rfl (fun _ _ _ h => h) (YieldsS.of_if (Or.inl ⟨by rfl, ?_⟩)) ?_
       rotate_left
       · (intro wS hSw; (try dsimp only at hSw); (first | (go_simp; done) | (go_simp; with_reducible rfl)))
       intro hsh1
       clear hsh0
       try simp only [Act.put, List.getElem_toArray, List.getElem_cons_zero, List.getElem_cons_succ, List.setIfInBounds_toArray, List.set_cons_zero, List.set_cons_succ]
       refine anyU_tk 60 (i := 1) (v := ?_) rfl (fun _ _ _ h => h) (YieldsS.of_if (Or.inl ⟨by rfl, ?_⟩)) ?_
       rotate_left
       · (intro wS hSw; (try dsimp only at hSw); (first | (go_simp; done) | (go_simp; with_reducible rfl)))
       intro hsh2
       clear hsh1
       try simp only [Act.put, List.getElem_toArray, List.getElem_cons_zero, List.getElem_cons_succ, List.setIfInBounds_toArray, List.set_cons_zero, List.set_cons_succ]
       refine anyU_tk 60 (i := 2) (v := ?_) rfl (fun _ _ _ h => h) (YieldsS.of_if (Or.inl ⟨by rfl, ?_⟩)) ?_
       rotate_left
       · (intro wS hSw; (try dsimp only at hSw); (first | (go_simp; done) | (go_simp; with_reducible rfl)))
       intro hsh3
       clear hsh2
       try simp only [Act.put, List.getElem_toArray, List.getElem_cons_zero, List.getElem_cons_succ, List.setIfInBounds_toArray, List.set_cons_zero, List.set_cons_succ]
       refine anyU_tk 60 (i := 3) (v := .int .u64 x2) rfl (fun _ _ _ h => h) (YieldsS.of_call (by rfl) (f := 129) (args := #[.pointer (some ⟨p, 0, none⟩), .int .i64 (t : Int)]) (fun wS hSw => by first | rfl | (go_simp; done)) (fun wS hSw => ?_)) ?_
       · refine (co_candidate hSw.1.co ht2 HGL2.out).mono ?_; rw [HC2.out, HX2.out]; rintro e wn ⟨rfl, hb⟩; exact ⟨rfl, ⟨hSw.1.below hb, hSw.2.below hb⟩, hb⟩
       intro hsh4
       clear hsh3
       try simp only [Act.put, List.getElem_toArray, List.getElem_cons_zero, List.getElem_cons_succ, List.setIfInBounds_toArray, List.set_cons_zero, List.set_cons_succ]
       refine anyU_tk 60 (i := 4) (v := .int .i64 y2) rfl (fun _ _ _ h => h) (YieldsS.of_call (by rfl) (f := 119) (args := #[.pointer (some ⟨p, 0, none⟩), .int .u64 x2]) (fun wS hSw => by first | rfl | (go_simp; done)) (fun wS hSw => ?_)) ?_
       · refine (co_waited hSw.1.co HM2.out.1 HM2.out.2.1 HX2.out (by rw [e2K]; exact hK)).mono ?_; rw [HY2.out]; rintro e wn ⟨rfl, hb⟩; exact ⟨rfl, ⟨hSw.1.below hb, hSw.2.below hb⟩, hb⟩
       intro hsh5
       clear hsh4
       try simp only [Act.put, List.getElem_toArray, List.getElem_cons_zero, List.getElem_cons_succ, List.setIfInBounds_toArray, List.set_cons_zero, List.set_cons_succ]
       refine anyU_tk 60 (i := 5) (v := ?_) rfl (fun _ _ _ h => h) (YieldsS.of_if (Or.inl ⟨by rfl, ?_⟩)) ?_
       rotate_left
       · (intro wS hSw; (try dsimp only at hSw); (first | (go_simp; done) | (go_simp; with_reducible rfl)))
       intro hsh6
       clear hsh5
       try simp only [Act.put, List.getElem_toArray, List.getElem_cons_zero, List.getElem_cons_succ, List.setIfInBounds_toArray, List.set_cons_zero, List.set_cons_succ]
       refine anyU_tk 60 (i := 6) (v := ?_) rfl (fun _ _ _ h => h) (YieldsS.of_if (Or.inl ⟨by rfl, ?_⟩)) ?_
       rotate_left
       · (intro wS hSw; (try dsimp only at hSw); (first | (go_simp; done) | (go_simp; with_reducible rfl)))
       intro hsh7
       clear hsh6
       try simp only [Act.put, List.getElem_toArray, List.getElem_cons_zero, List.getElem_cons_succ, List.setIfInBounds_toArray, List.set_cons_zero, List.set_cons_succ]
       refine anyU_tk 60 (i := 7) (v := ?_) rfl (fun _ _ _ h => h) (YieldsS.of_if (Or.inl ⟨by rfl, ?_⟩)) ?_
       rotate_left
       · (intro wS hSw; (try dsimp only at hSw); (first | (go_simp; done) | (go_simp; with_reducible rfl)))
       intro hsh8
       clear hsh7
       try simp only [Act.put, List.getElem_toArray, List.getElem_cons_zero, List.getElem_cons_succ, List.setIfInBounds_toArray, List.set_cons_zero, List.set_cons_succ]
       refine anyU_tk 60 (i := 8) (v := ?_) rfl (fun _ _ _ h => h) (YieldsS.of_if (Or.inl ⟨by rfl, ?_⟩)) ?_
       rotate_left
       · (intro wS hSw; (try dsimp only at hSw); have c16 := hSw.2.c16; clear hSw; (first | (go_simp; done) | (go_simp; with_reducible rfl)))
       intro hsh9
       clear hsh8
       try simp only [Act.put, List.getElem_toArray, List.getElem_cons_zero, List.getElem_cons_succ, List.setIfInBounds_toArray, List.set_cons_zero, List.set_cons_succ]
       refine anyU_tk 60 (i := 9) (v := ?_) rfl (fun _ _ _ h => h) (YieldsS.of_if (Or.inl ⟨by rfl, ?_⟩)) ?_
       rotate_left
       · (intro wS hSw; (try dsimp only at hSw); (first | (go_simp; done) | (go_simp; with_reducible rfl)))
       intro hsh10
       clear hsh9
       try simp only [Act.put, List.getElem_toArray, List.getElem_cons_zero, List.getElem_cons_succ, List.setIfInBounds_toArray, List.set_cons_zero, List.set_cons_succ]
       refine anyU_tk 60 (i := 10) (v := .int .i64 k2) rfl (fun _ _ _ h => h) (YieldsS.of_call (by rfl) (f := 173) (args := #[.pointer (some ⟨q2, 0, none⟩), .int .i64 (t : Int)]) (fun wS hSw => by first | rfl | (go_simp; done)) (fun wS hSw => ?_)) ?_
       · refine (tqo_count (t : Int) hSw.2.que).mono ?_; rw [HR2.out, HK2.out]; rintro e wn ⟨rfl, rfl⟩; exact ⟨rfl, hSw, Below.refl _ _⟩
       intro hsh11
       clear hsh10
       try simp only [Act.put, List.getElem_toArray, List.getElem_cons_zero, List.getElem_cons_succ, List.setIfInBounds_toArray, List.set_cons_zero, List.set_cons_succ]
       refine anyU_tk 60 (i := 11) (v := ?_) rfl (fun _ _ _ h => h) (YieldsS.of_if (Or.inl ⟨by rfl, ?_⟩)) ?_
       rotate_left
       · (intro wS hSw; (try dsimp only at hSw); (first | (go_simp; done) | (go_simp; with_reducible rfl)))
       intro hsh12
       clear hsh11
       try simp only [Act.put, List.getElem_toArray, List.getElem_cons_zero, List.getElem_cons_succ, List.setIfInBounds_toArray, List.set_cons_zero, List.set_cons_succ]
       refine anyU_tk 60 (i := 12) (v := ?_) rfl (fun _ _ _ h => h) (YieldsS.of_if (Or.inl ⟨by rfl, ?_⟩)) ?_
       rotate_left
       · (intro wS hSw; (try dsimp only at hSw); (first | (go_simp; done) | (go_simp; with_reducible rfl)))
       intro hsh13
       clear hsh12
       try simp only [Act.put, List.getElem_toArray, List.getElem_cons_zero, List.getElem_cons_succ, List.setIfInBounds_toArray, List.set_cons_zero, List.set_cons_succ]
       refine anyU_done (by kernel_rfl) (fun w5 hS5 _ => ?_) _
       have HT5 := Lib.hid hS5.1
       have HB5 := Lib.hid hS5.2
       clear hS5 HT HB2
       refine NoPanic.normal ?_
       have HT := HT5
       have HB2 := HB5
       clear HT5 HB5
       by_cases hd2 : d1 = 2
       · subst hd2
         go_upto_region 7 with fail
         obtain ⟨z, hz⟩ : ∃ z, noteC ⟨ab1, fi1, dr1, ne1, co1, la1⟩ iv clk b2 = z := ⟨_, rfl⟩
         have hok2 : z.ok := by rw [← hz]; exact note_ok hok1 iv clk b2
         obtain ⟨ab2, fi2, dr2, ne2, co2, la2⟩ := z
         have HZ2 := Lib.hid hz
         clear hz
         refine wp_region_noPanic ?_
         refine wp_region_U (fun w' => Thin w w' p g4 g5 O S2 ta iv ⟨ab1, fi1, dr1, ne1, co1, la1⟩ O2 ∧ CoreB w' p q2 gc2 gm2 l2 r2 Oq2 S2) [] [9] (by kernel_rfl) (⟨HT.out.below ((Below.refl _ _).drew), HB2.out.below ((Below.refl _ _).drew)⟩) ?_
         intro hsh0
         skip
         refine anyU_tk 60 (i := 0) (v := ?_) rfl (fun _ _ _ h => h) (YieldsS.of_if (Or.inl ⟨by rfl, ?_⟩)) ?_
         rotate_left
         · (intro wS hSw; (try dsimp only at hSw); have v0 : wS.cell? ⟨g5, 0, none⟩ = some (.bool ab1) := hSw.1.b5.val (i := 0) rfl; have v1 : wS.cell? ⟨g5, 1, none⟩ = some (.int .i64 fi1) := hSw.1.b5.val (i := 1) rfl; have v2 : wS.cell? ⟨g5, 2, none⟩ = some (.bool dr1) := hSw.1.b5.val (i := 2) rfl; have v3 : wS.cell? ⟨g5, 3, none⟩ = some (.int .i64 ne1) := hSw.1.b5.val (i := 3) rfl; have v4 : wS.cell? ⟨g5, 4, none⟩ = some (.int .u64 co1) := hSw.1.b5.val (i := 4) rfl; have v5 : wS.cell? ⟨g5, 5, none⟩ = some (.int .u64 la1) := hSw.1.b5.val (i := 5) rfl; clear hSw; (first | (go_simp; done) | (go_simp; with_reducible rfl)))
         intro hsh1
         clear hsh0
         try simp only [Act.put, List.getElem_toArray, List.getElem_cons_zero, List.getElem_cons_succ, List.setIfInBounds_toArray, List.set_cons_zero, List.set_cons_succ]
         refine anyU_tk 60 (i := 1) (v := ?_) rfl (fun _ _ _ h => h) (YieldsS.of_if (Or.inl ⟨by rfl, ?_⟩)) ?_
         rotate_left
         · (intro wS hSw; (try dsimp only at hSw); have u0 : wS.cell? ⟨g4, 0, none⟩ = some (.int .i64 ta) := hSw.1.b4.val (i := 0) rfl; have u1 : wS.cell? ⟨g4, 1, none⟩ = some (.int .i64 iv) := hSw.1.b4.val (i := 1) rfl; clear hSw; (first | (go_simp; done) | (go_simp; with_reducible rfl)))
         intro hsh2
         clear hsh1
         try simp only [Act.put, List.getElem_toArray, List.getElem_cons_zero, List.getElem_cons_succ, List.setIfInBounds_toArray, List.set_cons_zero, List.set_cons_succ]
         refine anyU_tk 60 (i := 2) (v := ?_) rfl (fun _ _ _ h => h) (YieldsS.of_if (Or.inl ⟨by rfl, ?_⟩)) ?_
         rotate_left
         · (intro wS hSw; (try dsimp only at hSw); (first | (go_simp; done) | (go_simp; with_reducible rfl)))
         intro hsh3
         clear hsh2
         try simp only [Act.put, List.getElem_toArray, List.getElem_cons_zero, List.getElem_cons_succ, List.setIfInBounds_toArray, List.set_cons_zero, List.set_cons_succ]
         refine anyU_tk 60 (i := 3) (v := ?_) rfl (fun _ _ _ h => h) (YieldsS.of_if (Or.inl ⟨by rfl, ?_⟩)) ?_
         rotate_left
         · (intro wS hSw; (try dsimp only at hSw); (first | (go_simp; done) | (go_simp; with_reducible rfl)))
         intro hsh4
         clear hsh3
         try simp only [Act.put, List.getElem_toArray, List.getElem_cons_zero, List.getElem_cons_succ, List.setIfInBounds_toArray, List.set_cons_zero, List.set_cons_succ]
         refine anyU_tk 60 (i := 4) (v := ?_) rfl (fun _ _ _ h => h) (YieldsS.of_if (Or.inl ⟨by rfl, ?_⟩)) ?_
         rotate_left
         · (intro wS hSw; (try dsimp only at hSw); (first | (go_simp; done) | (go_simp; with_reducible rfl)))
         intro hsh5
         clear hsh4
         try simp only [Act.put, List.getElem_toArray, List.getElem_cons_zero, List.getElem_cons_succ, List.setIfInBounds_toArray, List.set_cons_zero, List.set_cons_succ]
         refine anyU_tk 60 (i := 5) (v := ?_) rfl (fun _ _ _ h => h) (YieldsS.of_if (Or.inl ⟨by rfl, ?_⟩)) ?_
         rotate_left
         · (intro wS hSw; (try dsimp only at hSw); have c25 := hSw.2.c25; rw [e2k, HCLK.out] at c25; clear hSw; (first | (go_simp; done) | (go_simp; with_reducible rfl)))
         intro hsh6
         clear hsh5
         try simp only [Act.put, List.getElem_toArray, List.getElem_cons_zero, List.getElem_cons_succ, List.setIfInBounds_toArray, List.set_cons_zero, List.set_cons_succ]
         refine anyU_tk 60 (i := 6) (v := ?_) rfl (fun _ _ _ h => h) (YieldsS.of_if (Or.inl ⟨by rfl, ?_⟩)) ?_
         rotate_left
         · (intro wS hSw; (try dsimp only at hSw); (first | (go_simp; done) | (go_simp; with_reducible rfl)))
         intro hsh7
         clear hsh6
         try simp only [Act.put, List.getElem_toArray, List.getElem_cons_zero, List.getElem_cons_succ, List.setIfInBounds_toArray, List.set_cons_zero, List.set_cons_succ]
         refine anyU_tk 60 (i := 7) (v := ?_) rfl (fun _ _ _ h => h) (YieldsS.of_if (Or.inl ⟨by rfl, ?_⟩)) ?_
         rotate_left
         · (intro wS hSw; (try dsimp only at hSw); (first | (go_simp; done) | (go_simp; with_reducible rfl)))
         intro hsh8
         clear hsh7
         try simp only [Act.put, List.getElem_toArray, List.getElem_cons_zero, List.getElem_cons_succ, List.setIfInBounds_toArray, List.set_cons_zero, List.set_cons_succ]
         refine anyU_tk 60 (i := 8) (v := (⟨ab2, fi2, dr2, ne2, co2, la2⟩ : Cst).v) rfl (fun _ _ _ h => h) (YieldsS.of_call (by rfl) (f := 180) (args := #[.agg #[.bool ab1, .int .i64 fi1, .bool dr1, .int .i64 ne1, .int .u64 co1, .int .u64 la1], .agg #[.int .i64 ta, .int .i64 iv], .int .i64 clk, .int .i64 y2, .int .i64 k2]) (fun wS hSw => by first | rfl | (go_simp; done)) (fun wS hSw => ?_)) ?_
         · refine (cnote_any ⟨ab1, fi1, dr1, ne1, co1, la1⟩ ta iv clk y2 k2 b2 HHB2.out wS hclk0 hclk1 hiv0 hiv1).mono ?_; rw [HZ2.out]; rintro e wn ⟨rfl, hb⟩; exact ⟨rfl, ⟨hSw.1.below hb, hSw.2.below hb⟩, hb⟩
         intro hsh9
         clear hsh8
         try simp only [Act.put, List.getElem_toArray, List.getElem_cons_zero, List.getElem_cons_succ, List.setIfInBounds_toArray, List.set_cons_zero, List.set_cons_succ]
         refine anyU_last (i := 9) (by kernel_rfl) (by kernel_rfl) (fun wS hSw _ => ?_)
         refine last_op rfl (by rfl) (by kernel_rfl) ?_
         have v0 : wS.cell? ⟨g5, 0, none⟩ = some (.bool ab1) := hSw.1.b5.val (i := 0) rfl
         have v1 : wS.cell? ⟨g5, 1, none⟩ = some (.int .i64 fi1) := hSw.1.b5.val (i := 1) rfl
         have v2 : wS.cell? ⟨g5, 2, none⟩ = some (.bool dr1) := hSw.1.b5.val (i := 2) rfl
         have v3 : wS.cell? ⟨g5, 3, none⟩ = some (.int .i64 ne1) := hSw.1.b5.val (i := 3) rfl
         have v4 : wS.cell? ⟨g5, 4, none⟩ = some (.int .u64 co1) := hSw.1.b5.val (i := 4) rfl
         have v5 : wS.cell? ⟨g5, 5, none⟩ = some (.int .u64 la1) := hSw.1.b5.val (i := 5) rfl
         have vf := hSw.1.b5.free
         have HS := Lib.hid hSw
         clear hSw
         unfold Oper.wp
         go_simp
         have hT6 := HS.out.1.put ⟨ab2, fi2, dr2, ne2, co2, la2⟩
         obtain ⟨w6, hw6⟩ : ∃ w6, put6 wS g5 0 ⟨ab2, fi2, dr2, ne2, co2, la2⟩ = w6 := ⟨_, rfl⟩
         have hw6' := hw6
         unfold put6 at hw6'
         simp only [Nat.zero_add] at hw6'
         rw [hw6'] at *
         rw [hw6] at hT6
         have HT6 := Lib.hid hT6
         clear hT6 hw6 hw6' v0 v1 v2 v3 v4 v5 vf HS HT HB2
         have HT := HT6
         clear HT6
         refine NoPanic.normal ?_
         clear hok1
         have hok1 := hok2
         clear hN1
         have hN1 := e2N
         obtain ⟨O1, hO1e⟩ : ∃ o, o = O2 := ⟨_, rfl⟩
         rw [← hO1e] at HT
         obtain ⟨q1, gc1, gm1, l1, r1, Oq1, hB1, hO1⟩ := HT.out.co.cells
         have HB1 := Lib.hid hB1
         have HO1 := Lib.hid hO1
         clear hB1 hO1
         go_upto_region 9 with fail
         refine wp_region_noPanic ?_
         refine wp_region_U (fun w' => Thin w w' p g4 g5 O S2 ta iv ⟨ab2, fi2, dr2, ne2, co2, la2⟩ O1 ∧ CoreB w' p q1 gc1 gm1 l1 r1 Oq1 S2) [] [7] (by kernel_rfl) (⟨HT.out.below ((Below.refl _ _).drew), HB1.out.below ((Below.refl _ _).drew)⟩) ?_
         intro hsh0
         skip
         refine anyU_tk 60 (i := 0) (v := ?_) rfl (fun _ _ _ h => h) (YieldsS.of_if (Or.inl ⟨by rfl, ?_⟩)) ?_
         rotate_left
         · (intro wS hSw; (try dsimp only at hSw); (first | (go_simp; done) | (go_simp; with_reducible rfl)))
         intro hsh1
         clear hsh0
         try simp only [Act.put, List.getElem_toArray, List.getElem_cons_zero, List.getElem_cons_succ, List.setIfInBounds_toArray, List.set_cons_zero, List.set_cons_succ]
         refine anyU_tk 60 (i := 1) (v := ?_) rfl (fun _ _ _ h => h) (YieldsS.of_if (Or.inl ⟨by rfl, ?_⟩)) ?_
         rotate_left
         · (intro wS hSw; (try dsimp only at hSw); (first | (go_simp; done) | (go_simp; with_reducible rfl)))
         intro hsh2
         clear hsh1
         try simp only [Act.put, List.getElem_toArray, List.getElem_cons_zero, List.getElem_cons_succ, List.setIfInBounds_toArray, List.set_cons_zero, List.set_cons_succ]
         refine anyU_tk 60 (i := 2) (v := ?_) rfl (fun _ _ _ h => h) (YieldsS.of_if (Or.inl ⟨by rfl, ?_⟩)) ?_
         rotate_left
         · (intro wS hSw; (try dsimp only at hSw); (first | (go_simp; done) | (go_simp; with_reducible rfl)))
         intro hsh3
         clear hsh2
         try simp only [Act.put, List.getElem_toArray, List.getElem_cons_zero, List.getElem_cons_succ, List.setIfInBounds_toArray, List.set_cons_zero, List.set_cons_succ]
         refine anyU_tk 60 (i := 3) (v := ?_) rfl (fun _ _ _ h => h) (YieldsS.of_if (Or.inl ⟨by rfl, ?_⟩)) ?_
         rotate_left
         · (intro wS hSw; (try dsimp only at hSw); have c17 : wS.cell? ⟨p, 17, none⟩ = some (.slice (some ⟨gc1, 0, none⟩) S.N S.N) := (by have := hSw.2.c17; rw [hN1] at this; exact this); clear hSw; (first | (go_simp; done) | (go_simp; with_reducible rfl)))
         intro hsh4
         clear hsh3
         try simp only [Act.put, List.getElem_toArray, List.getElem_cons_zero, List.getElem_cons_succ, List.setIfInBounds_toArray, List.set_cons_zero, List.set_cons_succ]
         refine anyU_tk 60 (i := 4) (v := ?_) rfl (fun _ _ _ h => h) (YieldsS.of_if (Or.inl ⟨by rfl, ?_⟩)) ?_
         rotate_left
         · (intro wS hSw; (try dsimp only at hSw); (first | (go_simp; done) | (go_simp; with_reducible rfl)))
         intro hsh5
         clear hsh4
         try simp only [Act.put, List.getElem_toArray, List.getElem_cons_zero, List.getElem_cons_succ, List.setIfInBounds_toArray, List.set_cons_zero, List.set_cons_succ]
         refine anyU_tk 60 (i := 5) (v := ?_) rfl (fun _ _ _ h => h) (YieldsS.of_if (Or.inl ⟨by rfl, ?_⟩)) ?_
         rotate_left
         · (intro wS hSw; (try dsimp only at hSw); have v0 : wS.cell? ⟨g5, 0, none⟩ = some (.bool ab2) := hSw.1.b5.val (i := 0) rfl; have v1 : wS.cell? ⟨g5, 1, none⟩ = some (.int .i64 fi2) := hSw.1.b5.val (i := 1) rfl; have v2 : wS.cell? ⟨g5, 2, none⟩ = some (.bool dr2) := hSw.1.b5.val (i := 2) rfl; have v3 : wS.cell? ⟨g5, 3, none⟩ = some (.int .i64 ne2) := hSw.1.b5.val (i := 3) rfl; have v4 : wS.cell? ⟨g5, 4, none⟩ = some (.int .u64 co2) := hSw.1.b5.val (i := 4) rfl; have v5 : wS.cell? ⟨g5, 5, none⟩ = some (.int .u64 la2) := hSw.1.b5.val (i := 5) rfl; clear hSw; (first | (go_simp; done) | (go_simp; with_reducible rfl)))
         intro hsh6
         clear hsh5
         try simp only [Act.put, List.getElem_toArray, List.getElem_cons_zero, List.getElem_cons_succ, List.setIfInBounds_toArray, List.set_cons_zero, List.set_cons_succ]
         refine anyU_tk 60 (i := 6) (v := ?_) rfl (fun _ _ _ h => h) (YieldsS.of_if (Or.inl ⟨by rfl, ?_⟩)) ?_
         rotate_left
         · (intro wS hSw; (try dsimp only at hSw); (first | (go_simp; done) | (go_simp; with_reducible rfl)))
         intro hsh7
         clear hsh6
         try simp only [Act.put, List.getElem_toArray, List.getElem_cons_zero, List.getElem_cons_succ, List.setIfInBounds_toArray, List.set_cons_zero, List.set_cons_succ]
         refine anyU_last (i := 7) (by kernel_rfl) (by kernel_rfl) (fun wS hSw _ => ?_)
         refine last_op rfl (by rfl) (by kernel_rfl) ?_
         obtain ⟨x0, x1, x2, x3, x4, x5, hrow⟩ : ∃ x0 x1 x2 x3 x4 x5, cRow ((S2).cod t) = [x0, x1, x2, x3, x4, x5] := ⟨_, _, _, _, _, _, rfl⟩
         have m0 : wS.cell? ⟨gc1, t * 6 + 0, none⟩ = some x0 := hSw.2.cod.at_ (by rw [hN1]; exact ht) (by omega) (by rw [hrow]; rfl)
         have m1 : wS.cell? ⟨gc1, t * 6 + 1, none⟩ = some x1 := hSw.2.cod.at_ (by rw [hN1]; exact ht) (by omega) (by rw [hrow]; rfl)
         have m2 : wS.cell? ⟨gc1, t * 6 + 2, none⟩ = some x2 := hSw.2.cod.at_ (by rw [hN1]; exact ht) (by omega) (by rw [hrow]; rfl)
         have m3 : wS.cell? ⟨gc1, t * 6 + 3, none⟩ = some x3 := hSw.2.cod.at_ (by rw [hN1]; exact ht) (by omega) (by rw [hrow]; rfl)
         have m4 : wS.cell? ⟨gc1, t * 6 + 4, none⟩ = some x4 := hSw.2.cod.at_ (by rw [hN1]; exact ht) (by omega) (by rw [hrow]; rfl)
         have m5 : wS.cell? ⟨gc1, t * 6 + 5, none⟩ = some x5 := hSw.2.cod.at_ (by rw [hN1]; exact ht) (by omega) (by rw [hrow]; rfl)
         (try simp only [Nat.add_zero] at m0 m1 m2 m3 m4 m5)
         have zf := hSw.2.cod.free
         have HS := Lib.hid hSw
         clear hSw hrow
         unfold Oper.wp
         go_simp
         have hF := HS.out.1.out HS.out.2 HO1.out (by rw [hN1]; exact ht) hok1
         rw [(show codS S2 t ⟨ab2, fi2, dr2, ne2, co2, la2⟩ = thinS S t from by unfold thinS; rw [HTH.out, ← HGO2.out]; unfold thinGo; rw [if_neg (by omega), if_pos hu, if_pos rfl, HC1.out, HS2.out, HBO2.out, hcf1, HCF.out, hclk1', HCLK.out]; show _ = codS S2 t (noteC ⟨ab1, fi1, dr1, ne1, co1, la1⟩ iv clk b2); rw [HZ2.out])] at hF
         unfold put6 at hF
         have HF := Lib.hid hF
         clear hF zf m0 m1 m2 m3 m4 m5
         refine NoPanic.normal ?_
         go_wp2
         exact bodyPost_end (results_none rfl _ _ _) rfl ⟨⟨_, rfl⟩, HF.out⟩
       · have hd1 : d1 = 1 := by omega
         have hd2' : ¬ d1 = 2 := hd2
         go_upto_region 8 with fail
         obtain ⟨z, hz⟩ : ∃ z, moreC ⟨ab1, fi1, dr1, ne1, co1, la1⟩ iv clk b2 = z := ⟨_, rfl⟩
         obtain ⟨z, d2⟩ := z
         have hok2 : z.ok := by have := more_ok hok1 iv clk b2; rw [hz] at this; exact this
         have hdm := more_dec ⟨ab1, fi1, dr1, ne1, co1, la1⟩ iv clk b2
         rw [hz] at hdm
         have hdm2 : d2 = 0 ∨ 1 < f ∧ (d2 = 1 ∨ d2 = 2) := by
           rcases hdm with e | ⟨e1, e2⟩
           · exact .inl e
           · refine .inr ⟨?_, .inl e2⟩
             rw [← HHB2.out, ← HK2.out, HL2.out] at e1
             exact highB_two e1
         obtain ⟨ab2, fi2, dr2, ne2, co2, la2⟩ := z
         have HZ2 := Lib.hid hz
         have HDM := Lib.hid hdm2
         clear hz hdm hdm2
         refine wp_region_noPanic ?_
         refine wp_region_U (fun w' => Thin w w' p g4 g5 O S2 ta iv ⟨ab1, fi1, dr1, ne1, co1, la1⟩ O2 ∧ CoreB w' p q2 gc2 gm2 l2 r2 Oq2 S2) [] [12] (by kernel_rfl) (⟨HT.out.below ((Below.refl _ _).drew), HB2.out.below ((Below.refl _ _).drew)⟩) ?_
         intro hsh0
         skip
         refine anyU_tk 60 (i := 0) (v := ?_) rfl (fun _ _ _ h => h) (YieldsS.of_if (Or.inl ⟨by rfl, ?_⟩)) ?_
         rotate_left
         · (intro wS hSw; (try dsimp only at hSw); have v0 : wS.cell? ⟨g5, 0, none⟩ = some (.bool ab1) := hSw.1.b5.val (i := 0) rfl; have v1 : wS.cell? ⟨g5, 1, none⟩ = some (.int .i64 fi1) := hSw.1.b5.val (i := 1) rfl; have v2 : wS.cell? ⟨g5, 2, none⟩ = some (.bool dr1) := hSw.1.b5.val (i := 2) rfl; have v3 : wS.cell? ⟨g5, 3, none⟩ = some (.int .i64 ne1) := hSw.1.b5.val (i := 3) rfl; have v4 : wS.cell? ⟨g5, 4, none⟩ = some (.int .u64 co1) := hSw.1.b5.val (i := 4) rfl; have v5 : wS.cell? ⟨g5, 5, none⟩ = some (.int .u64 la1) := hSw.1.b5.val (i := 5) rfl; clear hSw; (first | (go_simp; done) | (go_simp; with_reducible rfl)))
         intro hsh1
         clear hsh0
         try simp only [Act.put, List.getElem_toArray, List.getElem_cons_zero, List.getElem_cons_succ, List.setIfInBounds_toArray, List.set_cons_zero, List.set_cons_succ]
         refine anyU_tk 60 (i := 1) (v := ?_) rfl (fun _ _ _ h => h) (YieldsS.of_if (Or.inl ⟨by rfl, ?_⟩)) ?_
         rotate_left
         · (intro wS hSw; (try dsimp only at hSw); have u0 : wS.cell? ⟨g4, 0, none⟩ = some (.int .i64 ta) := hSw.1.b4.val (i := 0) rfl; have u1 : wS.cell? ⟨g4, 1, none⟩ = some (.int .i64 iv) := hSw.1.b4.val (i := 1) rfl; clear hSw; (first | (go_simp; done) | (go_simp; with_reducible rfl)))
         intro hsh2
         clear hsh1
         try simp only [Act.put, List.getElem_toArray, List.getElem_cons_zero, List.getElem_cons_succ, List.setIfInBounds_toArray, List.set_cons_zero, List.set_cons_succ]
         refine anyU_tk 60 (i := 2) (v := ?_) rfl (fun _ _ _ h => h) (YieldsS.of_if (Or.inl ⟨by rfl, ?_⟩)) ?_
         rotate_left
         · (intro wS hSw; (try dsimp only at hSw); (first | (go_simp; done) | (go_simp; with_reducible rfl)))
         intro hsh3
         clear hsh2
         try simp only [Act.put, List.getElem_toArray, List.getElem_cons_zero, List.getElem_cons_succ, List.setIfInBounds_toArray, List.set_cons_zero, List.set_cons_succ]
         refine anyU_tk 60 (i := 3) (v := ?_) rfl (fun _ _ _ h => h) (YieldsS.of_if (Or.inl ⟨by rfl, ?_⟩)) ?_
         rotate_left
         · (intro wS hSw; (try dsimp only at hSw); (first | (go_simp; done) | (go_simp; with_reducible rfl)))
         intro hsh4
         clear hsh3
         try simp only [Act.put, List.getElem_toArray, List.getElem_cons_zero, List.getElem_cons_succ, List.setIfInBounds_toArray, List.set_cons_zero, List.set_cons_succ]
         refine anyU_tk 60 (i := 4) (v := ?_) rfl (fun _ _ _ h => h) (YieldsS.of_if (Or.inl ⟨by rfl, ?_⟩)) ?_
         rotate_left
         · (intro wS hSw; (try dsimp only at hSw); (first | (go_simp; done) | (go_simp; with_reducible rfl)))
         intro hsh5
         clear hsh4
         try simp only [Act.put, List.getElem_toArray, List.getElem_cons_zero, List.getElem_cons_succ, List.setIfInBounds_toArray, List.set_cons_zero, List.set_cons_succ]
         refine anyU_tk 60 (i := 5) (v := ?_) rfl (fun _ _ _ h => h) (YieldsS.of_if (Or.inl ⟨by rfl, ?_⟩)) ?_
         rotate_left
         · (intro wS hSw; (try dsimp only at hSw); have c25 := hSw.2.c25; rw [e2k, HCLK.out] at c25; clear hSw; (first | (go_simp; done) | (go_simp; with_reducible rfl)))
         intro hsh6
         clear hsh5
         try simp only [Act.put, List.getElem_toArray, List.getElem_cons_zero, List.getElem_cons_succ, List.setIfInBounds_toArray, List.set_cons_zero, List.set_cons_succ]
         refine anyU_tk 60 (i := 6) (v := ?_) rfl (fun _ _ _ h => h) (YieldsS.of_if (Or.inl ⟨by rfl, ?_⟩)) ?_
         rotate_left
         · (intro wS hSw; (try dsimp only at hSw); (first | (go_simp; done) | (go_simp; with_reducible rfl)))
         intro hsh7
         clear hsh6
         try simp only [Act.put, List.getElem_toArray, List.getElem_cons_zero, List.getElem_cons_succ, List.setIfInBounds_toArray, List.set_cons_zero, List.set_cons_succ]
         refine anyU_tk 60 (i := 7) (v := ?_) rfl (fun _ _ _ h => h) (YieldsS.of_if (Or.inl ⟨by rfl, ?_⟩)) ?_
         rotate_left
         · (intro wS hSw; (try dsimp only at hSw); (first | (go_simp; done) | (go_simp; with_reducible rfl)))
         intro hsh8
         clear hsh7
         try simp only [Act.put, List.getElem_toArray, List.getElem_cons_zero, List.getElem_cons_succ, List.setIfInBounds_toArray, List.set_cons_zero, List.set_cons_succ]
         refine anyU_tk 60 (i := 8) (v := .tuple #[(⟨ab2, fi2, dr2, ne2, co2, la2⟩ : Cst).v, .int .i64 d2]) rfl (fun _ _ _ h => h) (YieldsS.of_call (by rfl) (f := 181) (args := #[.agg #[.bool ab1, .int .i64 fi1, .bool dr1, .int .i64 ne1, .int .u64 co1, .int .u64 la1], .agg #[.int .i64 ta, .int .i64 iv], .int .i64 clk, .int .i64 y2, .int .i64 k2]) (fun wS hSw => by first | rfl | (go_simp; done)) (fun wS hSw => ?_)) ?_
         · refine (cmore_any ⟨ab1, fi1, dr1, ne1, co1, la1⟩ ta iv clk y2 k2 b2 HHB2.out wS hclk0 hclk1 hiv0 hiv1 hok1).mono ?_; rw [HZ2.out]; rintro e wn ⟨rfl, hb⟩; exact ⟨rfl, ⟨hSw.1.below hb, hSw.2.below hb⟩, hb⟩
         intro hsh9
         clear hsh8
         try simp only [Act.put, List.getElem_toArray, List.getElem_cons_zero, List.getElem_cons_succ, List.setIfInBounds_toArray, List.set_cons_zero, List.set_cons_succ]
         refine anyU_tk 60 (i := 9) (v := ?_) rfl (fun _ _ _ h => h) (YieldsS.of_if (Or.inl ⟨by rfl, ?_⟩)) ?_
         rotate_left
         · (intro wS hSw; (try dsimp only at hSw); (first | (go_simp; done) | (go_simp; with_reducible rfl)))
         intro hsh10
         clear hsh9
         try simp only [Act.put, List.getElem_toArray, List.getElem_cons_zero, List.getElem_cons_succ, List.setIfInBounds_toArray, List.set_cons_zero, List.set_cons_succ]
         refine anyU_tk 60 (i := 10) (v := ?_) rfl (fun _ _ _ h => h) (YieldsS.of_if (Or.inl ⟨by rfl, ?_⟩)) ?_
         rotate_left
         · (intro wS hSw; (try dsimp only at hSw); (first | (go_simp; done) | (go_simp; with_reducible rfl)))
         intro hsh11
         clear hsh10
         try simp only [Act.put, List.getElem_toArray, List.getElem_cons_zero, List.getElem_cons_succ, List.setIfInBounds_toArray, List.set_cons_zero, List.set_cons_succ]
         refine anyU_takeW (i := 11) (v := ?_) rfl (by kernel_rfl) (by kernel_rfl) (by kernel_rfl) (fun _ _ _ h => h) (by assumption) (Or.inl ⟨by rfl, ?_⟩) ?_
         rotate_left
         · (intro wS; (first | (go_simp; done) | (go_simp; with_reducible rfl)))
         intro hsh12
         clear hsh11
         try simp only [Act.put, List.getElem_toArray, List.getElem_cons_zero, List.getElem_cons_succ, List.setIfInBounds_toArray, List.set_cons_zero, List.set_cons_succ]
         refine anyU_last (i := 12) (by kernel_rfl) (by kernel_rfl) (fun wS hSw _ => ?_)
         refine one_op rfl (by rfl) ?_
         have v0 : wS.cell? ⟨g5, 0, none⟩ = some (.bool ab1) := hSw.1.b5.val (i := 0) rfl
         have v1 : wS.cell? ⟨g5, 1, none⟩ = some (.int .i64 fi1) := hSw.1.b5.val (i := 1) rfl
         have v2 : wS.cell? ⟨g5, 2, none⟩ = some (.bool dr1) := hSw.1.b5.val (i := 2) rfl
         have v3 : wS.cell? ⟨g5, 3, none⟩ = some (.int .i64 ne1) := hSw.1.b5.val (i := 3) rfl
         have v4 : wS.cell? ⟨g5, 4, none⟩ = some (.int .u64 co1) := hSw.1.b5.val (i := 4) rfl
         have v5 : wS.cell? ⟨g5, 5, none⟩ = some (.int .u64 la1) := hSw.1.b5.val (i := 5) rfl
         have vf := hSw.1.b5.free
         have HS := Lib.hid hSw
         clear hSw
         unfold Oper.wp
         go_simp
         have hT6 := HS.out.1.put ⟨ab2, fi2, dr2, ne2, co2, la2⟩
         obtain ⟨w6, hw6⟩ : ∃ w6, put6 wS g5 0 ⟨ab2, fi2, dr2, ne2, co2, la2⟩ = w6 := ⟨_, rfl⟩
         have hw6' := hw6
         unfold put6 at hw6'
         simp only [Nat.zero_add] at hw6'
         rw [hw6'] at *
         rw [hw6] at hT6
         have HT6 := Lib.hid hT6
         clear hT6 hw6 hw6' v0 v1 v2 v3 v4 v5 vf HS HT HB2
         refine any_one (i := 13) (by kernel_rfl) rfl (by rfl) ?_
         unfold Oper.wp
         go_simp
         refine any_done (by kernel_rfl) ?_ _
         refine NoPanic.normal ?_
         go_wp2
         go_roundg f
         case measure => omega
         case rel => exact ⟨S2, ⟨ab2, fi2, dr2, ne2, co2, la2⟩, d2, O2, rfl, HL2.out.symm, by omega, HDM.out, hok2, by
           rw [← HGO2.out]
           conv => rhs; unfold thinGo
           rw [if_neg hdn, if_pos hu, if_neg hd2, HC1.out, HS2.out, HBO2.out, hcf1, HCF.out, hclk1', HCLK.out]
           show _ = thinGo t f S2 (moreC ⟨ab1, fi1, dr1, ne1, co1, la1⟩ iv clk b2).1 (moreC ⟨ab1, fi1, dr1, ne1, co1, la1⟩ iv clk b2).2
           rw [HZ2.out], ⟨e2N, e2c, e2k, e2K⟩, HT6.out⟩
     · go_wp2_with fail
       refine (co_shed_yes HT.out.co hl hu (by rw [hK1]; exact hK)).mono ?_
       rintro e wn ⟨rfl, hst⟩
       obtain ⟨O2, hT2⟩ := HT.out.step hst
       obtain ⟨S2, hS2⟩ : ∃ s, settleS S1 (hdE (S1.q.L (lastE S1))) 5 = s := ⟨_, rfl⟩
       rw [hS2] at hT2
       have e2N : S2.N = S.N := by rw [← hS2]; exact hN1
       have HS2 := Lib.hid hS2
       have HT2 := Lib.hid hT2
       clear hst hT2 HT hS2 hl
       have HT := HT2
       clear HT2 hN1
       have hN1 := e2N
       obtain ⟨O1, hO1e⟩ : ∃ o, o = O2 := ⟨_, rfl⟩
       rw [← hO1e] at HT
       obtain ⟨q1, gc1, gm1, l1, r1, Oq1, hB1, hO1⟩ := HT.out.co.cells
       have HB1 := Lib.hid hB1
       have HO1 := Lib.hid hO1
       clear hB1 hO1
       go_upto_region 9 with fail
       refine wp_region_noPanic ?_
       refine wp_region_U (fun w' => Thin w w' p g4 g5 O S2 ta iv ⟨ab1, fi1, dr1, ne1, co1, la1⟩ O1 ∧ CoreB w' p q1 gc1 gm1 l1 r1 Oq1 S2) [] [7] (by kernel_rfl) (⟨HT.out.below ((Below.refl _ _).drew), HB1.out.below ((Below.refl _ _).drew)⟩) ?_
       intro hsh0
       skip
       refine anyU_tk 60 (i := 0) (v := ?_) rfl (fun _ _ _ h => h) (YieldsS.of_if (Or.inl ⟨by rfl, ?_⟩)) ?_
       rotate_left
       · (intro wS hSw; (try dsimp only at hSw); (first | (go_simp; done) | (go_simp; with_reducible rfl)))
       intro hsh1
       clear hsh0
       try simp only [Act.put, List.getElem_toArray, List.getElem_cons_zero, List.getElem_cons_succ, List.setIfInBounds_toArray, List.set_cons_zero, List.set_cons_succ]
       refine anyU_tk 60 (i := 1) (v := ?_) rfl (fun _ _ _ h => h) (YieldsS.of_if (Or.inl ⟨by rfl, ?_⟩)) ?_
       rotate_left
       · (intro wS hSw; (try dsimp only at hSw); (first | (go_simp; done) | (go_simp; with_reducible rfl)))
       intro hsh2
       clear hsh1
       try simp only [Act.put, List.getElem_toArray, List.getElem_cons_zero, List.getElem_cons_succ, List.setIfInBounds_toArray, List.set_cons_zero, List.set_cons_succ]
       refine anyU_tk 60 (i := 2) (v := ?_) rfl (fun _ _ _ h => h) (YieldsS.of_if (Or.inl ⟨by rfl, ?_⟩)) ?_
       rotate_left
       · (intro wS hSw; (try dsimp only at hSw); (first | (go_simp; done) | (go_simp; with_reducible rfl)))
       intro hsh3
       clear hsh2
       try simp only [Act.put, List.getElem_toArray, List.getElem_cons_zero, List.getElem_cons_succ, List.setIfInBounds_toArray, List.set_cons_zero, List.set_cons_succ]
       refine anyU_tk 60 (i := 3) (v := ?_) rfl (fun _ _ _ h => h) (YieldsS.of_if (Or.inl ⟨by rfl, ?_⟩)) ?_
       rotate_left
       · (intro wS hSw; (try dsimp only at hSw); have c17 : wS.cell? ⟨p, 17, none⟩ = some (.slice (some ⟨gc1, 0, none⟩) S.N S.N) := (by have := hSw.2.c17; rw [hN1] at this; exact this); clear hSw; (first | (go_simp; done) | (go_simp; with_reducible rfl)))
       intro hsh4
       clear hsh3
       try simp only [Act.put, List.getElem_toArray, List.getElem_cons_zero, List.getElem_cons_succ, List.setIfInBounds_toArray, List.set_cons_zero, List.set_cons_succ]
       refine anyU_tk 60 (i := 4) (v := ?_) rfl (fun _ _ _ h => h) (YieldsS.of_if (Or.inl ⟨by rfl, ?_⟩)) ?_
       rotate_left
       · (intro wS hSw; (try dsimp only at hSw); (first | (go_simp; done) | (go_simp; with_reducible rfl)))
       intro hsh5
       clear hsh4
       try simp only [Act.put, List.getElem_toArray, List.getElem_cons_zero, List.getElem_cons_succ, List.setIfInBounds_toArray, List.set_cons_zero, List.set_cons_succ]
       refine anyU_tk 60 (i := 5) (v := ?_) rfl (fun _ _ _ h => h) (YieldsS.of_if (Or.inl ⟨by rfl, ?_⟩)) ?_
       rotate_left
       · (intro wS hSw; (try dsimp only at hSw); have v0 : wS.cell? ⟨g5, 0, none⟩ = some (.bool ab1) := hSw.1.b5.val (i := 0) rfl; have v1 : wS.cell? ⟨g5, 1, none⟩ = some (.int .i64 fi1) := hSw.1.b5.val (i := 1) rfl; have v2 : wS.cell? ⟨g5, 2, none⟩ = some (.bool dr1) := hSw.1.b5.val (i := 2) rfl; have v3 : wS.cell? ⟨g5, 3, none⟩ = some (.int .i64 ne1) := hSw.1.b5.val (i := 3) rfl; have v4 : wS.cell? ⟨g5, 4, none⟩ = some (.int .u64 co1) := hSw.1.b5.val (i := 4) rfl; have v5 : wS.cell? ⟨g5, 5, none⟩ = some (.int .u64 la1) := hSw.1.b5.val (i := 5) rfl; clear hSw; (first | (go_simp; done) | (go_simp; with_reducible rfl)))
       intro hsh6
       clear hsh5
       try simp only [Act.put, List.getElem_toArray, List.getElem_cons_zero, List.getElem_cons_succ, List.setIfInBounds_toArray, List.set_cons_zero, List.set_cons_succ]
       refine anyU_tk 60 (i := 6) (v := ?_) rfl (fun _ _ _ h => h) (YieldsS.of_if (Or.inl ⟨by rfl, ?_⟩)) ?_
       rotate_left
       · (intro wS hSw; (try dsimp only at hSw); (first | (go_simp; done) | (go_simp; with_reducible rfl)))
       intro hsh7
       clear hsh6
       try simp only [Act.put, List.getElem_toArray, List.getElem_cons_zero, List.getElem_cons_succ, List.setIfInBounds_toArray, List.set_cons_zero, List.set_cons_succ]
       refine anyU_last (i := 7) (by kernel_rfl) (by kernel_rfl) (fun wS hSw _ => ?_)
       refine last_op rfl (by rfl) (by kernel_rfl) ?_
       obtain ⟨x0, x1, x2, x3, x4, x5, hrow⟩ : ∃ x0 x1 x2 x3 x4 x5, cRow ((S2).cod t) = [x0, x1, x2, x3, x4, x5] := ⟨_, _, _, _, _, _, rfl⟩
       have m0 : wS.cell? ⟨gc1, t * 6 + 0, none⟩ = some x0 := hSw.2.cod.at_ (by rw [hN1]; exact ht) (by omega) (by rw [hrow]; rfl)
       have m1 : wS.cell? ⟨gc1, t * 6 + 1, none⟩ = some x1 := hSw.2.cod.at_ (by rw [hN1]; exact ht) (by omega) (by rw [hrow]; rfl)
       have m2 : wS.cell? ⟨gc1, t * 6 + 2, none⟩ = some x2 := hSw.2.cod.at_ (by rw [hN1]; exact ht) (by omega) (by rw [hrow]; rfl)
       have m3 : wS.cell? ⟨gc1, t * 6 + 3, none⟩ = some x3 := hSw.2.cod.at_ (by rw [hN1]; exact ht) (by omega) (by rw [hrow]; rfl)
       have m4 : wS.cell? ⟨gc1, t * 6 + 4, none⟩ = some x4 := hSw.2.cod.at_ (by rw [hN1]; exact ht) (by omega) (by rw [hrow]; rfl)
       have m5 : wS.cell? ⟨gc1, t * 6 + 5, none⟩ = some x5 := hSw.2.cod.at_ (by rw [hN1]; exact ht) (by omega) (by rw [hrow]; rfl)
       (try simp only [Nat.add_zero] at m0 m1 m2 m3 m4 m5)
       have zf := hSw.2.cod.free
       have HS := Lib.hid hSw
       clear hSw hrow
       unfold Oper.wp
       go_simp
       have hF := HS.out.1.out HS.out.2 HO1.out (by rw [hN1]; exact ht) hok1
       rw [(show codS S2 t ⟨ab1, fi1, dr1, ne1, co1, la1⟩ = thinS S t from by unfold thinS; rw [HTH.out, ← HGO.out]; obtain ⟨f, rfl⟩ : ∃ f, gk = f + 1 := ⟨gk - 1, by omega⟩; unfold thinGo; rw [if_neg hdn, if_neg hu, HS2.out])] at hF
       unfold put6 at hF
       have HF := Lib.hid hF
       clear hF zf m0 m1 m2 m3 m4 m5
       refine NoPanic.normal ?_
       go_wp2
       exact bodyPost_end (results_none rfl _ _ _) rfl ⟨⟨_, rfl⟩, HF.out⟩
end
end Go.Proofs.YtcffeokbipjaoaaGreat
