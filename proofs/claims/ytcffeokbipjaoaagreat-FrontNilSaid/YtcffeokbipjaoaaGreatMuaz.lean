/- Texts of this claim, one behind the other: Coj. -/
import Derived.Test.YtcffeokbipjaoaaGreatMuay
namespace Go.Proofs.YtcffeokbipjaoaaGreat
open Go.ChangeShapes Go.WideShapes Go.RowKit Kn
set_option linter.unusedVariables false
set_option linter.unusedSimpArgs false
noncomputable def admitS (S : Cor) (b c d : Int) : Cor := { S with q := putS S.q (S.q.F (S.q.m - 1)) (S.q.m - 1) ⟨S.tk + 1, b, c, deadG S.cf.ho S.clk d, S.clk⟩, K := S.K + 1, tk := S.tk + 1 }
theorem deadG_in {h now d : Int} (h0 : I64_ d) : I64_ (deadG h now d) := by
 unfold deadG
 obtain ⟨a, b⟩ := h0
 unfold I64_
 have h1 : -9223372036854775808 ≤ sat (now + h) := by unfold sat; omega
 split <;> constructor <;> omega
theorem Cor.ok.admits {S : Cor} {b c d : Int} (h : S.ok) (hm : 0 < S.q.m) (hc : I64_ c) (hd : I64_ d) : (admitS S b c d).ok := by
 obtain ⟨a1, a2, a3, a4, a5, a6, a7, a8, a9, a10, a11, a12, a13, a14, a15, a16, a17⟩ := h
 refine ⟨a1, a2, a3, a4, a5, a6, a7, a8, a9, a10, a11, a12, a13, ?_, ?_, fun j hj ht => ?_, ?_⟩
 · show 0 ≤ S.tk + 1; omega
 · show S.tk + 1 = ((S.K + 1 : Nat) : Int); omega
 · have ht' : (if j = S.q.F (S.q.m - 1) then true else S.q.T j) = true := ht
   show I64_ (if j = S.q.F (S.q.m - 1) then (⟨S.tk + 1, b, c, deadG S.cf.ho S.clk d, S.clk⟩ : Rq) else S.q.R j).e ∧ I64_ (if j = S.q.F (S.q.m - 1) then (⟨S.tk + 1, b, c, deadG S.cf.ho S.clk d, S.clk⟩ : Rq) else S.q.R j).d ∧ I64_ (if j = S.q.F (S.q.m - 1) then (⟨S.tk + 1, b, c, deadG S.cf.ho S.clk d, S.clk⟩ : Rq) else S.q.R j).c ∧ 0 ≤ (if j = S.q.F (S.q.m - 1) then (⟨S.tk + 1, b, c, deadG S.cf.ho S.clk d, S.clk⟩ : Rq) else S.q.R j).a ∧ (if j = S.q.F (S.q.m - 1) then (⟨S.tk + 1, b, c, deadG S.cf.ho S.clk d, S.clk⟩ : Rq) else S.q.R j).a ≤ S.tk + 1
   by_cases hj2 : j = S.q.F (S.q.m - 1)
   · rw [if_pos hj2]
     exact ⟨a13, deadG_in hd, hc, by show 0 ≤ S.tk + 1; omega, Int.le_refl _⟩
   · rw [if_neg hj2] at ht' ⊢
     obtain ⟨x1, x2, x3, x4, x5⟩ := a16 j hj ht'
     exact ⟨x1, x2, x3, x4, by omega⟩
 · show S.log.length + S.n ≤ (S.K + 1) + (S.q.m - 1); omega
section
variable {w w' w'' : World} {p q gc gm l g b : Nat} {r r' : Option Nat} {O Oq Oq' : Nat → Prop} {S S' : Cor} {T : TypeId} {cs : Array Value}
theorem CoreB.admit_ (h : CoreB w p q gc gm l r Oq S) {s' : Ts} {K' : Nat} {u : Int} {wb : World} (hb : Below w.heap.size (w.setCell ⟨p, 26, none⟩ (.int .u64 u)) wb) (hq : TqO w' q S.N S.n K' s' Oq') (hk : Kept Oq wb w') (hok : Cor.ok { S with q := s', K := K', tk := u }) : CoreB w' p q gc gm l r Oq' { S with q := s', K := K', tk := u } := by
 obtain ⟨a1, a2, a3, a4, a5, a6, a7, a8, a9, a10, a11, a12, a13, a14⟩ := h.apart
 have h0 : Kept (fun k => k = p) w (w.setCell ⟨p, 26, none⟩ (.int .u64 u)) := Kept.set_ (own := fun k => k = p) (Kept.refl _ _) (p := ⟨p, 26, none⟩) (.inl rfl) _
 have hb' : Below (w.setCell ⟨p, 26, none⟩ (.int .u64 u)).heap.size (w.setCell ⟨p, 26, none⟩ (.int .u64 u)) wb := by simpa using hb
 have hh : Blk (w.setCell ⟨p, 26, none⟩ (.int .u64 u)) p coT (coreCells { S with q := s', K := K', tk := u } q gc gm l).toArray := by
   have := h.head.set_ 26 (.int .u64 u)
   have e : (coreCells S q gc gm l).set 26 (.int .u64 u) = coreCells { S with q := s', K := K', tk := u } q gc gm l := rfl
   rw [← e]
   simpa using this
 have hlog := (h.log.kept h0 (fun hc => a3 hc.symm) (fun g hg hc => a4 (by rw [hg, hc]))).below hb'
 exact ⟨(hh.below_ hb' hh.size).kept hk a5, hq, ((h.cod.kept h0 (fun hc => a1 hc.symm)).below hb').kept hk a9, ((h.mod.kept h0 (fun hc => a2 hc.symm)).below hb').kept hk a12, hlog.kept hk a13 a14, hok⟩
theorem Kept.cell_ {own : Nat → Prop} (h : Kept own w w') {k i : Nat} (hk : k < w.heap.size) (hn : ¬ own k) : w'.cell? ⟨k, i, none⟩ = w.cell? ⟨k, i, none⟩ := by
 have := h.block k hk hn
 simp only [World.cell?, this]
noncomputable def submitV (S : Cor) (b c d : Int) : Value := if S.ph = 0 then (if judgeG S.cf.ti S.pid.le S.clk b c d = 0 then (if roomB S b = true then resv 1 (S.tk + 1) b c 0 else resv 5 0 0 0 0) else resv (judgeG S.cf.ti S.pid.le S.clk b c d) 0 0 0 0) else resv 6 0 0 0 0
noncomputable def submitS (S : Cor) (b c d : Int) : Cor := if S.ph = 0 then (if judgeG S.cf.ti S.pid.le S.clk b c d = 0 then (if roomB S b = true then admitS (roomS S b) b c d else roomS S b) else S) else S
theorem roomS_same (S : Cor) (t : Int) : (roomS S t).cf = S.cf ∧ (roomS S t).clk = S.clk ∧ (roomS S t).tk = S.tk ∧ (roomS S t).K = S.K ∧ (roomS S t).N = S.N ∧ (roomS S t).n = S.n := by
 unfold roomS
 split
 · exact ⟨rfl, rfl, rfl, rfl, rfl, rfl⟩
 · split <;> exact ⟨rfl, rfl, rfl, rfl, rfl, rfl⟩
theorem roomS_pos {S : Cor} {t : Int} (h : roomB S t = true) : 0 < (roomS S t).q.m := by
 unfold roomB at h
 have h := of_decide_eq_true h
 unfold roomS
 by_cases hm : 0 < S.q.m
 · rw [if_pos hm]; exact hm
 · rw [if_neg hm, if_pos (by omega)]
   show 0 < S.q.m + 1; omega
theorem judge_right {n l now t c d : Int} (h : judgeG n l now t c d = 0) : 0 ≤ t ∧ t < n := by
 unfold judgeG at h
 cases hr : rightG n t c with
 | false => rw [if_pos hr] at h; omega
 | true =>
   unfold rightG at hr
   simp at hr
   omega
set_option maxRecDepth 100000 in
set_option maxHeartbeats 8000000 in
theorem co_submit (a b c d : Int) (h : CoreL w p O S) (hK : S.K ≤ 900) (hc : I64_ c) (hd : I64_ d) (hb : I64_ b) :
   Calls Tryz.prog 83 #[.pointer (some ⟨p, 0, none⟩), opv a b c d] w fun e w' => e = .returned (submitV S b c d) ∧ CStep w p O (submitS S b c d) w' := by
 obtain ⟨q, gc, gm, l, r, Oq, h1, hO⟩ := h.cells
 have hOs : ∀ k, O k → k < w.heap.size := fun k hk => h.lt hk
 obtain ⟨V, hV⟩ : ∃ V, submitV S b c d = V := ⟨_, rfl⟩
 obtain ⟨Z, hZ⟩ : ∃ Z, submitS S b c d = Z := ⟨_, rfl⟩
 rw [hV, hZ]
 unfold submitV at hV
 unfold submitS at hZ
 obtain ⟨v, hv⟩ : ∃ v, judgeG S.cf.ti S.pid.le S.clk b c d = v := ⟨_, rfl⟩
 rw [hv] at hV hZ
 have HV := Lib.hid hV
 have HZ := Lib.hid hZ
 have HVV := Lib.hid hv
 have HC := Lib.hid h
 have HB := Lib.hid h1
 have HOS := Lib.hid hOs
 have HOP := Lib.hid ((hO p).2 (.inl rfl))
 unfold opv
 clear h h1 hOs hV hZ hv hO
 obtain ⟨W0, hW0⟩ : ∃ W, (w.alloc (.cells #[.int .u8 a, .int .i64 b, .int .i64 c, .int .i64 d] opT)).alloc (.cells #[.int .u8 0, .int .u64 0, .int .i64 0, .int .i64 0, .int .i64 0] resT) = W := ⟨_, rfl⟩
 have hb0 : Below w.heap.size w W0 := by rw [← hW0]; exact ((Below.refl _ _).alloc (Nat.le_refl _) _).alloc (by simp) _
 have hx0 : Blk W0 w.heap.size opT #[.int .u8 a, .int .i64 b, .int .i64 c, .int .i64 d] := by
   rw [← hW0]; exact (Blk.made w _ _).below_ ((Below.refl _ _).alloc (Nat.le_refl _) _) (by simp)
 have hy0 : Blk W0 (w.heap.size + 1) resT #[.int .u8 0, .int .u64 0, .int .i64 0, .int .i64 0, .int .i64 0] := by
   have := Blk.made (w.alloc (.cells #[.int .u8 a, .int .i64 b, .int .i64 c, .int .i64 d] opT)) resT #[.int .u8 0, .int .u64 0, .int .i64 0, .int .i64 0, .int .i64 0]
   rw [hW0] at this
   simpa using this
 have hz0 : W0.heap.size = w.heap.size + 2 := by rw [← hW0]; simp
 have hL0 := HC.out.below hb0
 have hB0 := HB.out.below hb0
 have c23 := hB0.c23
 obtain ⟨g, hg⟩ : ∃ g, w.heap.size = g := ⟨_, rfl⟩
 have hg1 : ¬ O g := fun hc => by have := HOS.out g hc; omega
 have hg2 : ¬ O (g + 1) := fun hc => by have := HOS.out _ hc; omega
 have HG := Lib.hid hg
 have HB0 := Lib.hid hb0
 have HX0 := Lib.hid hx0
 have HY0 := Lib.hid hy0
 have HZ0 := Lib.hid hz0
 have HL0 := Lib.hid hL0
 have HBB := Lib.hid hB0
 have HN1 := Lib.hid hg1
 have HN2 := Lib.hid hg2
 have HIB := Lib.hid hb
 have HIC := Lib.hid hc
 have HID := Lib.hid hd
 clear hb0 hx0 hy0 hz0 hL0 hB0 hg1 hg2 hb hc hd
 -- the end: an answer is put into the box
 have fin : ∀ (wq : World) (S1 : Cor) (x0 x1 x2 x3 x4 : Value) (wz : World), CStep W0 p O S1 wq → wz = put5 wq (g + 1) x0 x1 x2 x3 x4 → CStep w p O S1 wz ∧ Blk wz (g + 1) resT #[x0, x1, x2, x3, x4] := by
   intro wq S1 x0 x1 x2 x3 x4 wz hs hz
   have hy := hs.blk (by rw [← HG.out]; exact HY0.out) HN2.out
   subst hz
   exact ⟨hs.box_ HB0.out hy resT_not (by have := HG.out; omega) (by have := HZ0.out; have := HG.out; omega) HN2.out put5_kept, put5_blk hy⟩
 have FIN := Lib.hid fin
 clear fin
 by_cases hph : S.ph = 0
 ·
   have hp0 := HB.out.head.size
   rw [hph] at c23
   have hVa := HV.out
   have hZa := HZ.out
   rw [if_pos hph] at hVa hZa
   clear HV HZ
   have hjd := co_judge a b c d HL0.out
   rw [HVV.out] at hjd
   unfold opv at hjd
   have HJ := Lib.hid hjd
   clear hjd hph
   have x0 : W0.cell? ⟨g, 0, none⟩ = some (.int .u8 a) := (show Blk W0 g opT _ by rw [← HG.out]; exact HX0.out).val rfl
   have x1 : W0.cell? ⟨g, 1, none⟩ = some (.int .i64 b) := (show Blk W0 g opT _ by rw [← HG.out]; exact HX0.out).val rfl
   have x2 : W0.cell? ⟨g, 2, none⟩ = some (.int .i64 c) := (show Blk W0 g opT _ by rw [← HG.out]; exact HX0.out).val rfl
   have x3 : W0.cell? ⟨g, 3, none⟩ = some (.int .i64 d) := (show Blk W0 g opT _ by rw [← HG.out]; exact HX0.out).val rfl
   by_cases hv : v = 0
   ·
     subst hv
     rw [if_pos rfl] at hVa hZa
     obtain ⟨hb0', hbN⟩ := judge_right HVV.out
     obtain ⟨rb, hrb⟩ : ∃ rb, roomB S b = rb := ⟨_, rfl⟩
     rw [hrb] at hVa hZa
     have HRB := Lib.hid hrb
     have HVa := Lib.hid hVa
     have HZa := Lib.hid hZa
     have HLT := Lib.hid (And.intro hb0' hbN)
     clear hVa hZa hrb hb0' hbN
     go_enter Tryz.func83, Tryz.ntmps83
     go_upto_region 1 with fail
     (try rw [hW0])
     (try rw [HG.out])
     clear hW0 hg
     go_wp2_with fail
     refine HJ.out.mono ?_
     rintro e w1 ⟨rfl, hb1⟩
     have hx1 := (show Blk W0 g opT _ by rw [← HG.out]; exact HX0.out).below_ hb1 (show Blk W0 g opT _ by rw [← HG.out]; exact HX0.out).size
     clear x0 x1 x2 x3 c23
     have x1 : w1.cell? ⟨g, 1, none⟩ = some (.int .i64 b) := hx1.val rfl
     have HX1 := Lib.hid hx1
     have HB1 := Lib.hid hb1
     clear hx1 hb1
     go_wp2_with fail
     refine (co_room b (HL0.out.below HB1.out) (by omega)).mono ?_
     rintro e w2 ⟨rfl, hst⟩
     rw [HRB.out]
     have hst2 := CStep.after HB1.out hst
     have hy2 := hst2.blk (show Blk W0 (g + 1) resT _ by rw [← HG.out]; exact HY0.out) HN2.out
     have hx2 := hst2.blk (show Blk W0 g opT _ by rw [← HG.out]; exact HX0.out) HN1.out
     have HST := Lib.hid hst2
     have HX2 := Lib.hid hx2
     have HY2 := Lib.hid hy2
     clear hst hst2 hy2 hx2 x1
     cases rb with
     | false =>
       have hVb := HVa.out
       have hZb := HZa.out
       rw [if_neg (by simp)] at hVb hZb
       clear HVa HZa
       subst hVb
       subst hZb
       have y0 : w2.cell? ⟨g + 1, 0, none⟩ = some (.int .u8 0) := (HY2.out).val rfl
       have z0 := (HY2.out).free 0
       have y1 : w2.cell? ⟨g + 1, 1, none⟩ = some (.int .u64 0) := (HY2.out).val rfl
       have z1 := (HY2.out).free 1
       have y2 : w2.cell? ⟨g + 1, 2, none⟩ = some (.int .i64 0) := (HY2.out).val rfl
       have z2 := (HY2.out).free 2
       have y3 : w2.cell? ⟨g + 1, 3, none⟩ = some (.int .i64 0) := (HY2.out).val rfl
       have z3 := (HY2.out).free 3
       have y4 : w2.cell? ⟨g + 1, 4, none⟩ = some (.int .i64 0) := (HY2.out).val rfl
       have z4 := (HY2.out).free 4
       go_wp2
       obtain ⟨WZ, hWZ⟩ : ∃ W, (((((w2.setCell ⟨g + 1, 0, none⟩ (.int .u8 5)).setCell ⟨g + 1, 1, none⟩ (.int .u64 0)).setCell ⟨g + 1, 2, none⟩ (.int .i64 0)).setCell ⟨g + 1, 3, none⟩ (.int .i64 0)).setCell ⟨g + 1, 4, none⟩ (.int .i64 0)) = W := ⟨_, rfl⟩
       have hf := FIN.out w2 _ (.int .u8 5) (.int .u64 0) (.int .i64 0) (.int .i64 0) (.int .i64 0) WZ (HST.out) hWZ.symm
       rw [hWZ]
       clear hWZ
       have d0 : WZ.cell? ⟨g + 1, 0, none⟩ = some (.int .u8 5) := hf.2.val rfl
       have d1 : WZ.cell? ⟨g + 1, 1, none⟩ = some (.int .u64 0) := hf.2.val rfl
       have d2 : WZ.cell? ⟨g + 1, 2, none⟩ = some (.int .i64 0) := hf.2.val rfl
       have d3 : WZ.cell? ⟨g + 1, 3, none⟩ = some (.int .i64 0) := hf.2.val rfl
       have d4 : WZ.cell? ⟨g + 1, 4, none⟩ = some (.int .i64 0) := hf.2.val rfl
       refine bodyPost_ret (v := .agg #[.int .u8 5, .int .u64 0, .int .i64 0, .int .i64 0, .int .i64 0]) (by simp [results, Tryz.results83, go_sem, d0, d1, d2, d3, d4]) rfl ⟨?_, hf.1⟩
       rfl
     | true =>
       have hVb := HVa.out
       have hZb := HZa.out
       rw [if_pos rfl] at hVb hZb
       clear HVa HZa
       obtain ⟨S2, hS2⟩ : ∃ S2, roomS S b = S2 := ⟨_, rfl⟩
       obtain ⟨s1, s2, s3, s4, s5, s6⟩ := roomS_same S b
       have hpos := roomS_pos HRB.out
       rw [hS2] at s1 s2 s3 s4 s5 s6 hpos hZb
       have hst2 := HST.out
       rw [hS2] at hst2
       clear HST hS2
       obtain ⟨O2, hL2, hO2, hK2⟩ := hst2
       obtain ⟨q, gc, gm, l, r, Oq, hB2, hOO⟩ := hL2.cells
       obtain ⟨u, hu⟩ : ∃ u, S2.tk + 1 = u := ⟨_, rfl⟩
       have htk := hB2.ok.tk1
       have htk0 := hB2.ok.tk0
       have u1 : IntKind.u64.wrap (S2.tk + 1) = u := by rw [hu]; simp [IntKind.wrap, IntKind.signed, IntKind.bits]; omega
       have c26 := hB2.c26
       have hp2 : p < w2.heap.size := hB2.head.size
       have f26 := hB2.head.free 26
       obtain ⟨C, hC⟩ : ∃ C, S2.cf = C := ⟨_, rfl⟩
       obtain ⟨k, hk⟩ : ∃ k, S2.clk = k := ⟨_, rfl⟩
       have HCC := Lib.hid hC
       have HKK := Lib.hid hk
       have HB2 := Lib.hid hB2
       have HU := Lib.hid hu
       have HSS := Lib.hid (And.intro s1 (And.intro s2 (And.intro s3 (And.intro s4 (And.intro s5 s6)))))
       have HPOS := Lib.hid hpos
       have HK2 := Lib.hid hK2
       have HO2 := Lib.hid hO2
       have HOO := Lib.hid hOO
       have HTK := Lib.hid (And.intro htk htk0)
       have HZb := Lib.hid hZb
       have HVb := Lib.hid hVb
       clear s1 s2 s3 s4 s5 s6 hpos hL2 hO2 hK2 hOO hC hk hB2 htk htk0 hu hVb hZb
       go_upto_region 9 with fail
       obtain ⟨w3, hw3⟩ : ∃ W, w2.setCell ⟨p, 26, none⟩ (.int .u64 u) = W := ⟨_, rfl⟩
       (try rw [hw3])
       have hgs : g < w2.heap.size := HX2.out.size
       have hgp : g ≠ p := by
         intro e
         have hz := HOS.out p (HOP.out)
         have := HG.out
         omega
       have hgq : ¬ Oq g := fun e => by
         rcases HO2.out g ((HOO.out g).2 (.inr (.inr (.inr (.inr (.inr e)))))) with c1 | c1
         · exact HN1.out c1
         · have := HZ0.out; have := HG.out; omega
       have hgq2 : ¬ Oq (g + 1) := fun e => by
         rcases HO2.out _ ((HOO.out _).2 (.inr (.inr (.inr (.inr (.inr e)))))) with c1 | c1
         · exact HN2.out c1
         · have := HZ0.out; have := HG.out; omega
       have hgp2 : g + 1 ≠ p := by
         intro e
         have hz := HOS.out p (HOP.out)
         have := HG.out
         omega
       have h0 : Kept (fun k => k = p) w2 w3 := by rw [← hw3]; exact Kept.set_ (own := fun k => k = p) (Kept.refl _ _) (p := ⟨p, 26, none⟩) (.inl rfl) _
       have hq3 := HB2.out.que.other h0 (fun k _ hc => ⟨_, _, hc ▸ HB2.out.head, coT_not⟩)
       have hp3h := HB2.out.head.set_ 26 (.int .u64 u)
       rw [hw3] at hp3h
       have hqn := HB2.out.que.apart HB2.out.head coT_not
       have hx3 := HX2.out.kept h0 hgp
       have hy3 := HY2.out.kept h0 hgp2
       have hCC := HCC.out
       have hKK := HKK.out
       have k0 : w3.cell? ⟨p, 0, none⟩ = some (.int .i64 C.ti) := by rw [← hCC]; exact hp3h.val rfl
       have k1 : w3.cell? ⟨p, 1, none⟩ = some (.int .i64 C.ro) := by rw [← hCC]; exact hp3h.val rfl
       have k2 : w3.cell? ⟨p, 2, none⟩ = some (.int .i64 C.ta) := by rw [← hCC]; exact hp3h.val rfl
       have k3 : w3.cell? ⟨p, 3, none⟩ = some (.int .i64 C.iv) := by rw [← hCC]; exact hp3h.val rfl
       have k4 : w3.cell? ⟨p, 4, none⟩ = some (.int .i64 C.hg) := by rw [← hCC]; exact hp3h.val rfl
       have k5 : w3.cell? ⟨p, 5, none⟩ = some (.int .i64 C.lo) := by rw [← hCC]; exact hp3h.val rfl
       have k6 : w3.cell? ⟨p, 6, none⟩ = some (.int .i64 C.dw) := by rw [← hCC]; exact hp3h.val rfl
       have k7 : w3.cell? ⟨p, 7, none⟩ = some (.int .i64 C.ho) := by rw [← hCC]; exact hp3h.val rfl
       have k8 : w3.cell? ⟨p, 8, none⟩ = some (.int .i64 C.sp) := by rw [← hCC]; exact hp3h.val rfl
       have k9 : w3.cell? ⟨p, 9, none⟩ = some (.int .i64 C.kp) := by rw [← hCC]; exact hp3h.val rfl
       have k10 : w3.cell? ⟨p, 10, none⟩ = some (.int .i64 C.ki) := by rw [← hCC]; exact hp3h.val rfl
       have k11 : w3.cell? ⟨p, 11, none⟩ = some (.int .i64 C.kd) := by rw [← hCC]; exact hp3h.val rfl
       have k12 : w3.cell? ⟨p, 12, none⟩ = some (.int .i64 C.lm) := by rw [← hCC]; exact hp3h.val rfl
       have k13 : w3.cell? ⟨p, 13, none⟩ = some (.int .i64 C.st) := by rw [← hCC]; exact hp3h.val rfl
       have k14 : w3.cell? ⟨p, 14, none⟩ = some (.int .i64 C.th) := by rw [← hCC]; exact hp3h.val rfl
       have k15 : w3.cell? ⟨p, 15, none⟩ = some (.int .i64 C.rg) := by rw [← hCC]; exact hp3h.val rfl
       have k25 : w3.cell? ⟨p, 25, none⟩ = some (.int .i64 k) := by rw [← hKK]; exact hp3h.val rfl
       have k26 : w3.cell? ⟨p, 26, none⟩ = some (.int .u64 u) := hp3h.val rfl
       have k16 : w3.cell? ⟨p, 16, none⟩ = some (.pointer (some ⟨q, 0, none⟩)) := hp3h.val rfl
       have j1 : w3.cell? ⟨g, 1, none⟩ = some (.int .i64 b) := hx3.val rfl
       have j2 : w3.cell? ⟨g, 2, none⟩ = some (.int .i64 c) := hx3.val rfl
       have j3 : w3.cell? ⟨g, 3, none⟩ = some (.int .i64 d) := hx3.val rfl
       have hp0 : p < w3.heap.size := klt k26
       have hg0 : g < w3.heap.size := klt j1
       obtain ⟨dl, hdl⟩ : ∃ dl, deadG C.ho k d = dl := ⟨_, rfl⟩
       have hfit := HB2.out.ok.fits.ho
       rw [hCC] at hfit
       have hclk := HB2.out.ok.clk
       rw [hKK] at hclk
       have hda := fun wq => gdead_any C k d hclk.1 hclk.2 hfit.1 hfit.2 wq
       rw [hdl] at hda
       have HDA := Lib.hid hda
       have HDL := Lib.hid hdl
       have HQ3 := Lib.hid hq3
       have HH0 := Lib.hid h0
       have HY3 := Lib.hid hy3
       have HW3 := Lib.hid hw3
       have HQN := Lib.hid hqn
       have HGQ := Lib.hid (And.intro hgq hgq2)
       have HLL := HLT.out
       obtain ⟨m, hm⟩ : ∃ m, S2.q.m = m + 1 := ⟨S2.q.m - 1, by have := HPOS.out; omega⟩
       have HM := Lib.hid hm
       have hlb : b < (S2.N : Int) := by rw [HSS.out.2.2.2.2.1, ← HC.out.ok.hN]; exact HLL.2
       have hb0 := HLL.1
       have hK2' : S2.K ≤ 1000000 := by rw [HSS.out.2.2.2.1]; omega
       clear hgq hgq2 hgp hgp2 h0 hq3 hp3h hqn hx3 hy3 hCC hKK hfit hclk hda hdl hw3 c26 f26 u1 HLL hm
       go_region_held3 (fun w' => w'.cell? ⟨p, 0, none⟩ = some (.int .i64 C.ti) ∧ w'.cell? ⟨p, 1, none⟩ = some (.int .i64 C.ro) ∧ w'.cell? ⟨p, 2, none⟩ = some (.int .i64 C.ta) ∧ w'.cell? ⟨p, 3, none⟩ = some (.int .i64 C.iv) ∧ w'.cell? ⟨p, 4, none⟩ = some (.int .i64 C.hg) ∧ w'.cell? ⟨p, 5, none⟩ = some (.int .i64 C.lo) ∧ w'.cell? ⟨p, 6, none⟩ = some (.int .i64 C.dw) ∧ w'.cell? ⟨p, 7, none⟩ = some (.int .i64 C.ho) ∧ w'.cell? ⟨p, 8, none⟩ = some (.int .i64 C.sp) ∧ w'.cell? ⟨p, 9, none⟩ = some (.int .i64 C.kp) ∧ w'.cell? ⟨p, 10, none⟩ = some (.int .i64 C.ki) ∧ w'.cell? ⟨p, 11, none⟩ = some (.int .i64 C.kd) ∧ w'.cell? ⟨p, 12, none⟩ = some (.int .i64 C.lm) ∧ w'.cell? ⟨p, 13, none⟩ = some (.int .i64 C.st) ∧ w'.cell? ⟨p, 14, none⟩ = some (.int .i64 C.th) ∧ w'.cell? ⟨p, 15, none⟩ = some (.int .i64 C.rg) ∧ w'.cell? ⟨p, 25, none⟩ = some (.int .i64 k) ∧ w'.cell? ⟨p, 26, none⟩ = some (.int .u64 u) ∧ w'.cell? ⟨p, 16, none⟩ = some (.pointer (some ⟨q, 0, none⟩)) ∧ w'.cell? ⟨g, 1, none⟩ = some (.int .i64 b) ∧ w'.cell? ⟨g, 2, none⟩ = some (.int .i64 c) ∧ w'.cell? ⟨g, 3, none⟩ = some (.int .i64 d)) (repeat (first | with_reducible assumption | refine ⟨?_, ?_⟩ | with_reducible refine kdrew ?_ | with_reducible refine kalloc ?_ _)) (first | (go_at_call 124; refine (HDA.out _).mono ?_; rintro e w4 ⟨rfl, hb⟩; have hp1 : p < w4.heap.size := Nat.lt_of_lt_of_le hp0 hb.size; have hg1 : g < w4.heap.size := Nat.lt_of_lt_of_le hg0 hb.size; have dk0 : w4.cell? ⟨p, 0, none⟩ = some (.int .i64 C.ti) := (hb.cell hp0).trans k0; have dk1 : w4.cell? ⟨p, 1, none⟩ = some (.int .i64 C.ro) := (hb.cell hp0).trans k1; have dk2 : w4.cell? ⟨p, 2, none⟩ = some (.int .i64 C.ta) := (hb.cell hp0).trans k2; have dk3 : w4.cell? ⟨p, 3, none⟩ = some (.int .i64 C.iv) := (hb.cell hp0).trans k3; have dk4 : w4.cell? ⟨p, 4, none⟩ = some (.int .i64 C.hg) := (hb.cell hp0).trans k4; have dk5 : w4.cell? ⟨p, 5, none⟩ = some (.int .i64 C.lo) := (hb.cell hp0).trans k5; have dk6 : w4.cell? ⟨p, 6, none⟩ = some (.int .i64 C.dw) := (hb.cell hp0).trans k6; have dk7 : w4.cell? ⟨p, 7, none⟩ = some (.int .i64 C.ho) := (hb.cell hp0).trans k7; have dk8 : w4.cell? ⟨p, 8, none⟩ = some (.int .i64 C.sp) := (hb.cell hp0).trans k8; have dk9 : w4.cell? ⟨p, 9, none⟩ = some (.int .i64 C.kp) := (hb.cell hp0).trans k9; have dk10 : w4.cell? ⟨p, 10, none⟩ = some (.int .i64 C.ki) := (hb.cell hp0).trans k10; have dk11 : w4.cell? ⟨p, 11, none⟩ = some (.int .i64 C.kd) := (hb.cell hp0).trans k11; have dk12 : w4.cell? ⟨p, 12, none⟩ = some (.int .i64 C.lm) := (hb.cell hp0).trans k12; have dk13 : w4.cell? ⟨p, 13, none⟩ = some (.int .i64 C.st) := (hb.cell hp0).trans k13; have dk14 : w4.cell? ⟨p, 14, none⟩ = some (.int .i64 C.th) := (hb.cell hp0).trans k14; have dk15 : w4.cell? ⟨p, 15, none⟩ = some (.int .i64 C.rg) := (hb.cell hp0).trans k15; have dk25 : w4.cell? ⟨p, 25, none⟩ = some (.int .i64 k) := (hb.cell hp0).trans k25; have dk26 : w4.cell? ⟨p, 26, none⟩ = some (.int .u64 u) := (hb.cell hp0).trans k26; have dk16 : w4.cell? ⟨p, 16, none⟩ = some (.pointer (some ⟨q, 0, none⟩)) := (hb.cell hp0).trans k16; have dj1 : w4.cell? ⟨g, 1, none⟩ = some (.int .i64 b) := (hb.cell hg0).trans j1; have dj2 : w4.cell? ⟨g, 2, none⟩ = some (.int .i64 c) := (hb.cell hg0).trans j2; have dj3 : w4.cell? ⟨g, 3, none⟩ = some (.int .i64 d) := (hb.cell hg0).trans j3; have HQ4 := Lib.hid ((HQ3.out.below (Below.drew (Below.refl _ _))).below hb); have HB4 := Lib.hid hb; clear hb) | (go_at_call 123; refine (tqo_put ⟨u, b, c, dl, k⟩ HQ4.out HM.out rfl hb0 hlb hK2').mono ?_; rintro e w5 ⟨rfl, O5, hq5, ho5, hk5⟩; have fk0 : w5.cell? ⟨p, 0, none⟩ = some (.int .i64 C.ti) := (hk5.cell_ hp1 HQN.out).trans dk0; have fk1 : w5.cell? ⟨p, 1, none⟩ = some (.int .i64 C.ro) := (hk5.cell_ hp1 HQN.out).trans dk1; have fk2 : w5.cell? ⟨p, 2, none⟩ = some (.int .i64 C.ta) := (hk5.cell_ hp1 HQN.out).trans dk2; have fk3 : w5.cell? ⟨p, 3, none⟩ = some (.int .i64 C.iv) := (hk5.cell_ hp1 HQN.out).trans dk3; have fk4 : w5.cell? ⟨p, 4, none⟩ = some (.int .i64 C.hg) := (hk5.cell_ hp1 HQN.out).trans dk4; have fk5 : w5.cell? ⟨p, 5, none⟩ = some (.int .i64 C.lo) := (hk5.cell_ hp1 HQN.out).trans dk5; have fk6 : w5.cell? ⟨p, 6, none⟩ = some (.int .i64 C.dw) := (hk5.cell_ hp1 HQN.out).trans dk6; have fk7 : w5.cell? ⟨p, 7, none⟩ = some (.int .i64 C.ho) := (hk5.cell_ hp1 HQN.out).trans dk7; have fk8 : w5.cell? ⟨p, 8, none⟩ = some (.int .i64 C.sp) := (hk5.cell_ hp1 HQN.out).trans dk8; have fk9 : w5.cell? ⟨p, 9, none⟩ = some (.int .i64 C.kp) := (hk5.cell_ hp1 HQN.out).trans dk9; have fk10 : w5.cell? ⟨p, 10, none⟩ = some (.int .i64 C.ki) := (hk5.cell_ hp1 HQN.out).trans dk10; have fk11 : w5.cell? ⟨p, 11, none⟩ = some (.int .i64 C.kd) := (hk5.cell_ hp1 HQN.out).trans dk11; have fk12 : w5.cell? ⟨p, 12, none⟩ = some (.int .i64 C.lm) := (hk5.cell_ hp1 HQN.out).trans dk12; have fk13 : w5.cell? ⟨p, 13, none⟩ = some (.int .i64 C.st) := (hk5.cell_ hp1 HQN.out).trans dk13; have fk14 : w5.cell? ⟨p, 14, none⟩ = some (.int .i64 C.th) := (hk5.cell_ hp1 HQN.out).trans dk14; have fk15 : w5.cell? ⟨p, 15, none⟩ = some (.int .i64 C.rg) := (hk5.cell_ hp1 HQN.out).trans dk15; have fk25 : w5.cell? ⟨p, 25, none⟩ = some (.int .i64 k) := (hk5.cell_ hp1 HQN.out).trans dk25; have fk26 : w5.cell? ⟨p, 26, none⟩ = some (.int .u64 u) := (hk5.cell_ hp1 HQN.out).trans dk26; have fk16 : w5.cell? ⟨p, 16, none⟩ = some (.pointer (some ⟨q, 0, none⟩)) := (hk5.cell_ hp1 HQN.out).trans dk16; have fj1 : w5.cell? ⟨g, 1, none⟩ = some (.int .i64 b) := (hk5.cell_ hg1 HGQ.out.1).trans dj1; have fj2 : w5.cell? ⟨g, 2, none⟩ = some (.int .i64 c) := (hk5.cell_ hg1 HGQ.out.1).trans dj2; have fj3 : w5.cell? ⟨g, 3, none⟩ = some (.int .i64 d) := (hk5.cell_ hg1 HGQ.out.1).trans dj3; have HQ5 := Lib.hid hq5; have HO5 := Lib.hid ho5; have HK5 := Lib.hid hk5; clear hq5 ho5 hk5))
       have hy5 := ((HY3.out.below_ (Below.drew (Below.refl _ _)) HY3.out.size).below_ HB4.out HY3.out.size).kept HK5.out HGQ.out.2
       have HY5 := Lib.hid hy5
       clear hy5 k0 k1 k2 k3 k4 k5 k6 k7 k8 k9 k10 k11 k12 k13 k14 k15 k25 k26 k16 j1 j2 j3
       go_upto_region 10 with fail
       go_still_tail 9, (by kernel_rfl)
       change wpList _ _ _ _ _ w5.drew
       obtain ⟨w6, hw6⟩ : ∃ W, w5.drew = W := ⟨_, rfl⟩
       have hb6 : Below w5.heap.size w5 w6 := by rw [← hw6]; exact Below.drew (Below.refl _ _)
       have hy6 : Blk w6 (g + 1) resT #[.int .u8 0, .int .u64 0, .int .i64 0, .int .i64 0, .int .i64 0] := by rw [← hw6]; exact HY5.out.drew_
       rw [hw6]
       have HB6 := Lib.hid hb6
       have HY6 := Lib.hid hy6
       clear hb6 hw6
       have y0 : w6.cell? ⟨g + 1, 0, none⟩ = some (.int .u8 0) := (hy6).val rfl
       have z0 := (hy6).free 0
       have y1 : w6.cell? ⟨g + 1, 1, none⟩ = some (.int .u64 0) := (hy6).val rfl
       have z1 := (hy6).free 1
       have y2 : w6.cell? ⟨g + 1, 2, none⟩ = some (.int .i64 0) := (hy6).val rfl
       have z2 := (hy6).free 2
       have y3 : w6.cell? ⟨g + 1, 3, none⟩ = some (.int .i64 0) := (hy6).val rfl
       have z3 := (hy6).free 3
       have y4 : w6.cell? ⟨g + 1, 4, none⟩ = some (.int .i64 0) := (hy6).val rfl
       have z4 := (hy6).free 4
       clear hy6
       go_wp2
       have hfin : CStep W0 p O (admitS S2 b c d) w6 := by
         have hu := HU.out
         have hm1 : S2.q.m - 1 = m := by rw [HM.out]; omega
         have hr : (⟨S2.tk + 1, b, c, deadG S2.cf.ho S2.clk d, S2.clk⟩ : Rq) = ⟨u, b, c, dl, k⟩ := by rw [hu, HCC.out, HKK.out, HDL.out]
         have hok := HB2.out.ok.admits (b := b) HPOS.out HIC.out HID.out
         have hsz : w2.heap.size ≤ w3.heap.size := HH0.out.size
         have hb34 : Below (w2.setCell ⟨p, 26, none⟩ (.int .u64 u)).heap.size (w2.setCell ⟨p, 26, none⟩ (.int .u64 u)) w4 := by rw [HW3.out]; exact (Below.drew (Below.refl _ _)).trans HB4.out
         have hB5 := HB2.out.admit_ (s' := putS S2.q (S2.q.F m) m ⟨u, b, c, dl, k⟩) (u := u) (by simpa using hb34) HQ5.out HK5.out (by
           have e : ({ S2 with q := putS S2.q (S2.q.F m) m ⟨u, b, c, dl, k⟩, K := S2.K + 1, tk := u } : Cor) = admitS S2 b c d := by
             unfold admitS; rw [hm1, hr, hu]
           rw [e]; exact hok)
         have e : ({ S2 with q := putS S2.q (S2.q.F m) m ⟨u, b, c, dl, k⟩, K := S2.K + 1, tk := u } : Cor) = admitS S2 b c d := by
           unfold admitS; rw [hm1, hr, hu]
         rw [e] at hB5
         have hold : ∀ j, (j = p ∨ j = gc ∨ j = gm ∨ j = l ∨ r = some j ∨ Oq j) → O j ∨ W0.heap.size ≤ j := fun j hj => HO2.out j ((HOO.out j).2 hj)
         have hsz2 := HK2.out.size
         have hsz4 := HB4.out.size
         refine CStep.below ⟨_, hB5.to, fun j hj => ?_, ?_⟩ HB6.out
         · rcases hj with c1 | c1 | c1 | c1 | c1 | c1
           · exact hold j (.inl c1)
           · exact hold j (.inr (.inl c1))
           · exact hold j (.inr (.inr (.inl c1)))
           · exact hold j (.inr (.inr (.inr (.inl c1))))
           · exact hold j (.inr (.inr (.inr (.inr (.inl c1)))))
           · rcases HO5.out j c1 with c2 | c2
             · exact hold j (.inr (.inr (.inr (.inr (.inr c2)))))
             · right
               have : w3.heap.size ≤ w4.heap.size := hsz4
               omega
         · refine kept_step (O' := Oq) (kept_step (O := O) (O' := fun j => j = p) HK2.out (fun j hj => .inl (hj ▸ HOP.out)) (HH0.out.trans (Kept.of_below ((Below.drew (Below.refl _ _)).trans HB4.out)))) (fun j hj => hold j (.inr (.inr (.inr (.inr (.inr hj)))))) HK5.out
       have HFIN := Lib.hid hfin
       clear hfin
       have hVb := HVb.out
       have hZb := HZb.out
       subst hZb
       obtain ⟨WZ, hWZ⟩ : ∃ W, (((((w6.setCell ⟨g + 1, 0, none⟩ (.int .u8 1)).setCell ⟨g + 1, 1, none⟩ (.int .u64 u)).setCell ⟨g + 1, 2, none⟩ (.int .i64 b)).setCell ⟨g + 1, 3, none⟩ (.int .i64 c)).setCell ⟨g + 1, 4, none⟩ (.int .i64 0)) = W := ⟨_, rfl⟩
       have hf := FIN.out w6 _ (.int .u8 1) (.int .u64 u) (.int .i64 b) (.int .i64 c) (.int .i64 0) WZ (HFIN.out) hWZ.symm
       rw [hWZ]
       clear hWZ
       have d0 : WZ.cell? ⟨g + 1, 0, none⟩ = some (.int .u8 1) := hf.2.val rfl
       have d1 : WZ.cell? ⟨g + 1, 1, none⟩ = some (.int .u64 u) := hf.2.val rfl
       have d2 : WZ.cell? ⟨g + 1, 2, none⟩ = some (.int .i64 b) := hf.2.val rfl
       have d3 : WZ.cell? ⟨g + 1, 3, none⟩ = some (.int .i64 c) := hf.2.val rfl
       have d4 : WZ.cell? ⟨g + 1, 4, none⟩ = some (.int .i64 0) := hf.2.val rfl
       refine bodyPost_ret (v := .agg #[.int .u8 1, .int .u64 u, .int .i64 b, .int .i64 c, .int .i64 0]) (by simp [results, Tryz.results83, go_sem, d0, d1, d2, d3, d4]) rfl ⟨?_, hf.1⟩
       rw [← hVb, show S.tk + 1 = u from by rw [← HU.out, HSS.out.2.2.1]]
       rfl
   ·
     have hv2 : (v == 0) = false := by rw [beq_eq_false_iff_ne]; exact hv
     have hv3 : (v != 0) = true := by rw [bne, hv2]; rfl
     rw [if_neg hv] at hVa hZa
     subst hVa
     subst hZa
     unfold resv
     go_enter Tryz.func83, Tryz.ntmps83
     go_upto_region 1 with fail
     (try rw [hW0])
     (try rw [HG.out])
     clear hW0 hg
     go_wp2_with fail
     refine HJ.out.mono ?_
     rintro e w1 ⟨rfl, hb1⟩
     have hst := CStep.refl_ HL0.out hb1
     have hy1 := hst.blk (show Blk W0 (g + 1) resT _ by rw [← HG.out]; exact HY0.out) HN2.out
     have HST := Lib.hid hst
     clear hst hb1 x0 x1 x2 x3 c23
     have y0 : w1.cell? ⟨g + 1, 0, none⟩ = some (.int .u8 0) := (hy1).val rfl
     have z0 := (hy1).free 0
     have y1 : w1.cell? ⟨g + 1, 1, none⟩ = some (.int .u64 0) := (hy1).val rfl
     have z1 := (hy1).free 1
     have y2 : w1.cell? ⟨g + 1, 2, none⟩ = some (.int .i64 0) := (hy1).val rfl
     have z2 := (hy1).free 2
     have y3 : w1.cell? ⟨g + 1, 3, none⟩ = some (.int .i64 0) := (hy1).val rfl
     have z3 := (hy1).free 3
     have y4 : w1.cell? ⟨g + 1, 4, none⟩ = some (.int .i64 0) := (hy1).val rfl
     have z4 := (hy1).free 4
     clear hy1
     go_wp2
     obtain ⟨WZ, hWZ⟩ : ∃ W, (((((w1.setCell ⟨g + 1, 0, none⟩ (.int .u8 v)).setCell ⟨g + 1, 1, none⟩ (.int .u64 0)).setCell ⟨g + 1, 2, none⟩ (.int .i64 0)).setCell ⟨g + 1, 3, none⟩ (.int .i64 0)).setCell ⟨g + 1, 4, none⟩ (.int .i64 0)) = W := ⟨_, rfl⟩
     have hf := FIN.out w1 _ (.int .u8 v) (.int .u64 0) (.int .i64 0) (.int .i64 0) (.int .i64 0) WZ (HST.out) hWZ.symm
     rw [hWZ]
     clear hWZ
     have d0 : WZ.cell? ⟨g + 1, 0, none⟩ = some (.int .u8 v) := hf.2.val rfl
     have d1 : WZ.cell? ⟨g + 1, 1, none⟩ = some (.int .u64 0) := hf.2.val rfl
     have d2 : WZ.cell? ⟨g + 1, 2, none⟩ = some (.int .i64 0) := hf.2.val rfl
     have d3 : WZ.cell? ⟨g + 1, 3, none⟩ = some (.int .i64 0) := hf.2.val rfl
     have d4 : WZ.cell? ⟨g + 1, 4, none⟩ = some (.int .i64 0) := hf.2.val rfl
     refine bodyPost_ret (v := .agg #[.int .u8 v, .int .u64 0, .int .i64 0, .int .i64 0, .int .i64 0]) (by simp [results, Tryz.results83, go_sem, d0, d1, d2, d3, d4]) rfl ⟨?_, hf.1⟩
     rfl
 ·
   have hph2 : (S.ph == 0) = false := by rw [beq_eq_false_iff_ne]; exact hph
   have hph3 : (S.ph != 0) = true := by rw [bne, hph2]; rfl
   have hVa := HV.out
   have hZa := HZ.out
   rw [if_neg hph] at hVa hZa
   clear HV HZ
   subst hVa
   subst hZa
   unfold resv
   go_enter Tryz.func83, Tryz.ntmps83
   go_upto_region 1 with fail
   (try rw [hW0])
   (try rw [HG.out])
   clear hW0 hg
   have y0 : W0.cell? ⟨g + 1, 0, none⟩ = some (.int .u8 0) := ((show Blk W0 (g + 1) resT _ by rw [← HG.out]; exact HY0.out)).val rfl
   have z0 := ((show Blk W0 (g + 1) resT _ by rw [← HG.out]; exact HY0.out)).free 0
   have y1 : W0.cell? ⟨g + 1, 1, none⟩ = some (.int .u64 0) := ((show Blk W0 (g + 1) resT _ by rw [← HG.out]; exact HY0.out)).val rfl
   have z1 := ((show Blk W0 (g + 1) resT _ by rw [← HG.out]; exact HY0.out)).free 1
   have y2 : W0.cell? ⟨g + 1, 2, none⟩ = some (.int .i64 0) := ((show Blk W0 (g + 1) resT _ by rw [← HG.out]; exact HY0.out)).val rfl
   have z2 := ((show Blk W0 (g + 1) resT _ by rw [← HG.out]; exact HY0.out)).free 2
   have y3 : W0.cell? ⟨g + 1, 3, none⟩ = some (.int .i64 0) := ((show Blk W0 (g + 1) resT _ by rw [← HG.out]; exact HY0.out)).val rfl
   have z3 := ((show Blk W0 (g + 1) resT _ by rw [← HG.out]; exact HY0.out)).free 3
   have y4 : W0.cell? ⟨g + 1, 4, none⟩ = some (.int .i64 0) := ((show Blk W0 (g + 1) resT _ by rw [← HG.out]; exact HY0.out)).val rfl
   have z4 := ((show Blk W0 (g + 1) resT _ by rw [← HG.out]; exact HY0.out)).free 4
   go_wp2
   obtain ⟨WZ, hWZ⟩ : ∃ W, (((((W0.setCell ⟨g + 1, 0, none⟩ (.int .u8 6)).setCell ⟨g + 1, 1, none⟩ (.int .u64 0)).setCell ⟨g + 1, 2, none⟩ (.int .i64 0)).setCell ⟨g + 1, 3, none⟩ (.int .i64 0)).setCell ⟨g + 1, 4, none⟩ (.int .i64 0)) = W := ⟨_, rfl⟩
   have hf := FIN.out W0 _ (.int .u8 6) (.int .u64 0) (.int .i64 0) (.int .i64 0) (.int .i64 0) WZ (CStep.refl_ HL0.out (Below.refl _ _)) hWZ.symm
   rw [hWZ]
   clear hWZ
   have d0 : WZ.cell? ⟨g + 1, 0, none⟩ = some (.int .u8 6) := hf.2.val rfl
   have d1 : WZ.cell? ⟨g + 1, 1, none⟩ = some (.int .u64 0) := hf.2.val rfl
   have d2 : WZ.cell? ⟨g + 1, 2, none⟩ = some (.int .i64 0) := hf.2.val rfl
   have d3 : WZ.cell? ⟨g + 1, 3, none⟩ = some (.int .i64 0) := hf.2.val rfl
   have d4 : WZ.cell? ⟨g + 1, 4, none⟩ = some (.int .i64 0) := hf.2.val rfl
   refine bodyPost_ret (v := .agg #[.int .u8 6, .int .u64 0, .int .i64 0, .int .i64 0, .int .i64 0]) (by simp [results, Tryz.results83, go_sem, d0, d1, d2, d3, d4]) rfl ⟨?_, hf.1⟩
   rfl
end
end Go.Proofs.YtcffeokbipjaoaaGreat
