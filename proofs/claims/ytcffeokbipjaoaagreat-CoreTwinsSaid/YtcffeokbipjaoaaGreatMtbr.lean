/- Texts of this claim, one behind the other: Cox. -/
import Derived.Test.YtcffeokbipjaoaaGreatMtbo
import Derived.Test.YtcffeokbipjaoaaGreatMtbq
namespace Go.Proofs.YtcffeokbipjaoaaGreat
open Go.ChangeShapes Go.WideShapes Go.RowKit Kn
set_option linter.unusedVariables false
set_option linter.unusedSimpArgs false
theorem Lists.rm {N M : Nat} {L : Nat → List Nat} (h : Lists N M L) (i : Nat) : Lists N M (remL N L i) := by
 have sub : ∀ r x, x ∈ remL N L i r → x ∈ L r := fun r x hx => by
   unfold remL at hx
   split at hx
   · exact (List.mem_filter.1 hx).1
   · exact hx
 refine ⟨fun r hr x hx => h.lt r hr x (sub r x hx), fun r hr => ?_, fun r r' hr hr' x hx hx' => h.ap r r' hr hr' x (sub r x hx) (sub r' x hx')⟩
 unfold remL
 rw [if_pos hr]
 exact (h.nd r hr).filter _
theorem last_plain {S : Cor} {t : Nat} (ht : t < S.N) (h0 : 0 < (S.q.L t).length) : LastIs S (lastE S) := by
 obtain ⟨u, hu, hp, hr⟩ := last_ge (fun u => 0 < (S.q.L u).length) S.N ⟨t, ht, h0⟩
 exact lastE_is ⟨u, hu, hp, fun r h1 h2 => by have := hr r h1 h2; omega⟩
theorem thin_like (t : Nat) : ∀ (f : Nat) (S : Cor) (st : Cst) (d : Int), S.like (thinGo t f S st d).1
 | 0, S, _, _ => Cor.like.refl_ S
 | f + 1, S, st, d => by
   unfold thinGo
   split
   · exact Cor.like.refl_ S
   · split
     · split
       · exact settleS_like S _ 5
       · exact (settleS_like S _ 5).trans (thin_like t f _ _ _)
     · exact settleS_like S _ 5
theorem thin_pos (t : Nat) : ∀ (f : Nat) (S : Cor) (st : Cst) (d : Int), Lists S.N S.n S.q.L → t < S.N → 0 < (S.q.L t).length → (d = 0 ∨ 1 < (S.q.L t).length) → 0 < ((thinGo t f S st d).1.q.L t).length
 | 0, S, _, _, _, _, h0, _ => h0
 | f + 1, S, st, d, hl, ht, h0, hd => by
   unfold thinGo
   split
   · exact h0
   · rename_i hd0
     have h1 : 1 < (S.q.L t).length := by rcases hd with e | e; exact absurd e hd0; exact e
     have hlen := settle_len (why := 5) hl ht (canI_mem (S := S) h0)
     split
     · split
       · show 0 < ((settleS S (canI S t) 5).q.L t).length
         omega
       · refine thin_pos t f _ _ _ (hl.rm _) ht (by omega) ?_
         have := more_dec st S.cf.iv S.clk (hbOf (settleS S (canI S t) 5) t)
         rcases this with e | ⟨e1, _⟩
         · exact .inl e
         · refine .inr ?_
           unfold hbOf at e1
           exact highB_two e1
     · rename_i hne
       have hla := last_plain ht h0
       show 0 < (remL S.N S.q.L (hdE (S.q.L (lastE S))) t).length
       rw [hl.rem_far hla.1 (hdE_mem hla.2.1) (fun e => hne e.symm)]
       exact h0
theorem thinS_facts {S : Cor} {t : Nat} (hl : Lists S.N S.n S.q.L) (ht : t < S.N) (h0 : 0 < (S.q.L t).length) : 0 < ((thinS S t).q.L t).length ∧ (thinS S t).N = S.N ∧ (thinS S t).K = S.K := by
 have h1 := thin_like t (S.q.L t).length S (lookC (S.cod t) S.cf.iv S.clk (hbOf S t)).1 (lookC (S.cod t) S.cf.iv S.clk (hbOf S t)).2
 have h2 := thin_pos t (S.q.L t).length S (lookC (S.cod t) S.cf.iv S.clk (hbOf S t)).1 (lookC (S.cod t) S.cf.iv S.clk (hbOf S t)).2 hl ht h0 (by
   rcases look_dec (S.cod t) S.cf.iv S.clk (hbOf S t) with e | ⟨e1, _⟩
   · exact .inl e
   · refine .inr ?_
     unfold hbOf at e1
     exact highB_two e1)
 exact ⟨h2, h1.N, h1.K⟩
open Classical in
noncomputable def firstE (S : Cor) : Nat := if h : ∃ u, FirstIs S u then Classical.choose h else 0
theorem firstE_is {S : Cor} (h : ∃ u, FirstIs S u) : FirstIs S (firstE S) := by
 unfold firstE; rw [dif_pos h]; exact Classical.choose_spec h
theorem FirstIs.uni {S : Cor} {u v : Nat} (h : FirstIs S u) (h' : FirstIs S v) : u = v := by
 rcases Nat.lt_trichotomy u v with c | c | c
 · have := h'.2.2 u c; have := h.2.1; omega
 · exact c
 · have := h.2.2 v c; have := h'.2.1; omega
theorem first_none {S : Cor} (h : ¬ ∃ u, FirstIs S u) : ∀ r, r < S.N → (S.q.L r).length = 0 := by
 intro r
 induction r using Nat.strongRecOn with
 | _ r ih =>
   intro hr
   rcases Nat.eq_zero_or_pos (S.q.L r).length with e | e
   · exact e
   · exact absurd ⟨r, hr, e, fun j hj => ih j hj (by omega)⟩ h
noncomputable def pollM (S : Cor) : Cor := thinS (turnS (restK S S.N) (firstE S)) (firstE S)
open Classical in
noncomputable def pollS (S : Cor) : Cor := if S.ph = 2 then S else if ∃ u, FirstIs S u then settleS (pollM S) (canI (pollM S) (firstE S)) 1 else restK S S.N
open Classical in
noncomputable def pollR (S : Cor) : Int × Int × Int × Int × Int := if S.ph = 2 then (9, 0, 0, 0, 0) else if ∃ u, FirstIs S u then
   (7, ((pollM S).q.R (canI (pollM S) (firstE S))).a, ((pollM S).q.R (canI (pollM S) (firstE S))).b, ((pollM S).q.R (canI (pollM S) (firstE S))).c, sat ((pollM S).clk - ((pollM S).q.R (canI (pollM S) (firstE S))).e)) else (8, 0, 0, 0, 0)
section
variable {w w' w'' : World} {p q gc gm l g b : Nat} {r r' : Option Nat} {O Oq Oq' O1 : Nat → Prop} {S S' : Cor} {T : TypeId} {cs : Array Value}
structure One (w0 wr : World) (p b : Nat) (T : TypeId) (cs : Array Value) (O : Nat → Prop) (S : Cor) (O1 : Nat → Prop) : Prop where
 co : CoreL wr p O1 S
 sub : ∀ k, O1 k → O k ∨ w0.heap.size ≤ k
 kp : Kept O w0 wr
 bb : Blk wr b T cs
 nb : ¬ O1 b
 lb : w0.heap.size ≤ b
theorem One.step {w0 wr w' : World} (h : One w0 wr p b T cs O S O1) (hc : CStep wr p O1 S' w') : ∃ O2, One w0 w' p b T cs O S' O2 := by
 obtain ⟨h1, h2, h3, h4, h5, h6⟩ := h
 have hs := h3.size
 obtain ⟨O2, c1, c2, c3⟩ := hc
 refine ⟨O2, c1, fun k hk => ?_, kept_step h3 h2 c3, h4.kept c3 h5, fun e => ?_, h6⟩
 · rcases c2 k hk with e | e
   · exact h2 k e
   · right; omega
 · rcases c2 _ e with d | d
   · exact h5 d
   · have := h4.size; omega
theorem One.below {w0 wr w' : World} (h : One w0 wr p b T cs O S O1) (hb : Below wr.heap.size wr w') : One w0 w' p b T cs O S O1 :=
 ⟨h.co.below hb, h.sub, kept_step h.kp h.sub (Kept.of_below hb), h.bb.below_ hb h.bb.size, h.nb, h.lb⟩
theorem One.fin {w0 wr : World} {x0 x1 x2 x3 x4 y0 y1 y2 y3 y4 : Value} (h : One w0 wr p b T #[x0, x1, x2, x3, x4] O S O1) (hT : T ∉ tqTypes) : CStep w0 p O S (put5 wr b y0 y1 y2 y3 y4) ∧ Blk (put5 wr b y0 y1 y2 y3 y4) b T #[y0, y1, y2, y3, y4] :=
 ⟨⟨O1, h.co.box_ h.bb hT h.nb put5_kept, h.sub, kept_step (O' := fun k => k = b) h.kp (fun k hk => .inr (by have := h.lb; omega)) put5_kept⟩, put5_blk h.bb⟩
def z5 : Array Value := #[.int .u8 0, .int .u64 0, .int .i64 0, .int .i64 0, .int .i64 0]
set_option maxRecDepth 100000 in
set_option maxHeartbeats 8000000 in
theorem co_poll (a b c d : Int) (h : CoreL w p O S) (hK : S.K ≤ 1000) :
   Calls Tryz.prog 84 #[.pointer (some ⟨p, 0, none⟩), opv a b c d] w fun e w' => e = .returned (resv (pollR S).1 (pollR S).2.1 (pollR S).2.2.1 (pollR S).2.2.2.1 (pollR S).2.2.2.2) ∧ CStep w p O (pollS S) w' := by
 unfold opv resv
 have HL := Lib.hid h
 have hlt := h.lt (k := p) (by obtain ⟨q, gc, gm, l, r, Oq, h1, h2⟩ := h.cells; exact (h2 p).2 (.inl rfl))
 have hOs : ∀ k, O k → k < w.heap.size := fun k hk => h.lt hk
 clear h
 go_enter Tryz.func84, Tryz.ntmps84
 go_upto_region 1 with fail
 refine wp_worldx (fun wx => One w wx p (w.heap.size + 1) resT #[.int .u8 0, .int .u64 0, .int .i64 0, .int .i64 0, .int .i64 0] O S O) ⟨HL.out.below (((Below.refl _ _).alloc (Nat.le_refl _) _).alloc (by simp) _), fun k hk => .inl hk, Kept.of_below (((Below.refl _ _).alloc (Nat.le_refl _) _).alloc (by simp) _), Blk.new_ (by simp), fun e => by have := hOs _ e; omega, by omega⟩ ?_
 obtain ⟨g, hg⟩ : ∃ g, w.heap.size + 1 = g := ⟨_, rfl⟩
 rw [hg]
 rintro w1 hT
 have HT := Lib.hid hT
 clear hT HL hlt
 obtain ⟨q, gc, gm, l, r, Oq, hB, hO⟩ := HT.out.co.cells
 have c23 := hB.c23
 have c16 := hB.c16
 have hN8 := hB.ok.N8
 clear hB hO
 by_cases h2 : S.ph = 2
 · have HPS : Hid (pollS S = S) := Lib.hid (if_pos h2)
   have HPR : Hid (pollR S = (9, 0, 0, 0, 0)) := Lib.hid (if_pos h2)
   have y0 : w1.cell? ⟨g, 0, none⟩ = some (.int .u8 0) := HT.out.bb.val rfl
   have y1 : w1.cell? ⟨g, 1, none⟩ = some (.int .u64 0) := HT.out.bb.val rfl
   have y2 : w1.cell? ⟨g, 2, none⟩ = some (.int .i64 0) := HT.out.bb.val rfl
   have y3 : w1.cell? ⟨g, 3, none⟩ = some (.int .i64 0) := HT.out.bb.val rfl
   have y4 : w1.cell? ⟨g, 4, none⟩ = some (.int .i64 0) := HT.out.bb.val rfl
   have yf := HT.out.bb.free
   go_wp2_with fail
   have hf := HT.out.fin (y0 := .int .u8 9) (y1 := .int .u64 0) (y2 := .int .i64 0) (y3 := .int .i64 0) (y4 := .int .i64 0) resT_not
   obtain ⟨WZ, hWZ⟩ : ∃ W, put5 w1 g (.int .u8 9) (.int .u64 0) (.int .i64 0) (.int .i64 0) (.int .i64 0) = W := ⟨_, rfl⟩
   rw [hWZ] at hf
   unfold put5 at hWZ
   rw [hWZ]
   clear hWZ y0 y1 y2 y3 y4 yf
   have d0 : WZ.cell? ⟨g, 0, none⟩ = some (.int .u8 9) := hf.2.val rfl
   have d1 : WZ.cell? ⟨g, 1, none⟩ = some (.int .u64 0) := hf.2.val rfl
   have d2 : WZ.cell? ⟨g, 2, none⟩ = some (.int .i64 0) := hf.2.val rfl
   have d3 : WZ.cell? ⟨g, 3, none⟩ = some (.int .i64 0) := hf.2.val rfl
   have d4 : WZ.cell? ⟨g, 4, none⟩ = some (.int .i64 0) := hf.2.val rfl
   exact bodyPost_ret (v := .agg #[.int .u8 9, .int .u64 0, .int .i64 0, .int .i64 0, .int .i64 0]) (by simp [results, Tryz.results84, go_sem, d0, d1, d2, d3, d4]) rfl ⟨by rw [HPR.out], by rw [HPS.out]; exact hf.1⟩
 · go_wp2_with fail
   refine (co_rest HT.out.co hK).mono ?_
   rintro e w2 ⟨⟨v, rfl⟩, hst⟩
   obtain ⟨O2, hT2⟩ := HT.out.step hst
   have HT2 := Lib.hid hT2
   clear hst hT2 HT c16 c23
   obtain ⟨q, gc, gm, l, r, Oq, hB, hO⟩ := HT2.out.co.cells
   have c16 := hB.c16
   have HQ := Lib.hid hB.que
   clear hB hO
   by_cases hf0 : ∃ u, FirstIs S u
   · have hfi := firstE_is hf0
     have hps : pollS S = settleS (pollM S) (canI (pollM S) (firstE S)) 1 := by unfold pollS; rw [if_neg h2, if_pos hf0]
     have hpr : pollR S = (7, ((pollM S).q.R (canI (pollM S) (firstE S))).a, ((pollM S).q.R (canI (pollM S) (firstE S))).b, ((pollM S).q.R (canI (pollM S) (firstE S))).c, sat ((pollM S).clk - ((pollM S).q.R (canI (pollM S) (firstE S))).e)) := by unfold pollR; rw [if_neg h2, if_pos hf0]
     obtain ⟨t, ht⟩ : ∃ t, firstE S = t := ⟨_, rfl⟩
     rw [ht] at hfi hps hpr
     have HPS := Lib.hid hps
     have HPR := Lib.hid hpr
     have HFT := Lib.hid ht
     clear ht hps hpr
     have htN : t < S.N := hfi.1
     have hl0 : 0 < (S.q.L t).length := hfi.2.1
     have ht0 : (0 : Int) ≤ (t : Int) := by omega
     have HFI := Lib.hid hfi
     clear hfi hf0
     obtain ⟨S1, hS1⟩ : ∃ s, restK S S.N = s := ⟨_, rfl⟩
     have e1 : S1.N = S.N ∧ S1.K = S.K ∧ S1.q = S.q := by rw [← hS1]; exact ⟨rfl, rfl, rfl⟩
     rw [hS1] at HT2 HQ
     have HS1 := Lib.hid hS1
     clear hS1
     obtain ⟨e1N, e1K, e1q⟩ := e1
     go_wp2_with fail
     refine (tq_first (t := t) HQ.out.toL (by rw [e1N]; exact htN) (by rw [e1q]; exact hl0) (by rw [e1q]; exact HFI.out.2.2) (by rw [e1N]; omega)).mono ?_
     rintro e w3 ⟨rfl, rfl⟩
     go_wp2_with fail
     refine (co_turn HT2.out.co (t := t) (by rw [e1N]; exact htN) (by rw [e1q]; exact hl0) (by rw [e1K]; exact hK)).mono ?_
     rintro e w3 ⟨⟨v, rfl⟩, hst⟩
     obtain ⟨O3, hT3⟩ := HT2.out.step hst
     have HT3 := Lib.hid hT3
     clear hst hT3 HT2 c16 HQ
     obtain ⟨S2, hS2⟩ : ∃ s, turnS S1 t = s := ⟨_, rfl⟩
     have e2 : S2.N = S1.N ∧ S2.K = S1.K ∧ S2.q = S1.q := by rw [← hS2]; exact ⟨rfl, rfl, rfl⟩
     rw [hS2] at HT3
     have HS2 := Lib.hid hS2
     clear hS2
     obtain ⟨e2N, e2K, e2q⟩ := e2
     have h2l : 0 < (S2.q.L t).length := by rw [e2q, e1q]; exact hl0
     have h2N : t < S2.N := by rw [e2N, e1N]; exact htN
     have hfa := thinS_facts HT3.out.co.lists h2N h2l
     go_wp2_with fail
     refine (co_thin HT3.out.co h2N h2l (by rw [e2K, e1K]; exact hK)).mono ?_
     rintro e w4 ⟨⟨v, rfl⟩, hst⟩
     obtain ⟨O4, hT4⟩ := HT3.out.step hst
     have HT4 := Lib.hid hT4
     clear hst hT4 HT3
     obtain ⟨S3, hS3⟩ : ∃ s, thinS S2 t = s := ⟨_, rfl⟩
     rw [hS3] at HT4 hfa
     have hM : pollM S = S3 := by unfold pollM; rw [HFT.out, HS1.out, HS2.out, hS3]
     have HM := Lib.hid hM
     clear hS3 hM
     obtain ⟨h3l, e3N, e3K⟩ := hfa
     have h3N : t < S3.N := by rw [e3N]; exact h2N
     obtain ⟨ci, hci⟩ : ∃ c, canI S3 t = c := ⟨_, rfl⟩
     have hcm := HT4.out.co.mem h3N (canI_mem h3l)
     obtain ⟨x, hx⟩ : ∃ x, S3.q.H ci = x := ⟨_, rfl⟩
     have HCI := Lib.hid hci
     have HX := Lib.hid hx
     rw [hci] at hcm
     have HCM := Lib.hid hcm
     clear hci hx hcm
     go_wp2_with fail
     refine (co_candidate HT4.out.co h3N h3l).mono ?_
     rw [HCI.out, HX.out]
     rintro e w5 ⟨rfl, hb5⟩
     have HT5 := Lib.hid (HT4.out.below hb5)
     clear hb5 HT4
     go_wp2_with fail
     refine (co_settle (why := 1) HT5.out.co HCM.out.1 HCM.out.2.1 HX.out (by rw [e3K, e2K, e1K]; exact hK) (by omega) (by omega)).mono ?_
     rintro e w6 ⟨rfl, hst⟩
     obtain ⟨O6, hT6⟩ := HT5.out.step hst
     have HT6 := Lib.hid hT6
     clear hst hT6 HT5
     obtain ⟨⟨oa, ob, oc, ow, ot, os⟩, ho⟩ : ∃ o, ocOf S3 ci 1 = o := ⟨_, rfl⟩
     have hoe : (S3.q.R ci).a = oa ∧ (S3.q.R ci).b = ob ∧ (S3.q.R ci).c = oc ∧ sat (S3.clk - (S3.q.R ci).e) = os := by unfold ocOf at ho; injection ho with e1 e2 e3 e4 e5 e6; exact ⟨e1, e2, e3, e6⟩
     rw [ho]
     have HOE := Lib.hid hoe
     clear ho hoe
     go_upto_region 10 with fail
     refine wp_worldx (fun wx => One w wx p g resT #[.int .u8 0, .int .u64 0, .int .i64 0, .int .i64 0, .int .i64 0] O (settleS S3 ci 1) O6 ∧ Blk wx w6.heap.size 164 #[.int .u64 oa, .int .i64 ob, .int .i64 oc, .int .u8 ow, .int .i64 ot, .int .i64 os]) ⟨HT6.out.below ((Below.refl _ _).alloc (Nat.le_refl _) _), Blk.made _ _ _⟩ ?_
     obtain ⟨g7, hg7⟩ : ∃ g, w6.heap.size = g := ⟨_, rfl⟩
     rw [hg7]
     clear HT6 hg7
     rintro w7 ⟨h7, hb7⟩
     have HT := Lib.hid h7
     have b0 : w7.cell? ⟨g7, 0, none⟩ = some (.int .u64 oa) := hb7.val rfl
     have b1 : w7.cell? ⟨g7, 1, none⟩ = some (.int .i64 ob) := hb7.val rfl
     have b2 : w7.cell? ⟨g7, 2, none⟩ = some (.int .i64 oc) := hb7.val rfl
     have b5 : w7.cell? ⟨g7, 5, none⟩ = some (.int .i64 os) := hb7.val rfl
     clear h7 hb7
     have y0 : w7.cell? ⟨g, 0, none⟩ = some (.int .u8 0) := HT.out.bb.val rfl
     have y1 : w7.cell? ⟨g, 1, none⟩ = some (.int .u64 0) := HT.out.bb.val rfl
     have y2 : w7.cell? ⟨g, 2, none⟩ = some (.int .i64 0) := HT.out.bb.val rfl
     have y3 : w7.cell? ⟨g, 3, none⟩ = some (.int .i64 0) := HT.out.bb.val rfl
     have y4 : w7.cell? ⟨g, 4, none⟩ = some (.int .i64 0) := HT.out.bb.val rfl
     have yf := HT.out.bb.free
     go_wp2_with fail
     have hf := HT.out.fin (y0 := .int .u8 7) (y1 := .int .u64 oa) (y2 := .int .i64 ob) (y3 := .int .i64 oc) (y4 := .int .i64 os) resT_not
     obtain ⟨WZ, hWZ⟩ : ∃ W, put5 w7 g (.int .u8 7) (.int .u64 oa) (.int .i64 ob) (.int .i64 oc) (.int .i64 os) = W := ⟨_, rfl⟩
     rw [hWZ] at hf
     unfold put5 at hWZ
     rw [hWZ]
     clear hWZ y0 y1 y2 y3 y4 yf
     have d0 : WZ.cell? ⟨g, 0, none⟩ = some (.int .u8 7) := hf.2.val rfl
     have d1 : WZ.cell? ⟨g, 1, none⟩ = some (.int .u64 oa) := hf.2.val rfl
     have d2 : WZ.cell? ⟨g, 2, none⟩ = some (.int .i64 ob) := hf.2.val rfl
     have d3 : WZ.cell? ⟨g, 3, none⟩ = some (.int .i64 oc) := hf.2.val rfl
     have d4 : WZ.cell? ⟨g, 4, none⟩ = some (.int .i64 os) := hf.2.val rfl
     exact bodyPost_ret (v := .agg #[.int .u8 7, .int .u64 oa, .int .i64 ob, .int .i64 oc, .int .i64 os]) (by simp [results, Tryz.results84, go_sem, d0, d1, d2, d3, d4]) rfl ⟨by rw [HPR.out, HM.out, HCI.out, HOE.out.1, HOE.out.2.1, HOE.out.2.2.1, HOE.out.2.2.2], by rw [HPS.out, HM.out, HCI.out]; exact hf.1⟩
   · have hps : pollS S = restK S S.N := by unfold pollS; rw [if_neg h2, if_neg hf0]
     have hpr : pollR S = (8, 0, 0, 0, 0) := by unfold pollR; rw [if_neg h2, if_neg hf0]
     have HPS := Lib.hid hps
     have HPR := Lib.hid hpr
     have hz := first_none hf0
     have HT := HT2
     clear HT2 hps hpr hf0
     go_wp2_with fail
     refine (tqo_none HQ.out hz (by show S.N ≤ 1000; omega)).mono ?_
     rintro e w3 ⟨rfl, rfl⟩
     clear hz
     have y0 : w2.cell? ⟨g, 0, none⟩ = some (.int .u8 0) := HT.out.bb.val rfl
     have y1 : w2.cell? ⟨g, 1, none⟩ = some (.int .u64 0) := HT.out.bb.val rfl
     have y2 : w2.cell? ⟨g, 2, none⟩ = some (.int .i64 0) := HT.out.bb.val rfl
     have y3 : w2.cell? ⟨g, 3, none⟩ = some (.int .i64 0) := HT.out.bb.val rfl
     have y4 : w2.cell? ⟨g, 4, none⟩ = some (.int .i64 0) := HT.out.bb.val rfl
     have yf := HT.out.bb.free
     go_wp2_with fail
     have hf := HT.out.fin (y0 := .int .u8 8) (y1 := .int .u64 0) (y2 := .int .i64 0) (y3 := .int .i64 0) (y4 := .int .i64 0) resT_not
     obtain ⟨WZ, hWZ⟩ : ∃ W, put5 w2 g (.int .u8 8) (.int .u64 0) (.int .i64 0) (.int .i64 0) (.int .i64 0) = W := ⟨_, rfl⟩
     rw [hWZ] at hf
     unfold put5 at hWZ
     rw [hWZ]
     clear hWZ y0 y1 y2 y3 y4 yf
     have d0 : WZ.cell? ⟨g, 0, none⟩ = some (.int .u8 8) := hf.2.val rfl
     have d1 : WZ.cell? ⟨g, 1, none⟩ = some (.int .u64 0) := hf.2.val rfl
     have d2 : WZ.cell? ⟨g, 2, none⟩ = some (.int .i64 0) := hf.2.val rfl
     have d3 : WZ.cell? ⟨g, 3, none⟩ = some (.int .i64 0) := hf.2.val rfl
     have d4 : WZ.cell? ⟨g, 4, none⟩ = some (.int .i64 0) := hf.2.val rfl
     exact bodyPost_ret (v := .agg #[.int .u8 8, .int .u64 0, .int .i64 0, .int .i64 0, .int .i64 0]) (by simp [results, Tryz.results84, go_sem, d0, d1, d2, d3, d4]) rfl ⟨by rw [HPR.out], by rw [HPS.out]; exact hf.1⟩
end
end Go.Proofs.YtcffeokbipjaoaaGreat
