/- Texts of this claim, one behind the other: Fnk. -/
import Derived.Test.YtcffeokbipjaoaaGreatMubk
namespace Go.Proofs.YtcffeokbipjaoaaGreat
open Go.ChangeShapes Go.WideShapes Go.RowKit Go.Deep
set_option linter.unusedVariables false
set_option linter.unusedSimpArgs false
theorem anyU_pick {P : Program} {ops : Array Oper} {Q : Exit → Act → World → Prop} {md : Region.Mode} {S : World → Prop} {fs bs rs : List Nat} {f : Nat} {l : Array Bool} {a : Act} {D : World → Prop} (hr : Region.ready md ops l = rs) (hne : rs ≠ [])
   (h : ∀ i ∈ rs, fs.contains i = true ∧ ∀ w, S w → D w → wpOp P ops Q i (fun a' w' => S w' ∧ ∃ D', Still D' ∧ D' w' ∧ anyU P md ops Q S fs bs f (l.setIfInBounds i true) a' D') a w) : anyU P md ops Q S fs bs (f + 1) l a D :=
 ⟨fun h0 => absurd (hr.symm.trans h0) hne, fun i hi => .inr (.inl (h i (hr ▸ hi)))⟩
theorem apinfo : (Tryz.prog.info? apT).map (fun i => (i.zero, i.size, i.bytes)) = some (some (.agg #[.int .i64 0, .int .i64 0, .int .u8 0, .int .i64 0, .int .i64 0, .int .i64 0, .int .u8 0, .int .u64 0, .int .i64 0, .int .i64 0, .int .i64 0]), 11, 88) := by kernel_rfl
theorem ap_one (x : ApV) : ∀ u ∈ apRow x, u.oneCell' = true := by
 intro u hu
 unfold apRow at hu
 simp only [List.mem_cons, List.not_mem_nil, or_false] at hu
 rcases hu with rfl | rfl | rfl | rfl | rfl | rfl | rfl | rfl | rfl | rfl | rfl <;> rfl
section
variable {w w' w0 : World} {f : Nat} {A A0 : FAd} {F F0 : FrS} {B : Nat}
theorem FrB.toApp (h : FrB w f A F) {x : Nat} {ga : Option Nat} {v : Value} {L : List ApV} (hk : Kept (fun k => k = f ∨ A.ga = some k) w w') (hd : Blk w' f frT #[.pointer (some ⟨A.pc, 0, none⟩), .pointer (some ⟨A.r, 0, none⟩), .pointer (some ⟨A.lk, 0, none⟩), .slice (some ⟨A.gb, 0, none⟩) F.N A.bc, .slice (some ⟨A.gc, 0, none⟩) F.N F.N, .int .i64 F.clk, .pointer (some ⟨x, 0, none⟩)]) (hx : Blk w' x asT #[v]) (ho : w'.ownsRow 0 apT 11 v L.length (flatA L)) (hv : v.ownBlock = ga) :
   FrB w' f { A with pa := x, ga := ga } { F with L := L } := by
 obtain ⟨v0, ha, ho0, hv0⟩ := h.app
 have hga : ∀ k, A.ga = some k → ∃ cs, Blk w k apT cs := fun k e => by
   rcases ho0.2 with ⟨rfl, _⟩ | ⟨g, cap, cur, rfl, _, hg, _⟩
   · rw [← hv0] at e; simp [Value.ownBlock] at e
   · rw [← hv0] at e
     have e' : g = k := by simpa [Value.ownBlock] using e
     exact ⟨cur, e' ▸ hg⟩
 have hf : Far w [frT, apT] (fun k => k = f ∨ A.ga = some k) := fun k T cs hb hT hm => by
   simp only [List.mem_cons, List.not_mem_nil, or_false, not_or] at hT
   rcases hm with e | e
   · exact hb.other h.head hT.1 e
   · obtain ⟨cs', hb'⟩ := hga k e
     exact hb.other hb' hT.2 rfl
 have hoo : ∀ k, (k = f ∨ A.ga = some k) → k < w.heap.size → ∃ T cs, T ∈ [frT, apT] ∧ Blk w k T cs := fun k hm _ => by
   rcases hm with e | e
   · exact ⟨_, _, by simp, e ▸ h.head⟩
   · obtain ⟨cs', hb'⟩ := hga k e
     exact ⟨_, _, by simp, hb'⟩
 exact ⟨hd, h.core_f hk hf (by decide) hoo, h.ring_f hk hf (by decide) (by decide), h.lock_f hk hf (by decide), h.bxs_f hk hf (by decide), h.box_f hk hf (by decide), h.cal_f hk hf (by decide), h.act_f hk hf (by decide), ⟨v, hx, ho, hv⟩, h.bxi, h.aci⟩
theorem FOn.toApp (h : FOn w0 f A0 F0 w A F) {x : Nat} {ga : Option Nat} {v : Value} {L : List ApV} (hk : Kept (fun k => k = f ∨ A.ga = some k) w w') (hd : Blk w' f frT #[.pointer (some ⟨A.pc, 0, none⟩), .pointer (some ⟨A.r, 0, none⟩), .pointer (some ⟨A.lk, 0, none⟩), .slice (some ⟨A.gb, 0, none⟩) F.N A.bc, .slice (some ⟨A.gc, 0, none⟩) F.N F.N, .int .i64 F.clk, .pointer (some ⟨x, 0, none⟩)]) (hx : Blk w' x asT #[v]) (ho : w'.ownsRow 0 apT 11 v L.length (flatA L)) (hv : v.ownBlock = ga) (hxn : w0.heap.size ≤ x) (hgn : ∀ k, ga = some k → A.ga = some k ∨ w0.heap.size ≤ k) :
   FOn w0 f A0 F0 w' { A with pa := x, ga := ga } { F with L := L } :=
 ⟨h.b.toApp hk hd hx ho hv, h.keep hk (fun k e => by
   rcases e with e | e
   · exact e ▸ fOwn.f_ ..
   · exact fOwn.ga_ _ _ _ e), fun k hk' => by
   rcases hk' with e | e | e | e | e | e | e | e | e | e | e
   · exact h.o k (.inl e)
   · exact h.o k (.inr (.inl e))
   · exact h.o k (.inr (.inr (.inl e)))
   · exact h.o k (.inr (.inr (.inr (.inl e))))
   · exact h.o k (.inr (.inr (.inr (.inr (.inl e)))))
   · exact h.o k (.inr (.inr (.inr (.inr (.inr (.inl e))))))
   · exact h.o k (.inr (.inr (.inr (.inr (.inr (.inr (.inl e)))))))
   · exact .inr (by have e' : k = x := e; omega)
   · rcases hgn k e with c | c
     · exact h.o k (fOwn.ga_ _ _ _ c)
     · exact .inr c
   · exact h.o k (.inr (.inr (.inr (.inr (.inr (.inr (.inr (.inr (.inr (.inl e))))))))))
   · exact h.o k (.inr (.inr (.inr (.inr (.inr (.inr (.inr (.inr (.inr (.inr e))))))))))⟩
set_option maxRecDepth 100000 in
set_option maxHeartbeats 8000000 in
theorem fr_record (h : FrB w f A F) (a : ApV) (hl : F.L.length ≤ 100000) : Calls Tryz.prog 109 #[.pointer (some ⟨f, 0, none⟩), .agg ⟨apRow a⟩] w fun e w' => e = .returned (.tuple #[]) ∧ ∃ A', FOn w f A F w' A' { F with L := F.L ++ [a] } ∧ A'.gc = A.gc := by
 obtain ⟨p0, p1, ⟨p2, p3, p4, p5⟩, ⟨p6, p7, p8, p9, p10⟩⟩ := a
 have hrow : apRow ⟨p0, p1, ⟨p2, p3, p4, p5⟩, ⟨p6, p7, p8, p9, p10⟩⟩ = [.int .i64 p0, .int .i64 p1, .int .u8 p2, .int .i64 p3, .int .i64 p4, .int .i64 p5, .int .u8 p6, .int .u64 p7, .int .i64 p8, .int .i64 p9, .int .i64 p10] := rfl
 have hone := ap_one ⟨p0, p1, ⟨p2, p3, p4, p5⟩, ⟨p6, p7, p8, p9, p10⟩⟩
 rw [hrow] at hone ⊢
 obtain ⟨i0, hi0, hz0, hz1, hz2⟩ := inf_of apinfo
 have H := Lib.hid h
 have HL := Lib.hid hl
 have HONE := Lib.hid hone
 have HRQ := Lib.hid hrow
 clear h hl hone hrow
 go_enter Tryz.func109, Tryz.ntmps109
 go_upto_region 1 with fail
 refine wp_worldx (fun wx => FOn w f A F wx A F ∧ Blk wx w.heap.size apT #[.int .i64 p0, .int .i64 p1, .int .u8 p2, .int .i64 p3, .int .i64 p4, .int .i64 p5, .int .u8 p6, .int .u64 p7, .int .i64 p8, .int .i64 p9, .int .i64 p10]) ⟨(FOn.refl H.out).below ((Below.refl _ _).alloc (Nat.le_refl _) _), Blk.made w _ _⟩ ?_
 obtain ⟨g, hg⟩ : ∃ g, w.heap.size = g := ⟨_, rfl⟩
 rw [hg]
 rintro w1 ⟨on, hb1⟩
 obtain ⟨v, hpa, hown, hv⟩ := on.b.app
 obtain ⟨A0, c0, rfl⟩ := own_form hown
 have hgn : A.ga ≠ some g := fun e => by
   have := H.out.own_lt (fOwn.ga_ f A F e)
   omega
 have HGN := Lib.hid hgn
 have HHD := Lib.hid on.b.head
 have HPA := Lib.hid hpa
 have HOWN := Lib.hid hown
 have HV := Lib.hid hv
 have ON := Lib.hid on
 have HB1 := Lib.hid hb1
 have HG := Lib.hid hg
 have HFA := Lib.hid (show A.ga ≠ some f from fun e => by
   rcases hown.2 with ⟨h0, _⟩ | ⟨g', cap, cur, h0, _, hg', _⟩
   · rw [← hv, h0] at e; simp [Value.ownBlock] at e
   · rw [← hv, h0] at e
     have e' : g' = f := by simpa [Value.ownBlock] using e
     exact on.b.head.other (g' := g') (cs' := cur) hg' (by decide) e'.symm)
 have HPN := Lib.hid (show A.ga ≠ some A.pa from fun e => by
   rcases hown.2 with ⟨h0, _⟩ | ⟨g', cap, cur, h0, _, hg', _⟩
   · rw [← hv, h0] at e; simp [Value.ownBlock] at e
   · rw [← hv, h0] at e
     have e' : g' = A.pa := by simpa [Value.ownBlock] using e
     exact hpa.other (g' := g') (cs' := cur) hg' (by decide) e'.symm)
 clear on hb1 hg hgn hpa hown hv
 refine wp_region_noPanic ?_
 refine wp_region_UD (fun w' => Blk w' f frT #[.pointer (some ⟨A.pc, 0, none⟩), .pointer (some ⟨A.r, 0, none⟩), .pointer (some ⟨A.lk, 0, none⟩), .slice (some ⟨A.gb, 0, none⟩) F.N A.bc, .slice (some ⟨A.gc, 0, none⟩) F.N F.N, .int .i64 F.clk, .pointer (some ⟨A.pa, 0, none⟩)] ∧ Blk w' A.pa asT #[.slice A0 F.L.length c0] ∧ Blk w' g apT #[.int .i64 p0, .int .i64 p1, .int .u8 p2, .int .i64 p3, .int .i64 p4, .int .i64 p5, .int .u8 p6, .int .u64 p7, .int .i64 p8, .int .i64 p9, .int .i64 p10]) (fun w' => Kept (fun k => A.ga = some k) w1 w' ∧ w'.ownsRow 0 apT 11 (.slice A0 F.L.length c0) F.L.length (flatA F.L)) [7, 8, 9, 10] [] (by kernel_rfl) (⟨HHD.out.drew_, HPA.out.drew_, HB1.out.drew_⟩) (⟨(Kept.refl _ _).drew_, own_kept HOWN.out ((Kept.refl (fun _ => False) w1).drew_) (fun _ _ _ h => h)⟩) (fun x y hx hy => ⟨hx.1.trans (Kept.of_below hy), own_kept hx.2 (Kept.of_below (own := fun _ => False) hy) (fun _ _ _ h => h)⟩) ?_
 intro hsh0
 refine anyU_tk 60 (i := 0) (v := ?_) rfl (fun _ _ _ h => h) (YieldsS.of_if (Or.inl ⟨by rfl, ?_⟩)) ?_
 rotate_left
 · (intro wS hSw; (try dsimp only at hSw); (first | (go_simp; done) | (go_simp; with_reducible rfl)))
 intro hsh1
 clear hsh0
 try simp only [Act.put, List.getElem_toArray, List.getElem_cons_zero, List.getElem_cons_succ, List.setIfInBounds_toArray, List.set_cons_zero, List.set_cons_succ]
 refine anyU_tk 60 (i := 1) (v := ?_) rfl (fun _ _ _ h => h) (YieldsS.of_if (Or.inl ⟨by rfl, ?_⟩)) ?_
 rotate_left
 · (intro wS hSw; (try dsimp only at hSw); (first | (go_simp; done) | (go_simp; with_reducible rfl)))
 intro hsh2
 clear hsh1
 try simp only [Act.put, List.getElem_toArray, List.getElem_cons_zero, List.getElem_cons_succ, List.setIfInBounds_toArray, List.set_cons_zero, List.set_cons_succ]
 refine anyU_tk 60 (i := 2) (v := ?_) rfl (fun _ _ _ h => h) (YieldsS.of_if (Or.inl ⟨by rfl, ?_⟩)) ?_
 rotate_left
 · (intro wS hSw; (try dsimp only at hSw); (first | (go_simp; done) | (go_simp; with_reducible rfl)))
 intro hsh3
 clear hsh2
 try simp only [Act.put, List.getElem_toArray, List.getElem_cons_zero, List.getElem_cons_succ, List.setIfInBounds_toArray, List.set_cons_zero, List.set_cons_succ]
 refine anyU_tk 60 (i := 3) (v := .pointer (some ⟨A.pa, 0, none⟩)) rfl (fun _ _ _ h => h) (YieldsS.of_call (by rfl) (f := 74) (args := #[.pointer (some ⟨f, 6, none⟩)]) (fun wS hSw => by first | rfl | (go_simp; done)) (fun wS hSw => ?_)) ?_
 · (refine (aploadp f 6 A.pa _ wS (hSw.1.val (i := 6) rfl) hSw.2.1).mono ?_; rintro e wn ⟨rfl, rfl⟩; exact ⟨rfl, hSw, Below.refl _ _⟩)
 intro hsh4
 clear hsh3
 try simp only [Act.put, List.getElem_toArray, List.getElem_cons_zero, List.getElem_cons_succ, List.setIfInBounds_toArray, List.set_cons_zero, List.set_cons_succ]
 refine anyU_tk 60 (i := 4) (v := ?_) rfl (fun _ _ _ h => h) (YieldsS.of_if (Or.inl ⟨by rfl, ?_⟩)) ?_
 rotate_left
 · (intro wS hSw; (try dsimp only at hSw); (first | (go_simp; done) | (go_simp; with_reducible rfl)))
 intro hsh5
 clear hsh4
 try simp only [Act.put, List.getElem_toArray, List.getElem_cons_zero, List.getElem_cons_succ, List.setIfInBounds_toArray, List.set_cons_zero, List.set_cons_succ]
 refine anyU_tk 60 (i := 5) (v := ?_) rfl (fun _ _ _ h => h) (YieldsS.of_if (Or.inl ⟨by rfl, ?_⟩)) ?_
 rotate_left
 · (intro wS hSw; (try dsimp only at hSw); have m0 : wS.cell? ⟨A.pa, 0, none⟩ = some (.slice A0 F.L.length c0) := hSw.2.1.val (i := 0) rfl; (first | (go_simp; done) | (go_simp; with_reducible rfl)))
 intro hsh6
 clear hsh5
 try simp only [Act.put, List.getElem_toArray, List.getElem_cons_zero, List.getElem_cons_succ, List.setIfInBounds_toArray, List.set_cons_zero, List.set_cons_succ]
 refine anyU_tk 60 (i := 6) (v := ?_) rfl (fun _ _ _ h => h) (YieldsS.of_if (Or.inl ⟨by rfl, ?_⟩)) ?_
 rotate_left
 · (intro wS hSw; (try dsimp only at hSw); have m0 : wS.cell? ⟨g, 0, none⟩ = some (.int .i64 p0) := hSw.2.2.val (i := 0) rfl; have m1 : wS.cell? ⟨g, 1, none⟩ = some (.int .i64 p1) := hSw.2.2.val (i := 1) rfl; have m2 : wS.cell? ⟨g, 2, none⟩ = some (.int .u8 p2) := hSw.2.2.val (i := 2) rfl; have m3 : wS.cell? ⟨g, 3, none⟩ = some (.int .i64 p3) := hSw.2.2.val (i := 3) rfl; have m4 : wS.cell? ⟨g, 4, none⟩ = some (.int .i64 p4) := hSw.2.2.val (i := 4) rfl; have m5 : wS.cell? ⟨g, 5, none⟩ = some (.int .i64 p5) := hSw.2.2.val (i := 5) rfl; have m6 : wS.cell? ⟨g, 6, none⟩ = some (.int .u8 p6) := hSw.2.2.val (i := 6) rfl; have m7 : wS.cell? ⟨g, 7, none⟩ = some (.int .u64 p7) := hSw.2.2.val (i := 7) rfl; have m8 : wS.cell? ⟨g, 8, none⟩ = some (.int .i64 p8) := hSw.2.2.val (i := 8) rfl; have m9 : wS.cell? ⟨g, 9, none⟩ = some (.int .i64 p9) := hSw.2.2.val (i := 9) rfl; have m10 : wS.cell? ⟨g, 10, none⟩ = some (.int .i64 p10) := hSw.2.2.val (i := 10) rfl; (first | (go_simp; done) | (go_simp; with_reducible rfl)))
 intro hsh7
 clear hsh6
 try simp only [Act.put, List.getElem_toArray, List.getElem_cons_zero, List.getElem_cons_succ, List.setIfInBounds_toArray, List.set_cons_zero, List.set_cons_succ]
 clear H
 refine anyU_pick (rs := [7, 9]) (by kernel_rfl) (by simp) (fun i hi => ?_)
 simp only [List.mem_cons, List.not_mem_nil, or_false] at hi
 rcases hi with rfl | rfl
 · refine ⟨by rfl, fun wS hSw hDw => one_op rfl (by rfl) ?_⟩
   unfold Oper.wp
   go_simp
   obtain ⟨gr, hgr⟩ : ∃ x, wS.heap.size = x := ⟨_, rfl⟩
   have hNgr : w1.heap.size ≤ gr := by have := hDw.1.size; omega
   refine ⟨⟨hSw.1.alloc_ _, hSw.2.1.alloc_ _, hSw.2.2.alloc_ _⟩, fun w' => Kept (fun k => A.ga = some k) w1 w' ∧ w'.ownsRow 0 apT 11 (.slice A0 F.L.length c0) (F.L.length) (flatA F.L) ∧ Blk w' gr apT #[.int .i64 p0, .int .i64 p1, .int .u8 p2, .int .i64 p3, .int .i64 p4, .int .i64 p5, .int .u8 p6, .int .u64 p7, .int .i64 p8, .int .i64 p9, .int .i64 p10], (fun x y hx hy => ⟨hx.1.trans (Kept.of_below hy), own_kept hx.2.1 (Kept.of_below (own := fun _ => False) hy) (fun _ _ _ h => h), hx.2.2.below_ hy hx.2.2.size⟩), ⟨hDw.1.trans (Kept.of_below ((Below.refl wS.heap.size wS).alloc (Nat.le_refl _) _)), own_kept hDw.2 (Kept.of_below (own := fun _ => False) ((Below.refl wS.heap.size wS).alloc (Nat.le_refl _) _)) (fun _ _ _ h => h), Blk.new_ hgr.symm⟩, ?_⟩
   rw [hgr]
   have HNgr := Lib.hid hNgr
   clear hSw hDw hgr hNgr
   try simp only [Act.put, List.getElem_toArray, List.getElem_cons_zero, List.getElem_cons_succ, List.setIfInBounds_toArray, List.set_cons_zero, List.set_cons_succ]
   refine anyU_pick (rs := [8, 9]) (by kernel_rfl) (by simp) (fun i hi => ?_)
   simp only [List.mem_cons, List.not_mem_nil, or_false] at hi
   rcases hi with rfl | rfl
   · refine ⟨by rfl, fun wS hSw hDw => one_op rfl (by rfl) ?_⟩
     have hnn : (Value.slice A0 F.L.length c0).ownBlock ≠ some gr := by rw [HV.out]; intro e; have h1 := HNgr.out; have h2 := ON.out.b.own_lt (fOwn.ga_ f A F e); omega
     have hng : (Value.slice A0 F.L.length c0).ownBlock ≠ some g := by rw [HV.out]; exact HGN.out
     have hnf : (Value.slice A0 F.L.length c0).ownBlock ≠ some f := by rw [HV.out]; exact HFA.out
     have hnp : (Value.slice A0 F.L.length c0).ownBlock ≠ some A.pa := by rw [HV.out]; exact HPN.out
     refine wp_append_lies wS _ _ _ (by rfl) 0 apT i0 _ 11 88 (by kernel_rfl) hi0 hz0 hz1 hz2 rfl (by decide) (.slice A0 F.L.length c0) F.L.length (flatA F.L) (by rfl) hDw.2.1 ⟨gr, 0, none⟩ 1 1 [.int .i64 p0, .int .i64 p1, .int .u8 p2, .int .i64 p3, .int .i64 p4, .int .i64 p5, .int .u8 p6, .int .u64 p7, .int .i64 p8, .int .i64 p9, .int .i64 p10] (by rfl) (by rfl) (World.news_of_block (cs := #[.int .i64 p0, .int .i64 p1, .int .u8 p2, .int .i64 p3, .int .i64 p4, .int .i64 p5, .int .u8 p6, .int .u64 p7, .int .i64 p8, .int .i64 p9, .int .i64 p10]) (t := apT) (fr := (0, 0)) hDw.2.2) HONE.out (by omega) (by have := HL.out; unfold maxLen; omega) (by have := HL.out; omega) (Nat.zero_le _) wS.heap.size rfl ?_
     intro gg cap1 wn hown1 hgrow hat hlt
     have hat2 : A.ga = some gg ∨ w1.heap.size ≤ gg := by rcases hat with e | e; exact .inl (by rw [← HV.out]; exact e); exact .inr (by have := hDw.1.size; omega)
     refine ⟨⟨hSw.1.kept_by hgrow hnf, hSw.2.1.kept_by hgrow hnp, hSw.2.2.kept_by hgrow hng⟩, fun w' => Kept (fun k => A.ga = some k) w1 w' ∧ w'.ownsRow 0 apT 11 (.slice (some ⟨gg, 0, none⟩) (F.L.length + 1) cap1) (F.L.length + 1) (flatA F.L ++ [.int .i64 p0, .int .i64 p1, .int .u8 p2, .int .i64 p3, .int .i64 p4, .int .i64 p5, .int .u8 p6, .int .u64 p7, .int .i64 p8, .int .i64 p9, .int .i64 p10]) ∧ Blk w' gr apT #[.int .i64 p0, .int .i64 p1, .int .u8 p2, .int .i64 p3, .int .i64 p4, .int .i64 p5, .int .u8 p6, .int .u64 p7, .int .i64 p8, .int .i64 p9, .int .i64 p10], (fun x y hx hy => ⟨hx.1.trans (Kept.of_below hy), own_kept hx.2.1 (Kept.of_below (own := fun _ => False) hy) (fun _ _ _ h => h), hx.2.2.below_ hy hx.2.2.size⟩), ⟨hDw.1.grown hgrow (fun k e => .inl (by rw [← HV.out]; exact e)), hown1, hDw.2.2.kept_by hgrow hnn⟩, ?_⟩
     have HAT := Lib.hid hat2
     clear hSw hDw hown1 hgrow hat hat2 hlt hnn hng hnf hnp
     try simp only [Act.put, List.getElem_toArray, List.getElem_cons_zero, List.getElem_cons_succ, List.setIfInBounds_toArray, List.set_cons_zero, List.set_cons_succ]
     refine anyU_pick (rs := [9]) (by kernel_rfl) (by simp) (fun i hi => ?_)
     simp only [List.mem_cons, List.not_mem_nil, or_false] at hi
     subst hi
     refine ⟨by rfl, fun wS hSw hDw => one_op rfl (by rfl) ?_⟩
     unfold Oper.wp
     go_simp
     obtain ⟨gx, hgx⟩ : ∃ x, wS.heap.size = x := ⟨_, rfl⟩
     have hNgx : w1.heap.size ≤ gx := by have := hDw.1.size; omega
     refine ⟨⟨hSw.1.alloc_ _, hSw.2.1.alloc_ _, hSw.2.2.alloc_ _⟩, fun w' => Kept (fun k => A.ga = some k) w1 w' ∧ w'.ownsRow 0 apT 11 (.slice (some ⟨gg, 0, none⟩) (F.L.length + 1) cap1) (F.L.length + 1) (flatA F.L ++ [.int .i64 p0, .int .i64 p1, .int .u8 p2, .int .i64 p3, .int .i64 p4, .int .i64 p5, .int .u8 p6, .int .u64 p7, .int .i64 p8, .int .i64 p9, .int .i64 p10]) ∧ Blk w' gr apT #[.int .i64 p0, .int .i64 p1, .int .u8 p2, .int .i64 p3, .int .i64 p4, .int .i64 p5, .int .u8 p6, .int .u64 p7, .int .i64 p8, .int .i64 p9, .int .i64 p10] ∧ Blk w' gx asT #[.slice none 0 0], (fun x y hx hy => ⟨hx.1.trans (Kept.of_below hy), own_kept hx.2.1 (Kept.of_below (own := fun _ => False) hy) (fun _ _ _ h => h), hx.2.2.1.below_ hy hx.2.2.1.size, hx.2.2.2.below_ hy hx.2.2.2.size⟩), ⟨hDw.1.trans (Kept.of_below ((Below.refl wS.heap.size wS).alloc (Nat.le_refl _) _)), own_kept hDw.2.1 (Kept.of_below (own := fun _ => False) ((Below.refl wS.heap.size wS).alloc (Nat.le_refl _) _)) (fun _ _ _ h => h), hDw.2.2.alloc_ _, Blk.new_ hgx.symm⟩, ?_⟩
     rw [hgx]
     have HNgx := Lib.hid hNgx
     clear hSw hDw hgx hNgx
     try simp only [Act.put, List.getElem_toArray, List.getElem_cons_zero, List.getElem_cons_succ, List.setIfInBounds_toArray, List.set_cons_zero, List.set_cons_succ]
     refine anyU_pick (rs := [10]) (by kernel_rfl) (by simp) (fun i hi => ?_)
     obtain rfl : i = 10 := List.mem_singleton.1 hi
     clear hi
     refine ⟨by rfl, fun wS hSw hDw => one_op rfl (by rfl) ?_⟩
     have e0 : wS.cell? ⟨gx, 0, none⟩ = some (.slice none 0 0) := hDw.2.2.2.val (i := 0) rfl
     have ef := hDw.2.2.2.free
     have HS := Lib.hid hSw
     have HD := Lib.hid hDw
     clear hSw hDw
     unfold Oper.wp
     go_simp
     clear e0 ef
     have hkk : Kept (fun k => k = gx) wS (wS.setCell ⟨gx, 0, none⟩ (.slice (some ⟨gg, 0, none⟩) (F.L.length + 1) cap1)) := kset1 _ _ _ _
     have hx1 : ∀ {k : Nat}, k < w1.heap.size → k ≠ gx := fun hk e => by have := HNgx.out; omega
     have hbx : Blk (wS.setCell ⟨gx, 0, none⟩ (.slice (some ⟨gg, 0, none⟩) (F.L.length + 1) cap1)) gx asT #[.slice (some ⟨gg, 0, none⟩) (F.L.length + 1) cap1] := by have := HD.out.2.2.2.set_ 0 (.slice (some ⟨gg, 0, none⟩) (F.L.length + 1) cap1); simpa using this
     have hKF : Kept (fun k => A.ga = some k) w1 (wS.setCell ⟨gx, 0, none⟩ (.slice (some ⟨gg, 0, none⟩) (F.L.length + 1) cap1)) := (HD.out.1).set_ (p := ⟨gx, 0, none⟩) (.inr HNgx.out) _
     have hOF : (wS.setCell ⟨gx, 0, none⟩ (.slice (some ⟨gg, 0, none⟩) (F.L.length + 1) cap1)).ownsRow 0 apT 11 (.slice (some ⟨gg, 0, none⟩) (F.L.length + 1) cap1) (F.L.length + 1) (flatA F.L ++ [.int .i64 p0, .int .i64 p1, .int .u8 p2, .int .i64 p3, .int .i64 p4, .int .i64 p5, .int .u8 p6, .int .u64 p7, .int .i64 p8, .int .i64 p9, .int .i64 p10]) := own_kept HD.out.2.1 hkk (fun k cs hb e => hb.other HD.out.2.2.2 (by decide) e)
     refine ⟨⟨HS.out.1.kept hkk (hx1 HHD.out.size), HS.out.2.1.kept hkk (hx1 HPA.out.size), HS.out.2.2.kept hkk (hx1 HB1.out.size)⟩, fun w' => (Kept (fun k => A.ga = some k) w1 w' ∧ w'.ownsRow 0 apT 11 (.slice (some ⟨gg, 0, none⟩) (F.L.length + 1) cap1) (F.L.length + 1) (flatA F.L ++ [.int .i64 p0, .int .i64 p1, .int .u8 p2, .int .i64 p3, .int .i64 p4, .int .i64 p5, .int .u8 p6, .int .u64 p7, .int .i64 p8, .int .i64 p9, .int .i64 p10])) ∧ Blk w' gx asT #[.slice (some ⟨gg, 0, none⟩) (F.L.length + 1) cap1], (fun x y hx hy => ⟨⟨hx.1.1.trans (Kept.of_below hy), own_kept hx.1.2 (Kept.of_below (own := fun _ => False) hy) (fun _ _ _ h => h)⟩, hx.2.below_ hy hx.2.size⟩), ⟨⟨hKF, hOF⟩, hbx⟩, ?_⟩
     clear hkk hx1 hbx hKF hOF HS HD
     refine anyU_done (by kernel_rfl) (fun x3 hS3 hD3 => ?_) _
     have HS3 := Lib.hid hS3
     have HD3 := Lib.hid hD3
     have c6 : x3.cell? ⟨f, 6, none⟩ = some (.pointer (some ⟨A.pa, 0, none⟩)) := hS3.1.val (i := 6) rfl
     have z6 := hS3.1.free 6
     clear hS3 hD3
     refine NoPanic.normal ?_
     go_wp2_with fail
     refine (apstorep f 6 gx _ _ x3 c6 z6 HD3.out.2).mono ?_
     rintro e wz ⟨rfl, rfl⟩
     have hkf : Kept (fun k => k = f) x3 (x3.setCell ⟨f, 6, none⟩ (.pointer (some ⟨gx, 0, none⟩))) := kset1 _ _ _ _
     have hfg : f < w1.heap.size := HHD.out.size
     have hxn := HNgx.out
     have hhd := HS3.out.1.set_ 6 (.pointer (some ⟨gx, 0, none⟩))
     have hfin := ON.out.toApp (w' := x3.setCell ⟨f, 6, none⟩ (.pointer (some ⟨gx, 0, none⟩))) (x := gx) (ga := some gg) (v := .slice (some ⟨gg, 0, none⟩) (F.L.length + 1) cap1) (L := F.L ++ [⟨p0, p1, ⟨p2, p3, p4, p5⟩, ⟨p6, p7, p8, p9, p10⟩⟩]) ((HD3.out.1.1.more (fun k _ e => .inr e)).trans (hkf.more (fun k _ e => .inl e))) (by simpa using hhd) (HD3.out.2.kept hkf (by omega)) (by rw [List.length_append, flatA_append, flatA_one]; exact own_kept HD3.out.1.2 hkf (fun k cs hb e => hb.other HS3.out.1 (by decide) e)) rfl (by have := ON.out.size; omega) (fun k e => by have e2 : gg = k := Option.some.inj e; rcases HAT.out with c | c; exact .inl (e2 ▸ c); exact .inr (by have := ON.out.size; omega))
     have HFIN := Lib.hid hfin
     clear hkf hfg hxn hhd hfin
     go_wp2
     first | refine bodyPost_end (results_none rfl _ _ _) rfl ⟨rfl, ?_⟩ | refine bodyPost_ret (results_none rfl _ _ _) rfl ⟨rfl, ?_⟩
     exact ⟨_, HFIN.out, rfl⟩
   · refine ⟨by rfl, fun wS hSw hDw => one_op rfl (by rfl) ?_⟩
     unfold Oper.wp
     go_simp
     obtain ⟨gx, hgx⟩ : ∃ x, wS.heap.size = x := ⟨_, rfl⟩
     have hNgx : w1.heap.size ≤ gx := by have := hDw.1.size; omega
     refine ⟨⟨hSw.1.alloc_ _, hSw.2.1.alloc_ _, hSw.2.2.alloc_ _⟩, fun w' => Kept (fun k => A.ga = some k) w1 w' ∧ w'.ownsRow 0 apT 11 (.slice A0 F.L.length c0) (F.L.length) (flatA F.L) ∧ Blk w' gr apT #[.int .i64 p0, .int .i64 p1, .int .u8 p2, .int .i64 p3, .int .i64 p4, .int .i64 p5, .int .u8 p6, .int .u64 p7, .int .i64 p8, .int .i64 p9, .int .i64 p10] ∧ Blk w' gx asT #[.slice none 0 0], (fun x y hx hy => ⟨hx.1.trans (Kept.of_below hy), own_kept hx.2.1 (Kept.of_below (own := fun _ => False) hy) (fun _ _ _ h => h), hx.2.2.1.below_ hy hx.2.2.1.size, hx.2.2.2.below_ hy hx.2.2.2.size⟩), ⟨hDw.1.trans (Kept.of_below ((Below.refl wS.heap.size wS).alloc (Nat.le_refl _) _)), own_kept hDw.2.1 (Kept.of_below (own := fun _ => False) ((Below.refl wS.heap.size wS).alloc (Nat.le_refl _) _)) (fun _ _ _ h => h), hDw.2.2.alloc_ _, Blk.new_ hgx.symm⟩, ?_⟩
     rw [hgx]
     have HNgx := Lib.hid hNgx
     clear hSw hDw hgx hNgx
     try simp only [Act.put, List.getElem_toArray, List.getElem_cons_zero, List.getElem_cons_succ, List.setIfInBounds_toArray, List.set_cons_zero, List.set_cons_succ]
     refine anyU_pick (rs := [8]) (by kernel_rfl) (by simp) (fun i hi => ?_)
     simp only [List.mem_cons, List.not_mem_nil, or_false] at hi
     subst hi
     refine ⟨by rfl, fun wS hSw hDw => one_op rfl (by rfl) ?_⟩
     have hnn : (Value.slice A0 F.L.length c0).ownBlock ≠ some gr := by rw [HV.out]; intro e; have h1 := HNgr.out; have h2 := ON.out.b.own_lt (fOwn.ga_ f A F e); omega
     have hng : (Value.slice A0 F.L.length c0).ownBlock ≠ some g := by rw [HV.out]; exact HGN.out
     have hnf : (Value.slice A0 F.L.length c0).ownBlock ≠ some f := by rw [HV.out]; exact HFA.out
     have hnp : (Value.slice A0 F.L.length c0).ownBlock ≠ some A.pa := by rw [HV.out]; exact HPN.out
     have hnx : (Value.slice A0 F.L.length c0).ownBlock ≠ some gx := by rw [HV.out]; intro e; have h1 := HNgx.out; have h2 := ON.out.b.own_lt (fOwn.ga_ f A F e); omega
     refine wp_append_lies wS _ _ _ (by rfl) 0 apT i0 _ 11 88 (by kernel_rfl) hi0 hz0 hz1 hz2 rfl (by decide) (.slice A0 F.L.length c0) F.L.length (flatA F.L) (by rfl) hDw.2.1 ⟨gr, 0, none⟩ 1 1 [.int .i64 p0, .int .i64 p1, .int .u8 p2, .int .i64 p3, .int .i64 p4, .int .i64 p5, .int .u8 p6, .int .u64 p7, .int .i64 p8, .int .i64 p9, .int .i64 p10] (by rfl) (by rfl) (World.news_of_block (cs := #[.int .i64 p0, .int .i64 p1, .int .u8 p2, .int .i64 p3, .int .i64 p4, .int .i64 p5, .int .u8 p6, .int .u64 p7, .int .i64 p8, .int .i64 p9, .int .i64 p10]) (t := apT) (fr := (0, 0)) hDw.2.2.1) HONE.out (by omega) (by have := HL.out; unfold maxLen; omega) (by have := HL.out; omega) (Nat.zero_le _) wS.heap.size rfl ?_
     intro gg cap1 wn hown1 hgrow hat hlt
     have hat2 : A.ga = some gg ∨ w1.heap.size ≤ gg := by rcases hat with e | e; exact .inl (by rw [← HV.out]; exact e); exact .inr (by have := hDw.1.size; omega)
     refine ⟨⟨hSw.1.kept_by hgrow hnf, hSw.2.1.kept_by hgrow hnp, hSw.2.2.kept_by hgrow hng⟩, fun w' => Kept (fun k => A.ga = some k) w1 w' ∧ w'.ownsRow 0 apT 11 (.slice (some ⟨gg, 0, none⟩) (F.L.length + 1) cap1) (F.L.length + 1) (flatA F.L ++ [.int .i64 p0, .int .i64 p1, .int .u8 p2, .int .i64 p3, .int .i64 p4, .int .i64 p5, .int .u8 p6, .int .u64 p7, .int .i64 p8, .int .i64 p9, .int .i64 p10]) ∧ Blk w' gr apT #[.int .i64 p0, .int .i64 p1, .int .u8 p2, .int .i64 p3, .int .i64 p4, .int .i64 p5, .int .u8 p6, .int .u64 p7, .int .i64 p8, .int .i64 p9, .int .i64 p10] ∧ Blk w' gx asT #[.slice none 0 0], (fun x y hx hy => ⟨hx.1.trans (Kept.of_below hy), own_kept hx.2.1 (Kept.of_below (own := fun _ => False) hy) (fun _ _ _ h => h), hx.2.2.1.below_ hy hx.2.2.1.size, hx.2.2.2.below_ hy hx.2.2.2.size⟩), ⟨hDw.1.grown hgrow (fun k e => .inl (by rw [← HV.out]; exact e)), hown1, hDw.2.2.1.kept_by hgrow hnn, hDw.2.2.2.kept_by hgrow hnx⟩, ?_⟩
     have HAT := Lib.hid hat2
     clear hSw hDw hown1 hgrow hat hat2 hlt hnn hng hnf hnp hnx
     try simp only [Act.put, List.getElem_toArray, List.getElem_cons_zero, List.getElem_cons_succ, List.setIfInBounds_toArray, List.set_cons_zero, List.set_cons_succ]
     refine anyU_pick (rs := [10]) (by kernel_rfl) (by simp) (fun i hi => ?_)
     obtain rfl : i = 10 := List.mem_singleton.1 hi
     clear hi
     refine ⟨by rfl, fun wS hSw hDw => one_op rfl (by rfl) ?_⟩
     have e0 : wS.cell? ⟨gx, 0, none⟩ = some (.slice none 0 0) := hDw.2.2.2.val (i := 0) rfl
     have ef := hDw.2.2.2.free
     have HS := Lib.hid hSw
     have HD := Lib.hid hDw
     clear hSw hDw
     unfold Oper.wp
     go_simp
     clear e0 ef
     have hkk : Kept (fun k => k = gx) wS (wS.setCell ⟨gx, 0, none⟩ (.slice (some ⟨gg, 0, none⟩) (F.L.length + 1) cap1)) := kset1 _ _ _ _
     have hx1 : ∀ {k : Nat}, k < w1.heap.size → k ≠ gx := fun hk e => by have := HNgx.out; omega
     have hbx : Blk (wS.setCell ⟨gx, 0, none⟩ (.slice (some ⟨gg, 0, none⟩) (F.L.length + 1) cap1)) gx asT #[.slice (some ⟨gg, 0, none⟩) (F.L.length + 1) cap1] := by have := HD.out.2.2.2.set_ 0 (.slice (some ⟨gg, 0, none⟩) (F.L.length + 1) cap1); simpa using this
     have hKF : Kept (fun k => A.ga = some k) w1 (wS.setCell ⟨gx, 0, none⟩ (.slice (some ⟨gg, 0, none⟩) (F.L.length + 1) cap1)) := (HD.out.1).set_ (p := ⟨gx, 0, none⟩) (.inr HNgx.out) _
     have hOF : (wS.setCell ⟨gx, 0, none⟩ (.slice (some ⟨gg, 0, none⟩) (F.L.length + 1) cap1)).ownsRow 0 apT 11 (.slice (some ⟨gg, 0, none⟩) (F.L.length + 1) cap1) (F.L.length + 1) (flatA F.L ++ [.int .i64 p0, .int .i64 p1, .int .u8 p2, .int .i64 p3, .int .i64 p4, .int .i64 p5, .int .u8 p6, .int .u64 p7, .int .i64 p8, .int .i64 p9, .int .i64 p10]) := own_kept HD.out.2.1 hkk (fun k cs hb e => hb.other HD.out.2.2.2 (by decide) e)
     refine ⟨⟨HS.out.1.kept hkk (hx1 HHD.out.size), HS.out.2.1.kept hkk (hx1 HPA.out.size), HS.out.2.2.kept hkk (hx1 HB1.out.size)⟩, fun w' => (Kept (fun k => A.ga = some k) w1 w' ∧ w'.ownsRow 0 apT 11 (.slice (some ⟨gg, 0, none⟩) (F.L.length + 1) cap1) (F.L.length + 1) (flatA F.L ++ [.int .i64 p0, .int .i64 p1, .int .u8 p2, .int .i64 p3, .int .i64 p4, .int .i64 p5, .int .u8 p6, .int .u64 p7, .int .i64 p8, .int .i64 p9, .int .i64 p10])) ∧ Blk w' gx asT #[.slice (some ⟨gg, 0, none⟩) (F.L.length + 1) cap1], (fun x y hx hy => ⟨⟨hx.1.1.trans (Kept.of_below hy), own_kept hx.1.2 (Kept.of_below (own := fun _ => False) hy) (fun _ _ _ h => h)⟩, hx.2.below_ hy hx.2.size⟩), ⟨⟨hKF, hOF⟩, hbx⟩, ?_⟩
     clear hkk hx1 hbx hKF hOF HS HD
     refine anyU_done (by kernel_rfl) (fun x3 hS3 hD3 => ?_) _
     have HS3 := Lib.hid hS3
     have HD3 := Lib.hid hD3
     have c6 : x3.cell? ⟨f, 6, none⟩ = some (.pointer (some ⟨A.pa, 0, none⟩)) := hS3.1.val (i := 6) rfl
     have z6 := hS3.1.free 6
     clear hS3 hD3
     refine NoPanic.normal ?_
     go_wp2_with fail
     refine (apstorep f 6 gx _ _ x3 c6 z6 HD3.out.2).mono ?_
     rintro e wz ⟨rfl, rfl⟩
     have hkf : Kept (fun k => k = f) x3 (x3.setCell ⟨f, 6, none⟩ (.pointer (some ⟨gx, 0, none⟩))) := kset1 _ _ _ _
     have hfg : f < w1.heap.size := HHD.out.size
     have hxn := HNgx.out
     have hhd := HS3.out.1.set_ 6 (.pointer (some ⟨gx, 0, none⟩))
     have hfin := ON.out.toApp (w' := x3.setCell ⟨f, 6, none⟩ (.pointer (some ⟨gx, 0, none⟩))) (x := gx) (ga := some gg) (v := .slice (some ⟨gg, 0, none⟩) (F.L.length + 1) cap1) (L := F.L ++ [⟨p0, p1, ⟨p2, p3, p4, p5⟩, ⟨p6, p7, p8, p9, p10⟩⟩]) ((HD3.out.1.1.more (fun k _ e => .inr e)).trans (hkf.more (fun k _ e => .inl e))) (by simpa using hhd) (HD3.out.2.kept hkf (by omega)) (by rw [List.length_append, flatA_append, flatA_one]; exact own_kept HD3.out.1.2 hkf (fun k cs hb e => hb.other HS3.out.1 (by decide) e)) rfl (by have := ON.out.size; omega) (fun k e => by have e2 : gg = k := Option.some.inj e; rcases HAT.out with c | c; exact .inl (e2 ▸ c); exact .inr (by have := ON.out.size; omega))
     have HFIN := Lib.hid hfin
     clear hkf hfg hxn hhd hfin
     go_wp2
     first | refine bodyPost_end (results_none rfl _ _ _) rfl ⟨rfl, ?_⟩ | refine bodyPost_ret (results_none rfl _ _ _) rfl ⟨rfl, ?_⟩
     exact ⟨_, HFIN.out, rfl⟩
 · refine ⟨by rfl, fun wS hSw hDw => one_op rfl (by rfl) ?_⟩
   unfold Oper.wp
   go_simp
   obtain ⟨gx, hgx⟩ : ∃ x, wS.heap.size = x := ⟨_, rfl⟩
   have hNgx : w1.heap.size ≤ gx := by have := hDw.1.size; omega
   refine ⟨⟨hSw.1.alloc_ _, hSw.2.1.alloc_ _, hSw.2.2.alloc_ _⟩, fun w' => Kept (fun k => A.ga = some k) w1 w' ∧ w'.ownsRow 0 apT 11 (.slice A0 F.L.length c0) (F.L.length) (flatA F.L) ∧ Blk w' gx asT #[.slice none 0 0], (fun x y hx hy => ⟨hx.1.trans (Kept.of_below hy), own_kept hx.2.1 (Kept.of_below (own := fun _ => False) hy) (fun _ _ _ h => h), hx.2.2.below_ hy hx.2.2.size⟩), ⟨hDw.1.trans (Kept.of_below ((Below.refl wS.heap.size wS).alloc (Nat.le_refl _) _)), own_kept hDw.2 (Kept.of_below (own := fun _ => False) ((Below.refl wS.heap.size wS).alloc (Nat.le_refl _) _)) (fun _ _ _ h => h), Blk.new_ hgx.symm⟩, ?_⟩
   rw [hgx]
   have HNgx := Lib.hid hNgx
   clear hSw hDw hgx hNgx
   try simp only [Act.put, List.getElem_toArray, List.getElem_cons_zero, List.getElem_cons_succ, List.setIfInBounds_toArray, List.set_cons_zero, List.set_cons_succ]
   refine anyU_pick (rs := [7]) (by kernel_rfl) (by simp) (fun i hi => ?_)
   simp only [List.mem_cons, List.not_mem_nil, or_false] at hi
   subst hi
   refine ⟨by rfl, fun wS hSw hDw => one_op rfl (by rfl) ?_⟩
   unfold Oper.wp
   go_simp
   obtain ⟨gr, hgr⟩ : ∃ x, wS.heap.size = x := ⟨_, rfl⟩
   have hNgr : w1.heap.size ≤ gr := by have := hDw.1.size; omega
   refine ⟨⟨hSw.1.alloc_ _, hSw.2.1.alloc_ _, hSw.2.2.alloc_ _⟩, fun w' => Kept (fun k => A.ga = some k) w1 w' ∧ w'.ownsRow 0 apT 11 (.slice A0 F.L.length c0) (F.L.length) (flatA F.L) ∧ Blk w' gx asT #[.slice none 0 0] ∧ Blk w' gr apT #[.int .i64 p0, .int .i64 p1, .int .u8 p2, .int .i64 p3, .int .i64 p4, .int .i64 p5, .int .u8 p6, .int .u64 p7, .int .i64 p8, .int .i64 p9, .int .i64 p10], (fun x y hx hy => ⟨hx.1.trans (Kept.of_below hy), own_kept hx.2.1 (Kept.of_below (own := fun _ => False) hy) (fun _ _ _ h => h), hx.2.2.1.below_ hy hx.2.2.1.size, hx.2.2.2.below_ hy hx.2.2.2.size⟩), ⟨hDw.1.trans (Kept.of_below ((Below.refl wS.heap.size wS).alloc (Nat.le_refl _) _)), own_kept hDw.2.1 (Kept.of_below (own := fun _ => False) ((Below.refl wS.heap.size wS).alloc (Nat.le_refl _) _)) (fun _ _ _ h => h), hDw.2.2.alloc_ _, Blk.new_ hgr.symm⟩, ?_⟩
   rw [hgr]
   have HNgr := Lib.hid hNgr
   clear hSw hDw hgr hNgr
   try simp only [Act.put, List.getElem_toArray, List.getElem_cons_zero, List.getElem_cons_succ, List.setIfInBounds_toArray, List.set_cons_zero, List.set_cons_succ]
   refine anyU_pick (rs := [8]) (by kernel_rfl) (by simp) (fun i hi => ?_)
   simp only [List.mem_cons, List.not_mem_nil, or_false] at hi
   subst hi
   refine ⟨by rfl, fun wS hSw hDw => one_op rfl (by rfl) ?_⟩
   have hnn : (Value.slice A0 F.L.length c0).ownBlock ≠ some gr := by rw [HV.out]; intro e; have h1 := HNgr.out; have h2 := ON.out.b.own_lt (fOwn.ga_ f A F e); omega
   have hng : (Value.slice A0 F.L.length c0).ownBlock ≠ some g := by rw [HV.out]; exact HGN.out
   have hnf : (Value.slice A0 F.L.length c0).ownBlock ≠ some f := by rw [HV.out]; exact HFA.out
   have hnp : (Value.slice A0 F.L.length c0).ownBlock ≠ some A.pa := by rw [HV.out]; exact HPN.out
   have hnx : (Value.slice A0 F.L.length c0).ownBlock ≠ some gx := by rw [HV.out]; intro e; have h1 := HNgx.out; have h2 := ON.out.b.own_lt (fOwn.ga_ f A F e); omega
   refine wp_append_lies wS _ _ _ (by rfl) 0 apT i0 _ 11 88 (by kernel_rfl) hi0 hz0 hz1 hz2 rfl (by decide) (.slice A0 F.L.length c0) F.L.length (flatA F.L) (by rfl) hDw.2.1 ⟨gr, 0, none⟩ 1 1 [.int .i64 p0, .int .i64 p1, .int .u8 p2, .int .i64 p3, .int .i64 p4, .int .i64 p5, .int .u8 p6, .int .u64 p7, .int .i64 p8, .int .i64 p9, .int .i64 p10] (by rfl) (by rfl) (World.news_of_block (cs := #[.int .i64 p0, .int .i64 p1, .int .u8 p2, .int .i64 p3, .int .i64 p4, .int .i64 p5, .int .u8 p6, .int .u64 p7, .int .i64 p8, .int .i64 p9, .int .i64 p10]) (t := apT) (fr := (0, 0)) hDw.2.2.2) HONE.out (by omega) (by have := HL.out; unfold maxLen; omega) (by have := HL.out; omega) (Nat.zero_le _) wS.heap.size rfl ?_
   intro gg cap1 wn hown1 hgrow hat hlt
   have hat2 : A.ga = some gg ∨ w1.heap.size ≤ gg := by rcases hat with e | e; exact .inl (by rw [← HV.out]; exact e); exact .inr (by have := hDw.1.size; omega)
   refine ⟨⟨hSw.1.kept_by hgrow hnf, hSw.2.1.kept_by hgrow hnp, hSw.2.2.kept_by hgrow hng⟩, fun w' => Kept (fun k => A.ga = some k) w1 w' ∧ w'.ownsRow 0 apT 11 (.slice (some ⟨gg, 0, none⟩) (F.L.length + 1) cap1) (F.L.length + 1) (flatA F.L ++ [.int .i64 p0, .int .i64 p1, .int .u8 p2, .int .i64 p3, .int .i64 p4, .int .i64 p5, .int .u8 p6, .int .u64 p7, .int .i64 p8, .int .i64 p9, .int .i64 p10]) ∧ Blk w' gx asT #[.slice none 0 0] ∧ Blk w' gr apT #[.int .i64 p0, .int .i64 p1, .int .u8 p2, .int .i64 p3, .int .i64 p4, .int .i64 p5, .int .u8 p6, .int .u64 p7, .int .i64 p8, .int .i64 p9, .int .i64 p10], (fun x y hx hy => ⟨hx.1.trans (Kept.of_below hy), own_kept hx.2.1 (Kept.of_below (own := fun _ => False) hy) (fun _ _ _ h => h), hx.2.2.1.below_ hy hx.2.2.1.size, hx.2.2.2.below_ hy hx.2.2.2.size⟩), ⟨hDw.1.grown hgrow (fun k e => .inl (by rw [← HV.out]; exact e)), hown1, hDw.2.2.1.kept_by hgrow hnx, hDw.2.2.2.kept_by hgrow hnn⟩, ?_⟩
   have HAT := Lib.hid hat2
   clear hSw hDw hown1 hgrow hat hat2 hlt hnn hng hnf hnp hnx
   try simp only [Act.put, List.getElem_toArray, List.getElem_cons_zero, List.getElem_cons_succ, List.setIfInBounds_toArray, List.set_cons_zero, List.set_cons_succ]
   refine anyU_pick (rs := [10]) (by kernel_rfl) (by simp) (fun i hi => ?_)
   obtain rfl : i = 10 := List.mem_singleton.1 hi
   clear hi
   refine ⟨by rfl, fun wS hSw hDw => one_op rfl (by rfl) ?_⟩
   have e0 : wS.cell? ⟨gx, 0, none⟩ = some (.slice none 0 0) := hDw.2.2.1.val (i := 0) rfl
   have ef := hDw.2.2.1.free
   have HS := Lib.hid hSw
   have HD := Lib.hid hDw
   clear hSw hDw
   unfold Oper.wp
   go_simp
   clear e0 ef
   have hkk : Kept (fun k => k = gx) wS (wS.setCell ⟨gx, 0, none⟩ (.slice (some ⟨gg, 0, none⟩) (F.L.length + 1) cap1)) := kset1 _ _ _ _
   have hx1 : ∀ {k : Nat}, k < w1.heap.size → k ≠ gx := fun hk e => by have := HNgx.out; omega
   have hbx : Blk (wS.setCell ⟨gx, 0, none⟩ (.slice (some ⟨gg, 0, none⟩) (F.L.length + 1) cap1)) gx asT #[.slice (some ⟨gg, 0, none⟩) (F.L.length + 1) cap1] := by have := HD.out.2.2.1.set_ 0 (.slice (some ⟨gg, 0, none⟩) (F.L.length + 1) cap1); simpa using this
   have hKF : Kept (fun k => A.ga = some k) w1 (wS.setCell ⟨gx, 0, none⟩ (.slice (some ⟨gg, 0, none⟩) (F.L.length + 1) cap1)) := (HD.out.1).set_ (p := ⟨gx, 0, none⟩) (.inr HNgx.out) _
   have hOF : (wS.setCell ⟨gx, 0, none⟩ (.slice (some ⟨gg, 0, none⟩) (F.L.length + 1) cap1)).ownsRow 0 apT 11 (.slice (some ⟨gg, 0, none⟩) (F.L.length + 1) cap1) (F.L.length + 1) (flatA F.L ++ [.int .i64 p0, .int .i64 p1, .int .u8 p2, .int .i64 p3, .int .i64 p4, .int .i64 p5, .int .u8 p6, .int .u64 p7, .int .i64 p8, .int .i64 p9, .int .i64 p10]) := own_kept HD.out.2.1 hkk (fun k cs hb e => hb.other HD.out.2.2.1 (by decide) e)
   refine ⟨⟨HS.out.1.kept hkk (hx1 HHD.out.size), HS.out.2.1.kept hkk (hx1 HPA.out.size), HS.out.2.2.kept hkk (hx1 HB1.out.size)⟩, fun w' => (Kept (fun k => A.ga = some k) w1 w' ∧ w'.ownsRow 0 apT 11 (.slice (some ⟨gg, 0, none⟩) (F.L.length + 1) cap1) (F.L.length + 1) (flatA F.L ++ [.int .i64 p0, .int .i64 p1, .int .u8 p2, .int .i64 p3, .int .i64 p4, .int .i64 p5, .int .u8 p6, .int .u64 p7, .int .i64 p8, .int .i64 p9, .int .i64 p10])) ∧ Blk w' gx asT #[.slice (some ⟨gg, 0, none⟩) (F.L.length + 1) cap1], (fun x y hx hy => ⟨⟨hx.1.1.trans (Kept.of_below hy), own_kept hx.1.2 (Kept.of_below (own := fun _ => False) hy) (fun _ _ _ h => h)⟩, hx.2.below_ hy hx.2.size⟩), ⟨⟨hKF, hOF⟩, hbx⟩, ?_⟩
   clear hkk hx1 hbx hKF hOF HS HD
   refine anyU_done (by kernel_rfl) (fun x3 hS3 hD3 => ?_) _
   have HS3 := Lib.hid hS3
   have HD3 := Lib.hid hD3
   have c6 : x3.cell? ⟨f, 6, none⟩ = some (.pointer (some ⟨A.pa, 0, none⟩)) := hS3.1.val (i := 6) rfl
   have z6 := hS3.1.free 6
   clear hS3 hD3
   refine NoPanic.normal ?_
   go_wp2_with fail
   refine (apstorep f 6 gx _ _ x3 c6 z6 HD3.out.2).mono ?_
   rintro e wz ⟨rfl, rfl⟩
   have hkf : Kept (fun k => k = f) x3 (x3.setCell ⟨f, 6, none⟩ (.pointer (some ⟨gx, 0, none⟩))) := kset1 _ _ _ _
   have hfg : f < w1.heap.size := HHD.out.size
   have hxn := HNgx.out
   have hhd := HS3.out.1.set_ 6 (.pointer (some ⟨gx, 0, none⟩))
   have hfin := ON.out.toApp (w' := x3.setCell ⟨f, 6, none⟩ (.pointer (some ⟨gx, 0, none⟩))) (x := gx) (ga := some gg) (v := .slice (some ⟨gg, 0, none⟩) (F.L.length + 1) cap1) (L := F.L ++ [⟨p0, p1, ⟨p2, p3, p4, p5⟩, ⟨p6, p7, p8, p9, p10⟩⟩]) ((HD3.out.1.1.more (fun k _ e => .inr e)).trans (hkf.more (fun k _ e => .inl e))) (by simpa using hhd) (HD3.out.2.kept hkf (by omega)) (by rw [List.length_append, flatA_append, flatA_one]; exact own_kept HD3.out.1.2 hkf (fun k cs hb e => hb.other HS3.out.1 (by decide) e)) rfl (by have := ON.out.size; omega) (fun k e => by have e2 : gg = k := Option.some.inj e; rcases HAT.out with c | c; exact .inl (e2 ▸ c); exact .inr (by have := ON.out.size; omega))
   have HFIN := Lib.hid hfin
   clear hkf hfg hxn hhd hfin
   go_wp2
   first | refine bodyPost_end (results_none rfl _ _ _) rfl ⟨rfl, ?_⟩ | refine bodyPost_ret (results_none rfl _ _ _) rfl ⟨rfl, ?_⟩
   exact ⟨_, HFIN.out, rfl⟩
def DoAt (F : FrS) (i : Nat) : Prop := ∀ (w : World) (p : Nat) (O : Nat → Prop), CoreL w p O F.S → Calls Tryz.prog 15 #[.pointer (some ⟨p, 0, none⟩), .int .i64 F.clk, (opB (F.bx (F.ca i).sv.toNat)).v] w fun e w' => e = .returned (doR F.S F.clk (opB (F.bx (F.ca i).sv.toNat))).v ∧ CStep w p O (doO F.S F.clk (opB (F.bx (F.ca i).sv.toNat))) w'
theorem setCa_L (G : FrS) (i : Nat) (c d : CaV) (X : List ApV) : ({ (G.setCa i c) with L := X } : FrS).setCa i d = ({ G with L := X } : FrS).setCa i d := by
 show ({ G with L := X, ca := upd (upd G.ca i c) i d } : FrS) = _
 rw [upd_upd]
theorem FOn.toRe (h : FOn w0 f A0 F0 w A F) {i : Nat} (hi : i < F.N) (r : ReV) : FOn w0 f A0 F0 (((((w.setCell ⟨A.gc, i * 13 + 8, none⟩ (.int .u8 r.a)).setCell ⟨A.gc, i * 13 + 9, none⟩ (.int .u64 r.k)).setCell ⟨A.gc, i * 13 + 10, none⟩ (.int .i64 r.t)).setCell ⟨A.gc, i * 13 + 11, none⟩ (.int .i64 r.c)).setCell ⟨A.gc, i * 13 + 12, none⟩ (.int .i64 r.s)) A (F.setCa i { F.ca i with re := r }) := by
 have h1 := h.toCa hi (show 8 < 13 by omega) (.int .u8 r.a) { F.ca i with re := { (F.ca i).re with a := r.a } } rfl rfl
 have h2 := h1.toCa (i := i) (j := 9) hi (by omega) (.int .u64 r.k) { F.ca i with re := { (F.ca i).re with a := r.a, k := r.k } } (by rw [setCa_ca]; rfl) (by rw [setCa_ca])
 have h3 := h2.toCa (i := i) (j := 10) hi (by omega) (.int .i64 r.t) { F.ca i with re := { (F.ca i).re with a := r.a, k := r.k, t := r.t } } (by rw [setCa_ca]; rfl) (by rw [setCa_ca])
 have h4 := h3.toCa (i := i) (j := 11) hi (by omega) (.int .i64 r.c) { F.ca i with re := { (F.ca i).re with a := r.a, k := r.k, t := r.t, c := r.c } } (by rw [setCa_ca]; rfl) (by rw [setCa_ca])
 have h5 := h4.toCa (i := i) (j := 12) hi (by omega) (.int .i64 r.s) { F.ca i with re := r } (by rw [setCa_ca]; rfl) (by rw [setCa_ca])
 rw [setCa_setCa, setCa_setCa, setCa_setCa, setCa_setCa] at h5
 exact h5
set_option maxRecDepth 100000 in
set_option maxHeartbeats 8000000 in
theorem fr_apply (h : FrB w f A F) (hok : FOk F B) (hl : F.L.length ≤ 100000) {i : Nat} (hi : i < F.N) (hdo : DoAt F i) : Calls Tryz.prog 61 #[.pointer (some ⟨f, 0, none⟩), .int .i64 (i : Int)] w fun e w' => e = .returned (.tuple #[]) ∧ FTo w f A F (fsApply F i) w' := by
 have i1 : (0 : Int) ≤ (i : Int) := by omega
 have i2 : (i : Int) < (F.N : Int) := by omega
 have hsv := (hok.ca i).sv
 obtain ⟨j, hj⟩ : ∃ j : Nat, (F.ca i).sv = (j : Int) := ⟨(F.ca i).sv.toNat, by omega⟩
 have hjn : j < F.N := by omega
 have j1 : (0 : Int) ≤ (j : Int) := by omega
 have j2 : (j : Int) < (F.N : Int) := by omega
 obtain ⟨⟨ok, ot, oc, on⟩, ho⟩ : ∃ o, opB (F.bx j) = o := ⟨_, rfl⟩
 have hoo : (⟨ok, ot, oc, on⟩ : OpV).ok := by
   rw [← ho]
   unfold opB
   split
   · exact hok.bo j
   · exact op0_ok
 obtain ⟨sb, hsb⟩ : ∃ b, ((F.bx j).s == 1) = b := ⟨_, rfl⟩
 obtain ⟨⟨ra, rk, rt, rc, rs⟩, hr⟩ : ∃ r, doR F.S F.clk ⟨ok, ot, oc, on⟩ = r := ⟨_, rfl⟩
 have hdo2 : ∀ (w : World) (p : Nat) (O : Nat → Prop), CoreL w p O F.S → Calls Tryz.prog 15 #[.pointer (some ⟨p, 0, none⟩), .int .i64 F.clk, .agg #[.int .u8 ok, .int .i64 ot, .int .i64 oc, .int .i64 on]] w fun e w' => e = .returned (.agg #[.int .u8 ra, .int .u64 rk, .int .i64 rt, .int .i64 rc, .int .i64 rs]) ∧ CStep w p O (doO F.S F.clk ⟨ok, ot, oc, on⟩) w' := fun w p O hL => by
   have h1 := hdo w p O hL
   rw [hj, Int.toNat_natCast, ho, hr] at h1
   exact h1
 have hap : fsApply F i = ({ F with S := doO F.S F.clk ⟨ok, ot, oc, on⟩, L := F.L ++ [⟨(j : Int), F.clk, ⟨ok, ot, oc, on⟩, ⟨ra, rk, rt, rc, rs⟩⟩] } : FrS).setCa i { F.ca i with re := ⟨ra, rk, rt, rc, rs⟩, nx := 7 } := by
   unfold fsApply applyB apV
   rw [hj, Int.toNat_natCast, ho, hr]
 obtain ⟨S', hS'⟩ : ∃ X, doO F.S F.clk ⟨ok, ot, oc, on⟩ = X := ⟨_, rfl⟩
 rw [hS'] at hap
 have HAP := Lib.hid hap
 have HDO := Lib.hid hdo2
 have HS' := Lib.hid hS'
 have HO := Lib.hid ho
 have HOO := Lib.hid hoo
 have HSB := Lib.hid hsb
 have HJ := Lib.hid hj
 have HJN := Lib.hid hjn
 have HCK := Lib.hid hok.clk
 have H := Lib.hid h
 have HI := Lib.hid hi
 have HL := Lib.hid hl
 have c4 := h.c4
 clear h hi hok hl hsv hj hjn ho hoo hsb hr hdo hdo2 hap hS'
 go_enter Tryz.func61, Tryz.ntmps61
 go_upto_region 2 with (go_at_call 29; refine (fr_now H.out).mono ?_; rintro e w2 ⟨rfl, rfl⟩)
 refine wp_region_noPanic ?_
 refine wp_region_U (fun w' => FOn w f A F w' A F) [14, 15] [] (by kernel_rfl) ((FOn.refl H.out).below (Below.drew (Below.refl _ _))) ?_
 intro hsh0
 skip
 refine anyU_tk 60 (i := 0) (v := ?_) rfl (fun _ _ _ h => h) (YieldsS.of_if (Or.inl ⟨by rfl, ?_⟩)) ?_
 rotate_left
 · (intro wS hSw; (try dsimp only at hSw); (first | (go_simp; done) | (go_simp; with_reducible rfl)))
 intro hsh1
 clear hsh0
 try simp only [Act.put, List.getElem_toArray, List.getElem_cons_zero, List.getElem_cons_succ, List.setIfInBounds_toArray, List.set_cons_zero, List.set_cons_succ]
 refine anyU_tk 60 (i := 1) (v := ?_) rfl (fun _ _ _ h => h) (YieldsS.of_if (Or.inl ⟨by rfl, ?_⟩)) ?_
 rotate_left
 · (intro wS hSw; (try dsimp only at hSw); (first | (go_simp; done) | (go_simp; with_reducible rfl)))
 intro hsh2
 clear hsh1
 try simp only [Act.put, List.getElem_toArray, List.getElem_cons_zero, List.getElem_cons_succ, List.setIfInBounds_toArray, List.set_cons_zero, List.set_cons_succ]
 refine anyU_tk 60 (i := 2) (v := ?_) rfl (fun _ _ _ h => h) (YieldsS.of_if (Or.inl ⟨by rfl, ?_⟩)) ?_
 rotate_left
 · (intro wS hSw; (try dsimp only at hSw); (first | (go_simp; done) | (go_simp; with_reducible rfl)))
 intro hsh3
 clear hsh2
 try simp only [Act.put, List.getElem_toArray, List.getElem_cons_zero, List.getElem_cons_succ, List.setIfInBounds_toArray, List.set_cons_zero, List.set_cons_succ]
 refine anyU_tk 60 (i := 3) (v := ?_) rfl (fun _ _ _ h => h) (YieldsS.of_if (Or.inl ⟨by rfl, ?_⟩)) ?_
 rotate_left
 · (intro wS hSw; (try dsimp only at hSw); have c3 := hSw.b.c3; (first | (go_simp; done) | (go_simp; with_reducible rfl)))
 intro hsh4
 clear hsh3
 try simp only [Act.put, List.getElem_toArray, List.getElem_cons_zero, List.getElem_cons_succ, List.setIfInBounds_toArray, List.set_cons_zero, List.set_cons_succ]
 refine anyU_tk 60 (i := 4) (v := ?_) rfl (fun _ _ _ h => h) (YieldsS.of_if (Or.inl ⟨by rfl, ?_⟩)) ?_
 rotate_left
 · (intro wS hSw; (try dsimp only at hSw); (first | (go_simp; done) | (go_simp; with_reducible rfl)))
 intro hsh5
 clear hsh4
 try simp only [Act.put, List.getElem_toArray, List.getElem_cons_zero, List.getElem_cons_succ, List.setIfInBounds_toArray, List.set_cons_zero, List.set_cons_succ]
 refine anyU_tk 60 (i := 5) (v := ?_) rfl (fun _ _ _ h => h) (YieldsS.of_if (Or.inl ⟨by rfl, ?_⟩)) ?_
 rotate_left
 · (intro wS hSw; (try dsimp only at hSw); (first | (go_simp; done) | (go_simp; with_reducible rfl)))
 intro hsh6
 clear hsh5
 try simp only [Act.put, List.getElem_toArray, List.getElem_cons_zero, List.getElem_cons_succ, List.setIfInBounds_toArray, List.set_cons_zero, List.set_cons_succ]
 refine anyU_tk 60 (i := 6) (v := ?_) rfl (fun _ _ _ h => h) (YieldsS.of_if (Or.inl ⟨by rfl, ?_⟩)) ?_
 rotate_left
 · (intro wS hSw; (try dsimp only at hSw); (first | (go_simp; done) | (go_simp; with_reducible rfl)))
 intro hsh7
 clear hsh6
 try simp only [Act.put, List.getElem_toArray, List.getElem_cons_zero, List.getElem_cons_succ, List.setIfInBounds_toArray, List.set_cons_zero, List.set_cons_succ]
 refine anyU_tk 60 (i := 7) (v := ?_) rfl (fun _ _ _ h => h) (YieldsS.of_if (Or.inl ⟨by rfl, ?_⟩)) ?_
 rotate_left
 · (intro wS hSw; (try dsimp only at hSw); have q7 : wS.cell? ⟨A.gc, i * 13 + 7, none⟩ = some (.int .i64 (j : Int)) := (by rw [← HJ.out]; exact hSw.b.k7 HI.out); (first | (go_simp; done) | (go_simp; with_reducible rfl)))
 intro hsh8
 clear hsh7
 try simp only [Act.put, List.getElem_toArray, List.getElem_cons_zero, List.getElem_cons_succ, List.setIfInBounds_toArray, List.set_cons_zero, List.set_cons_succ]
 refine anyU_tk 60 (i := 8) (v := ?_) rfl (fun _ _ _ h => h) (YieldsS.of_if (Or.inl ⟨by rfl, ?_⟩)) ?_
 rotate_left
 · (intro wS hSw; (try dsimp only at hSw); (first | (go_simp; done) | (go_simp; with_reducible rfl)))
 intro hsh9
 clear hsh8
 try simp only [Act.put, List.getElem_toArray, List.getElem_cons_zero, List.getElem_cons_succ, List.setIfInBounds_toArray, List.set_cons_zero, List.set_cons_succ]
 refine anyU_tk 60 (i := 9) (v := ?_) rfl (fun _ _ _ h => h) (YieldsS.of_if (Or.inl ⟨by rfl, ?_⟩)) ?_
 rotate_left
 · (intro wS hSw; (try dsimp only at hSw); have b9 := hSw.b.bp HJN.out; (first | (go_simp; done) | (go_simp; with_reducible rfl)))
 intro hsh10
 clear hsh9
 try simp only [Act.put, List.getElem_toArray, List.getElem_cons_zero, List.getElem_cons_succ, List.setIfInBounds_toArray, List.set_cons_zero, List.set_cons_succ]
 refine anyU_tk 60 (i := 10) (v := .tuple #[.agg #[.int .u8 ok, .int .i64 ot, .int .i64 oc, .int .i64 on], .bool sb]) rfl (fun _ _ _ h => h) (YieldsS.of_call (by rfl) (f := 108) (args := #[.pointer (some ⟨A.ab j, 0, none⟩)]) (fun wS hSw => by first | rfl | (go_simp; done)) (fun wS hSw => ?_)) ?_
 · (refine (bx_op (A.ab j) _ _ _ wS (hSw.b.box j HJN.out)).mono ?_; rintro e wn ⟨he, hbn⟩; exact ⟨by rw [he]; show Ending.returned (.tuple #[(opB (F.bx j)).v, .bool ((F.bx j).s == 1)]) = _; rw [HO.out, HSB.out], hSw.below hbn, hbn⟩)
 intro hsh11
 clear hsh10
 try simp only [Act.put, List.getElem_toArray, List.getElem_cons_zero, List.getElem_cons_succ, List.setIfInBounds_toArray, List.set_cons_zero, List.set_cons_succ]
 refine anyU_tk 60 (i := 11) (v := ?_) rfl (fun _ _ _ h => h) (YieldsS.of_if (Or.inl ⟨by rfl, ?_⟩)) ?_
 rotate_left
 · (intro wS hSw; (try dsimp only at hSw); (first | (go_simp; done) | (go_simp; with_reducible rfl)))
 intro hsh12
 clear hsh11
 try simp only [Act.put, List.getElem_toArray, List.getElem_cons_zero, List.getElem_cons_succ, List.setIfInBounds_toArray, List.set_cons_zero, List.set_cons_succ]
 refine anyU_tk 60 (i := 12) (v := ?_) rfl (fun _ _ _ h => h) (YieldsS.of_if (Or.inl ⟨by rfl, ?_⟩)) ?_
 rotate_left
 · (intro wS hSw; (try dsimp only at hSw); (first | (go_simp; done) | (go_simp; with_reducible rfl)))
 intro hsh13
 clear hsh12
 try simp only [Act.put, List.getElem_toArray, List.getElem_cons_zero, List.getElem_cons_succ, List.setIfInBounds_toArray, List.set_cons_zero, List.set_cons_succ]
 refine anyU_tk 60 (i := 13) (v := ?_) rfl (fun _ _ _ h => h) (YieldsS.of_if (Or.inl ⟨by rfl, ?_⟩)) ?_
 rotate_left
 · (intro wS hSw; (try dsimp only at hSw); (first | (go_simp; done) | (go_simp; with_reducible rfl)))
 intro hsh14
 clear hsh13
 try simp only [Act.put, List.getElem_toArray, List.getElem_cons_zero, List.getElem_cons_succ, List.setIfInBounds_toArray, List.set_cons_zero, List.set_cons_succ]
 refine anyU_make (i := 14) (by kernel_rfl) (by kernel_rfl) (fun wS hSw _ => one_op rfl (by rfl) ?_)
 unfold Oper.wp
 go_simp
 obtain ⟨go, hgo⟩ : ∃ x, wS.heap.size = x := ⟨_, rfl⟩
 have hwg : w.heap.size ≤ go := by have := hSw.size; omega
 refine ⟨hSw.below ((Below.refl _ _).alloc (Nat.le_refl _) _), fun w' => Blk w' go opfT #[.int .u8 0, .int .i64 0, .int .i64 0, .int .i64 0], fun x y hx hy => hx.below_ hy hx.size, Blk.new_ hgo.symm, ?_⟩
 rw [hgo]
 have HWG := Lib.hid hwg
 clear hSw hgo hwg
 refine anyU_make (i := 15) (by kernel_rfl) (by kernel_rfl) (fun wS hSw hDw => one_op rfl (by rfl) ?_)
 have e0 : wS.cell? ⟨go, 0, none⟩ = some (.int .u8 0) := hDw.val (i := 0) rfl
 have e1 : wS.cell? ⟨go, 1, none⟩ = some (.int .i64 0) := hDw.val (i := 1) rfl
 have e2 : wS.cell? ⟨go, 2, none⟩ = some (.int .i64 0) := hDw.val (i := 2) rfl
 have e3 : wS.cell? ⟨go, 3, none⟩ = some (.int .i64 0) := hDw.val (i := 3) rfl
 have ef := hDw.free
 have HS := Lib.hid hSw
 have HD := Lib.hid hDw
 clear hSw hDw
 unfold Oper.wp
 go_simp
 clear e0 e1 e2 e3 ef
 have hkk : Kept (fun k => k = go) wS ((((wS.setCell ⟨go, 0, none⟩ (.int .u8 ok)).setCell ⟨go, 1, none⟩ (.int .i64 ot)).setCell ⟨go, 2, none⟩ (.int .i64 oc)).setCell ⟨go, 3, none⟩ (.int .i64 on)) := by
   repeat (first | with_reducible exact Kept.refl _ _ | refine Kept.set1 ?_ _ _)
 have hbn : Blk ((((wS.setCell ⟨go, 0, none⟩ (.int .u8 ok)).setCell ⟨go, 1, none⟩ (.int .i64 ot)).setCell ⟨go, 2, none⟩ (.int .i64 oc)).setCell ⟨go, 3, none⟩ (.int .i64 on)) go opfT #[.int .u8 ok, .int .i64 ot, .int .i64 oc, .int .i64 on] := by
   have := (((HD.out.set_ 0 (.int .u8 ok)).set_ 1 (.int .i64 ot)).set_ 2 (.int .i64 oc)).set_ 3 (.int .i64 on)
   simpa using this
 refine ⟨HS.out.oth HD.out (by decide) hkk HWG.out, fun w' => Blk w' go opfT #[.int .u8 ok, .int .i64 ot, .int .i64 oc, .int .i64 on], fun x y hx hy => hx.below_ hy hx.size, hbn, ?_⟩
 clear hkk hbn HS HD
 refine anyU_one (i := 16) (v := ?_) (by kernel_rfl) rfl (YieldsS.of_if (Or.inl ⟨by rfl, ?_⟩)) ?_
 rotate_left
 · (intro wS hSw; (try dsimp only at hSw); (first | (go_simp; done) | (go_simp; with_reducible rfl)))
 try simp only [Act.put, List.getElem_toArray, List.getElem_cons_zero, List.getElem_cons_succ, List.setIfInBounds_toArray, List.set_cons_zero, List.set_cons_succ]
 refine anyU_done (by kernel_rfl) (fun w3 hS3 hD3 => ?_) _
 have HON := Lib.hid hS3
 have HOB := Lib.hid hD3
 clear hS3 hD3
 refine NoPanic.normal ?_
 clear c4
 go_upto_region 3 with fail
 refine wp_region_noPanic ?_
 refine wp_region_UD (fun w' => Blk w' go opfT #[.int .u8 ok, .int .i64 ot, .int .i64 oc, .int .i64 on] ∧ Blk w' f frT #[.pointer (some ⟨A.pc, 0, none⟩), .pointer (some ⟨A.r, 0, none⟩), .pointer (some ⟨A.lk, 0, none⟩), .slice (some ⟨A.gb, 0, none⟩) F.N A.bc, .slice (some ⟨A.gc, 0, none⟩) F.N F.N, .int .i64 F.clk, .pointer (some ⟨A.pa, 0, none⟩)]) (fun w' => FOn w f A F w' A F) [7, 10] [] (by kernel_rfl) (⟨HOB.out.drew_, HON.out.b.head.drew_⟩) (HON.out.below (Below.drew (Below.refl _ _))) (fun x y hx hy => hx.below hy) ?_
 intro hsh0
 refine anyU_tk 60 (i := 0) (v := ?_) rfl (fun _ _ _ h => h) (YieldsS.of_if (Or.inl ⟨by rfl, ?_⟩)) ?_
 rotate_left
 · (intro wS hSw; (try dsimp only at hSw); (first | (go_simp; done) | (go_simp; with_reducible rfl)))
 intro hsh1
 clear hsh0
 try simp only [Act.put, List.getElem_toArray, List.getElem_cons_zero, List.getElem_cons_succ, List.setIfInBounds_toArray, List.set_cons_zero, List.set_cons_succ]
 refine anyU_tk 60 (i := 1) (v := ?_) rfl (fun _ _ _ h => h) (YieldsS.of_if (Or.inl ⟨by rfl, ?_⟩)) ?_
 rotate_left
 · (intro wS hSw; (try dsimp only at hSw); (first | (go_simp; done) | (go_simp; with_reducible rfl)))
 intro hsh2
 clear hsh1
 try simp only [Act.put, List.getElem_toArray, List.getElem_cons_zero, List.getElem_cons_succ, List.setIfInBounds_toArray, List.set_cons_zero, List.set_cons_succ]
 refine anyU_tk 60 (i := 2) (v := ?_) rfl (fun _ _ _ h => h) (YieldsS.of_if (Or.inl ⟨by rfl, ?_⟩)) ?_
 rotate_left
 · (intro wS hSw; (try dsimp only at hSw); (first | (go_simp; done) | (go_simp; with_reducible rfl)))
 intro hsh3
 clear hsh2
 try simp only [Act.put, List.getElem_toArray, List.getElem_cons_zero, List.getElem_cons_succ, List.setIfInBounds_toArray, List.set_cons_zero, List.set_cons_succ]
 refine anyU_tk 60 (i := 3) (v := ?_) rfl (fun _ _ _ h => h) (YieldsS.of_if (Or.inl ⟨by rfl, ?_⟩)) ?_
 rotate_left
 · (intro wS hSw; (try dsimp only at hSw); (first | (go_simp; done) | (go_simp; with_reducible rfl)))
 intro hsh4
 clear hsh3
 try simp only [Act.put, List.getElem_toArray, List.getElem_cons_zero, List.getElem_cons_succ, List.setIfInBounds_toArray, List.set_cons_zero, List.set_cons_succ]
 refine anyU_tk 60 (i := 4) (v := ?_) rfl (fun _ _ _ h => h) (YieldsS.of_if (Or.inl ⟨by rfl, ?_⟩)) ?_
 rotate_left
 · (intro wS hSw; (try dsimp only at hSw); have c0 : wS.cell? ⟨f, 0, none⟩ = some (.pointer (some ⟨A.pc, 0, none⟩)) := hSw.2.val (i := 0) rfl; (first | (go_simp; done) | (go_simp; with_reducible rfl)))
 intro hsh5
 clear hsh4
 try simp only [Act.put, List.getElem_toArray, List.getElem_cons_zero, List.getElem_cons_succ, List.setIfInBounds_toArray, List.set_cons_zero, List.set_cons_succ]
 refine anyU_tk 60 (i := 5) (v := ?_) rfl (fun _ _ _ h => h) (YieldsS.of_if (Or.inl ⟨by rfl, ?_⟩)) ?_
 rotate_left
 · (intro wS hSw; (try dsimp only at hSw); (first | (go_simp; done) | (go_simp; with_reducible rfl)))
 intro hsh6
 clear hsh5
 try simp only [Act.put, List.getElem_toArray, List.getElem_cons_zero, List.getElem_cons_succ, List.setIfInBounds_toArray, List.set_cons_zero, List.set_cons_succ]
 refine anyU_tk 60 (i := 6) (v := ?_) rfl (fun _ _ _ h => h) (YieldsS.of_if (Or.inl ⟨by rfl, ?_⟩)) ?_
 rotate_left
 · (intro wS hSw; (try dsimp only at hSw); have o0 : wS.cell? ⟨go, 0, none⟩ = some (.int .u8 ok) := hSw.1.val (i := 0) rfl; have o1 : wS.cell? ⟨go, 1, none⟩ = some (.int .i64 ot) := hSw.1.val (i := 1) rfl; have o2 : wS.cell? ⟨go, 2, none⟩ = some (.int .i64 oc) := hSw.1.val (i := 2) rfl; have o3 : wS.cell? ⟨go, 3, none⟩ = some (.int .i64 on) := hSw.1.val (i := 3) rfl; (first | (go_simp; done) | (go_simp; with_reducible rfl)))
 intro hsh7
 clear hsh6
 try simp only [Act.put, List.getElem_toArray, List.getElem_cons_zero, List.getElem_cons_succ, List.setIfInBounds_toArray, List.set_cons_zero, List.set_cons_succ]
 refine anyU_call (i := 7) 15 #[.pointer (some ⟨A.pc, 0, none⟩), .int .i64 F.clk, .agg #[.int .u8 ok, .int .i64 ot, .int .i64 oc, .int .i64 on]] (.agg #[.int .u8 ra, .int .u64 rk, .int .i64 rt, .int .i64 rc, .int .i64 rs]) (fun w' => ∃ O', FOn w f A F w' { A with oc := O' } { F with S := S' }) (by kernel_rfl) (by kernel_rfl) rfl (by rfl) (fun wS _ _ => by first | rfl | (go_simp; done)) (fun wS hSw hDw => ?_) (fun x y hx hy => by obtain ⟨O1, h1⟩ := hx; exact ⟨O1, h1.below hy⟩) (by assumption) ?_
 · (refine (HDO.out _ _ _ hDw.b.core).mono ?_; rintro e wn ⟨he, hcs⟩; have hcs2 := hcs; obtain ⟨O1, h1, h2, h3⟩ := hcs2; exact ⟨he, ⟨hSw.1.kept h3 (hDw.b.core.not_t hSw.1 (by decide)), hSw.2.kept h3 (hDw.b.core.not_t hSw.2 (by decide))⟩, hDw.toCore (by rw [← HS'.out]; exact hcs)⟩)
 intro hsh8
 clear hsh7
 try simp only [Act.put, List.getElem_toArray, List.getElem_cons_zero, List.getElem_cons_succ, List.setIfInBounds_toArray, List.set_cons_zero, List.set_cons_succ]
 refine anyU_one (i := 8) (v := ?_) (by kernel_rfl) rfl (YieldsS.of_if (Or.inl ⟨by rfl, ?_⟩)) ?_
 rotate_left
 · (intro wS hSw; (try dsimp only at hSw); (first | (go_simp; done) | (go_simp; with_reducible rfl)))
 try simp only [Act.put, List.getElem_toArray, List.getElem_cons_zero, List.getElem_cons_succ, List.setIfInBounds_toArray, List.set_cons_zero, List.set_cons_succ]
 refine anyU_one (i := 9) (v := ?_) (by kernel_rfl) rfl (YieldsS.of_if (Or.inl ⟨by rfl, ?_⟩)) ?_
 rotate_left
 · (intro wS hSw; (try dsimp only at hSw); (first | (go_simp; done) | (go_simp; with_reducible rfl)))
 try simp only [Act.put, List.getElem_toArray, List.getElem_cons_zero, List.getElem_cons_succ, List.setIfInBounds_toArray, List.set_cons_zero, List.set_cons_succ]
 refine anyU_make (i := 10) (by kernel_rfl) (by kernel_rfl) (fun wS hSw hDw => one_op rfl (by rfl) ?_)
 obtain ⟨O1, hon⟩ := hDw
 have e8 := hon.b.kc (i := i) (j := 8) HI.out (by omega) rfl
 have e9 := hon.b.kc (i := i) (j := 9) HI.out (by omega) rfl
 have e10 := hon.b.kc (i := i) (j := 10) HI.out (by omega) rfl
 have e11 := hon.b.kc (i := i) (j := 11) HI.out (by omega) rfl
 have e12 := hon.b.kc (i := i) (j := 12) HI.out (by omega) rfl
 have ef := hon.b.zc
 have HS := Lib.hid hSw
 have HN := Lib.hid hon
 clear hSw hon
 dsimp only at e8 e9 e10 e11 e12 ef
 unfold Oper.wp
 go_simp
 clear e8 e9 e10 e11 e12 ef
 have hkk : Kept (fun k => k = A.gc) wS (((((wS.setCell ⟨A.gc, i * 13 + 8, none⟩ (.int .u8 ra)).setCell ⟨A.gc, i * 13 + 9, none⟩ (.int .u64 rk)).setCell ⟨A.gc, i * 13 + 10, none⟩ (.int .i64 rt)).setCell ⟨A.gc, i * 13 + 11, none⟩ (.int .i64 rc)).setCell ⟨A.gc, i * 13 + 12, none⟩ (.int .i64 rs)) := by
   repeat (first | with_reducible exact Kept.refl _ _ | refine Kept.set1 ?_ _ _)
 have hng : go ≠ A.gc := fun e => HN.out.b.not_own HS.out.1 (by decide) (e ▸ fOwn.gc_ ..)
 have hnf : f ≠ A.gc := fun e => by obtain ⟨cs, hb⟩ := HN.out.b.cal.blk; exact HS.out.2.other hb (by decide) e
 have hre := HN.out.toRe (i := i) HI.out ⟨ra, rk, rt, rc, rs⟩
 refine ⟨⟨HS.out.1.kept hkk hng, HS.out.2.kept hkk hnf⟩, fun w' => ∃ O', FOn w f A F w' { A with oc := O' } (({ F with S := S' } : FrS).setCa i { F.ca i with re := ⟨ra, rk, rt, rc, rs⟩ }), (fun x y hx hy => by obtain ⟨O2, h1⟩ := hx; exact ⟨O2, h1.below hy⟩), ⟨O1, hre⟩, ?_⟩
 clear hkk hng hnf hre HS HN
 refine anyU_done (by kernel_rfl) (fun w4 hS4 hD4 => ?_) _
 obtain ⟨O4, hon⟩ := hD4
 have hob := hS4.1
 refine NoPanic.normal ?_
 clear hS4 HON HOB
 have hca : (((({ F with S := S' } : FrS).setCa i { F.ca i with re := ⟨ra, rk, rt, rc, rs⟩ })).ca i) = { F.ca i with re := ⟨ra, rk, rt, rc, rs⟩ } := setCa_ca _ _ _
 have q7 : w4.cell? ⟨A.gc, i * 13 + 7, none⟩ = some (.int .i64 (j : Int)) := hon.b.kc (i := i) (j := 7) HI.out (by omega) (by rw [setCa_ca]; show some (Value.int .i64 (F.ca i).sv) = _; rw [HJ.out])
 have q8 : w4.cell? ⟨A.gc, i * 13 + 8, none⟩ = some (.int .u8 ra) := hon.b.kc (i := i) (j := 8) HI.out (by omega) (by rw [setCa_ca]; rfl)
 have q9 : w4.cell? ⟨A.gc, i * 13 + 9, none⟩ = some (.int .u64 rk) := hon.b.kc (i := i) (j := 9) HI.out (by omega) (by rw [setCa_ca]; rfl)
 have q10 : w4.cell? ⟨A.gc, i * 13 + 10, none⟩ = some (.int .i64 rt) := hon.b.kc (i := i) (j := 10) HI.out (by omega) (by rw [setCa_ca]; rfl)
 have q11 : w4.cell? ⟨A.gc, i * 13 + 11, none⟩ = some (.int .i64 rc) := hon.b.kc (i := i) (j := 11) HI.out (by omega) (by rw [setCa_ca]; rfl)
 have q12 : w4.cell? ⟨A.gc, i * 13 + 12, none⟩ = some (.int .i64 rs) := hon.b.kc (i := i) (j := 12) HI.out (by omega) (by rw [setCa_ca]; rfl)
 have o0 : w4.cell? ⟨go, 0, none⟩ = some (.int .u8 ok) := hob.val (i := 0) rfl
 have o1 : w4.cell? ⟨go, 1, none⟩ = some (.int .i64 ot) := hob.val (i := 1) rfl
 have o2 : w4.cell? ⟨go, 2, none⟩ = some (.int .i64 oc) := hob.val (i := 2) rfl
 have o3 : w4.cell? ⟨go, 3, none⟩ = some (.int .i64 on) := hob.val (i := 3) rfl
 have HN := Lib.hid hon
 clear hon hob hca
 go_upto_region 4 with fail
 go_still_tail 12, (by kernel_rfl)
 go_wp2_with fail
 refine (fr_record (HN.out.b.below (Below.drew (Below.refl _ _))) ⟨(j : Int), F.clk, ⟨ok, ot, oc, on⟩, ⟨ra, rk, rt, rc, rs⟩⟩ HL.out).mono ?_
 rintro e w5 ⟨rfl, A5, ht, hgc⟩
 have hg5 : A5.gc = A.gc := hgc
 have on5 := (HN.out.below (Below.drew (Below.refl _ _))).trans ht
 have k0 := on5.b.k0 (i := i) HI.out
 have z0 := on5.b.zc (i * 13)
 rw [hg5] at k0 z0
 have HG5 := Lib.hid hg5
 have ON5 := Lib.hid on5
 clear on5 ht hgc hg5 HN q7 q8 q9 q10 q11 q12 o0 o1 o2 o3
 go_wp2
 first | refine bodyPost_end (results_none rfl _ _ _) rfl ⟨rfl, ?_⟩ | refine bodyPost_ret (results_none rfl _ _ _) rfl ⟨rfl, ?_⟩
 have on6 := ON5.out.toCa (i := i) (j := 0) HI.out (by omega) (.int .i64 7) { F.ca i with re := ⟨ra, rk, rt, rc, rs⟩, nx := 7 } (by show (caRowV (upd F.ca i _ i) _).set 0 _ = _; rw [upd_at]; rfl) (by show _ = (upd F.ca i _ i).ac; rw [upd_at])
 rw [HG5.out] at on6
 rw [HAP.out]
 exact Eq.subst (motive := fun X => FTo w f A F X _) (setCa_L ({ F with S := S' } : FrS) i { F.ca i with re := ⟨ra, rk, rt, rc, rs⟩ } { F.ca i with re := ⟨ra, rk, rt, rc, rs⟩, nx := 7 } (F.L ++ [⟨(j : Int), F.clk, ⟨ok, ot, oc, on⟩, ⟨ra, rk, rt, rc, rs⟩⟩])) on6.to
end
end Go.Proofs.YtcffeokbipjaoaaGreat
