/- Texts of this claim, one behind the other: Fni Fnj Unj. -/
import Derived.Test.YtcffeokbipjaoaaGreatMuax
import Derived.Test.YtcffeokbipjaoaaGreatMubj
namespace Go.Proofs.YtcffeokbipjaoaaGreat
open Go.ChangeShapes Go.WideShapes Go.RowKit
set_option linter.unusedVariables false
set_option linter.unusedSimpArgs false
section
variable {w w' : World} {f : Nat} {A : FAd} {F : FrS} {B : Nat}
set_option maxRecDepth 100000 in
set_option maxHeartbeats 4000000 in
theorem fr_take (h : FrB w f A F) (hok : FOk F B) (hB : B ≤ 800000) {i : Nat} (hi : i < F.N) {a : Ac} (ha : (F.ca i).ac = some a) : Calls Tryz.prog 60 #[.pointer (some ⟨f, 0, none⟩), .int .i64 (i : Int)] w fun e w' => e = .returned (.tuple #[]) ∧ FTo w f A F (fsTake F i) w' := by
 have i1 : (0 : Int) ≤ (i : Int) := by omega
 have i2 : (i : Int) < (F.N : Int) := by omega
 have hac : acOf (F.ca i) = a := by unfold acOf; rw [ha]; rfl
 have k5 := h.k5 hi ha
 have c4 := h.c4
 have hpp := (acS_ok (n := F.n) hok.g ((hok.ca i).ac a ha)).pp
 have hN2 := hok.N2
 have H := Lib.hid h
 have HI := Lib.hid hi
 have HOK := Lib.hid hok
 have HAC := Lib.hid hac
 have HA := Lib.hid ha
 clear h hi hok ha hac
 obtain ⟨a', ha'⟩ : ∃ x, acS F.n F.g a = x := ⟨_, rfl⟩
 rw [ha'] at hpp
 obtain ⟨px, hpx⟩ : ∃ x, a'.pp = x := ⟨_, rfl⟩
 rw [hpx] at hpp
 have hw : IntKind.i64.wrap px = px := by rw [IntKind.wrap_i64]; omega
 have HA' := Lib.hid ha'
 have HPX := Lib.hid hpx
 clear ha' hpx
 go_enter Tryz.func60, Tryz.ntmps60
 go_wp2_with fail
 refine (HOK.out.step hB H.out HI.out HA.out).mono ?_
 rw [HA'.out]
 rintro e w1 ⟨rfl, hr, hb, hk⟩
 have on := (FOn.refl H.out).toStep HI.out HA.out hr hb hk
 have hca : ((({ F with g := rgS F.n F.g a } : FrS).setCa i { F.ca i with ac := some a' }).ca i) = { F.ca i with ac := some a' } := setCa_ca _ _ _
 have k5' : w1.cell? ⟨A.gc, i * 13 + 5, none⟩ = some (.pointer (some ⟨A.aa i, 0, none⟩)) := on.b.k5 (i := i) (a := a') HI.out (by rw [hca])
 have z := on.b.zc
 by_cases he : endE a'.nx = false
 · rw [he]
   have HE := Lib.hid he
   have ON := Lib.hid on
   clear on hr hb hk he k5 hca k5' z
   go_wp2
   first | refine bodyPost_end (results_none rfl _ _ _) rfl ⟨rfl, ?_⟩ | refine bodyPost_ret (results_none rfl _ _ _) rfl ⟨rfl, ?_⟩
   unfold fsTake
   rw [HAC.out, HA'.out, if_pos HE.out]
   exact ON.out.to
 · have he' : endE a'.nx = true := by simpa using he
   rw [he']
   have HE := Lib.hid he
   have ON := Lib.hid on
   have HCA := Lib.hid hca
   have k0 := on.b.k0 (i := i) HI.out
   have k7 := on.b.k7 (i := i) HI.out
   clear on hr hk he he' k5 hca
   have HB := Lib.hid hb
   clear hb
   go_wp2_with fail
   refine (rok w1 HB.out).mono ?_
   rintro e w2 ⟨rfl, rfl⟩
   by_cases h1 : a'.nx = 1
   · rw [show (a'.nx == 1) = true by rw [h1]; rfl]
     have H1 := Lib.hid h1
     clear h1
     go_wp2_with (go_at_call 107; refine (rvalue w1 HB.out).mono ?_; rw [HPX.out]; rintro e w2 ⟨rfl, rfl⟩)
     first | refine bodyPost_end (results_none rfl _ _ _) rfl ⟨rfl, ?_⟩ | refine bodyPost_ret (results_none rfl _ _ _) rfl ⟨rfl, ?_⟩
     have on2 := (ON.out.toCa (i := i) (j := 7) HI.out (by omega) (.int .i64 px) { F.ca i with ac := some a', sv := px } (by rw [setCa_ca]; rfl) (by rw [setCa_ca]))
     have on3 := on2.toCa (i := i) (j := 0) HI.out (by omega) (.int .i64 6) { F.ca i with ac := some a', sv := px, nx := 6 } (by rw [setCa_ca]; rfl) (by rw [setCa_ca])
     rw [setCa_setCa, setCa_setCa] at on3
     unfold fsTake
     rw [HAC.out, HA'.out, if_neg HE.out, if_pos H1.out, HPX.out]
     exact on3.to
   · rw [show (a'.nx == 1) = false by simpa using h1]
     have H1 := Lib.hid h1
     clear h1
     go_wp2
     first | refine bodyPost_end (results_none rfl _ _ _) rfl ⟨rfl, ?_⟩ | refine bodyPost_ret (results_none rfl _ _ _) rfl ⟨rfl, ?_⟩
     have on2 := (ON.out.toCa (i := i) (j := 0) HI.out (by omega) (.int .i64 8) { F.ca i with ac := some a', nx := 8 } (by rw [setCa_ca]; rfl) (by rw [setCa_ca]))
     rw [setCa_setCa] at on2
     unfold fsTake
     rw [HAC.out, HA'.out, if_neg HE.out, if_neg H1.out]
     exact on2.to
theorem mine_own {i : Nat} {a : Ac} (hi : i < F.N) (ha : (F.ca i).ac = some a) {k : Nat} (hm : Mine (A.aa i) A.r A.s k) : fOwn f A F k := by
 rcases hm with e | e | e
 · rw [e]; exact fOwn.aa_ _ _ _ hi ha
 · rw [e]; exact fOwn.r_ ..
 · rw [e]; exact fOwn.s_ ..
set_option maxRecDepth 100000 in
set_option maxHeartbeats 4000000 in
theorem fr_join (h : FrB w f A F) (hok : FOk F B) (hB : B ≤ 800000) {i : Nat} (hi : i < F.N) {a : Ac} (ha : (F.ca i).ac = some a) : Calls Tryz.prog 57 #[.pointer (some ⟨f, 0, none⟩), .int .i64 (i : Int)] w fun e w' => e = .returned (.tuple #[(frJoin F i).1.v, .bool (frJoin F i).2]) ∧ FTo w f A F (fsJoin F i) w' := by
 have i1 : (0 : Int) ≤ (i : Int) := by omega
 have i2 : (i : Int) < (F.N : Int) := by omega
 have hac : acOf (F.ca i) = a := by unfold acOf; rw [ha]; rfl
 have H := Lib.hid h
 have HI := Lib.hid hi
 have HOK := Lib.hid hok
 have HAC := Lib.hid hac
 have HA := Lib.hid ha
 clear h hi hok ha hac
 obtain ⟨a', ha'⟩ : ∃ x, acS F.n F.g a = x := ⟨_, rfl⟩
 have HA' := Lib.hid ha'
 clear ha'
 go_enter Tryz.func57, Tryz.ntmps57
 go_upto_region 1 with fail
 refine wp_worldx (fun wx => FOn w f A F wx A F ∧ Blk wx w.heap.size reT #[.int .u8 0, .int .u64 0, .int .i64 0, .int .i64 0, .int .i64 0]) ⟨(FOn.refl H.out).below ((Below.refl _ _).alloc (Nat.le_refl _) _), Blk.made w _ _⟩ ?_
 obtain ⟨g, hg⟩ : ∃ g, w.heap.size = g := ⟨_, rfl⟩
 rw [hg]
 rintro w1 ⟨on, hb1⟩
 have c4 := on.b.c4
 have k5 := on.b.k5 HI.out HA.out
 have ON := Lib.hid on
 have HB1 := Lib.hid hb1
 have HG := Lib.hid hg
 clear on hb1 hg
 go_wp2_with fail
 refine (HOK.out.step hB ON.out.b HI.out HA.out).mono ?_
 rw [HA'.out]
 rintro e w2 ⟨rfl, hr, hb, hk⟩
 have on := ON.out.toStep HI.out HA.out hr hb hk
 have hb2 := HB1.out.kept hk (fun hm => ON.out.b.not_own HB1.out (by decide) (mine_own HI.out HA.out hm))
 have hca : ((({ F with g := rgS F.n F.g a } : FrS).setCa i { F.ca i with ac := some a' }).ca i) = { F.ca i with ac := some a' } := setCa_ca _ _ _
 have k5' : w2.cell? ⟨A.gc, i * 13 + 5, none⟩ = some (.pointer (some ⟨A.aa i, 0, none⟩)) := on.b.k5 (i := i) (a := a') HI.out (by rw [hca])
 have z := on.b.zc
 have HB2 := Lib.hid hb2
 have HCA := Lib.hid hca
 by_cases he : endE a'.nx = false
 · rw [he]
   have HE := Lib.hid he
   have ON2 := Lib.hid on
   clear on hr hb hk he k5 hca k5' z c4 ON HB1 hb2
   have y0 : w2.cell? ⟨g, 0, none⟩ = some (.int .u8 0) := HB2.out.val (i := 0) rfl
   have y1 : w2.cell? ⟨g, 1, none⟩ = some (.int .u64 0) := HB2.out.val (i := 1) rfl
   have y2 : w2.cell? ⟨g, 2, none⟩ = some (.int .i64 0) := HB2.out.val (i := 2) rfl
   have y3 : w2.cell? ⟨g, 3, none⟩ = some (.int .i64 0) := HB2.out.val (i := 3) rfl
   have y4 : w2.cell? ⟨g, 4, none⟩ = some (.int .i64 0) := HB2.out.val (i := 4) rfl
   have yz := HB2.out.free
   go_wp2
   have hbf : Blk (((((w2.setCell ⟨g, 0, none⟩ (.int .u8 0)).setCell ⟨g, 1, none⟩ (.int .u64 0)).setCell ⟨g, 2, none⟩ (.int .i64 0)).setCell ⟨g, 3, none⟩ (.int .i64 0)).setCell ⟨g, 4, none⟩ (.int .i64 0)) g reT #[.int .u8 0, .int .u64 0, .int .i64 0, .int .i64 0, .int .i64 0] := by
     have := (((((HB2.out.set_ 0 (.int .u8 0)).set_ 1 (.int .u64 0)).set_ 2 (.int .i64 0)).set_ 3 (.int .i64 0)).set_ 4 (.int .i64 0))
     simpa using this
   have hk : Kept (fun k => k = g) w2 (((((w2.setCell ⟨g, 0, none⟩ (.int .u8 0)).setCell ⟨g, 1, none⟩ (.int .u64 0)).setCell ⟨g, 2, none⟩ (.int .i64 0)).setCell ⟨g, 3, none⟩ (.int .i64 0)).setCell ⟨g, 4, none⟩ (.int .i64 0)) := by
     repeat (first | with_reducible exact Kept.refl _ _ | refine Kept.set1 ?_ _ _)
   obtain ⟨W, hW⟩ : ∃ W, (((((w2.setCell ⟨g, 0, none⟩ (.int .u8 0)).setCell ⟨g, 1, none⟩ (.int .u64 0)).setCell ⟨g, 2, none⟩ (.int .i64 0)).setCell ⟨g, 3, none⟩ (.int .i64 0)).setCell ⟨g, 4, none⟩ (.int .i64 0)) = W := ⟨_, rfl⟩
   rw [hW] at hbf hk ⊢
   have d0 : W.cell? ⟨g, 0, none⟩ = some (.int .u8 0) := hbf.val (i := 0) rfl
   have d1 : W.cell? ⟨g, 1, none⟩ = some (.int .u64 0) := hbf.val (i := 1) rfl
   have d2 : W.cell? ⟨g, 2, none⟩ = some (.int .i64 0) := hbf.val (i := 2) rfl
   have d3 : W.cell? ⟨g, 3, none⟩ = some (.int .i64 0) := hbf.val (i := 3) rfl
   have d4 : W.cell? ⟨g, 4, none⟩ = some (.int .i64 0) := hbf.val (i := 4) rfl
   refine bodyPost_ret (v := .tuple #[.agg #[.int .u8 0, .int .u64 0, .int .i64 0, .int .i64 0, .int .i64 0], .bool false]) (by simp [results, Tryz.results57, go_sem, d0, d1, d2, d3, d4]) rfl ⟨?_, ?_⟩
   · unfold frJoin; rw [HAC.out, HA'.out, if_pos HE.out]; rfl
   · have hd := (ON2.out.oth HB2.out (by decide) hk (by have := HG.out; omega)).to
     unfold fsJoin; rw [HAC.out, HA'.out, if_pos HE.out]; exact hd
 · have he' : endE a'.nx = true := by simpa using he
   rw [he']
   have HE := Lib.hid he
   have ON2 := Lib.hid on
   have k0 := on.b.k0 (i := i) HI.out
   clear on hr hk he he' k5 hca hb2 ON HB1 c4
   have HB := Lib.hid hb
   clear hb
   go_wp2_with fail
   refine (rok w2 HB.out).mono ?_
   rintro e w3 ⟨rfl, rfl⟩
   by_cases h1 : a'.nx = 1
   · rw [show (a'.nx == 1) = true by rw [h1]; rfl]
     have H1 := Lib.hid h1
     clear h1 k5'
     go_upto_region 8 with fail
     have on3 := ON2.out.toCa (i := i) (j := 0) HI.out (by omega) (.int .i64 3) { F.ca i with ac := some a', nx := 3 } (by rw [setCa_ca]; rfl) (by rw [setCa_ca])
     rw [setCa_setCa] at on3
     have hb4 := HB2.out.kept (own := fun k => k = A.gc) (kset1 w2 A.gc (i * 13) (.int .i64 3)) (fun e => ON2.out.b.not_own HB2.out (by decide) (e ▸ fOwn.gc_ ..))
     refine wp_worldx (fun wx => FOn w f A F wx A (({ F with g := rgS F.n F.g a } : FrS).setCa i { F.ca i with ac := some a', nx := 3 }) ∧ Blk wx g reT #[.int .u8 0, .int .u64 0, .int .i64 0, .int .i64 0, .int .i64 0]) ⟨on3, hb4⟩ ?_
     clear on3 hb4 ON2 HB2 HB k0 z
     rintro w4 ⟨on4, hb4⟩
     have ON4 := Lib.hid on4
     have HB4 := Lib.hid hb4
     clear on4 hb4
     have y0 : w4.cell? ⟨g, 0, none⟩ = some (.int .u8 0) := HB4.out.val (i := 0) rfl
     have y1 : w4.cell? ⟨g, 1, none⟩ = some (.int .u64 0) := HB4.out.val (i := 1) rfl
     have y2 : w4.cell? ⟨g, 2, none⟩ = some (.int .i64 0) := HB4.out.val (i := 2) rfl
     have y3 : w4.cell? ⟨g, 3, none⟩ = some (.int .i64 0) := HB4.out.val (i := 3) rfl
     have y4 : w4.cell? ⟨g, 4, none⟩ = some (.int .i64 0) := HB4.out.val (i := 4) rfl
     have yz := HB4.out.free
     go_wp2
     have hbf : Blk (((((w4.setCell ⟨g, 0, none⟩ (.int .u8 0)).setCell ⟨g, 1, none⟩ (.int .u64 0)).setCell ⟨g, 2, none⟩ (.int .i64 0)).setCell ⟨g, 3, none⟩ (.int .i64 0)).setCell ⟨g, 4, none⟩ (.int .i64 0)) g reT #[.int .u8 0, .int .u64 0, .int .i64 0, .int .i64 0, .int .i64 0] := by
       have := (((((HB4.out.set_ 0 (.int .u8 0)).set_ 1 (.int .u64 0)).set_ 2 (.int .i64 0)).set_ 3 (.int .i64 0)).set_ 4 (.int .i64 0))
       simpa using this
     have hk : Kept (fun k => k = g) w4 (((((w4.setCell ⟨g, 0, none⟩ (.int .u8 0)).setCell ⟨g, 1, none⟩ (.int .u64 0)).setCell ⟨g, 2, none⟩ (.int .i64 0)).setCell ⟨g, 3, none⟩ (.int .i64 0)).setCell ⟨g, 4, none⟩ (.int .i64 0)) := by
       repeat (first | with_reducible exact Kept.refl _ _ | refine Kept.set1 ?_ _ _)
     obtain ⟨W, hW⟩ : ∃ W, (((((w4.setCell ⟨g, 0, none⟩ (.int .u8 0)).setCell ⟨g, 1, none⟩ (.int .u64 0)).setCell ⟨g, 2, none⟩ (.int .i64 0)).setCell ⟨g, 3, none⟩ (.int .i64 0)).setCell ⟨g, 4, none⟩ (.int .i64 0)) = W := ⟨_, rfl⟩
     rw [hW] at hbf hk ⊢
     have d0 : W.cell? ⟨g, 0, none⟩ = some (.int .u8 0) := hbf.val (i := 0) rfl
     have d1 : W.cell? ⟨g, 1, none⟩ = some (.int .u64 0) := hbf.val (i := 1) rfl
     have d2 : W.cell? ⟨g, 2, none⟩ = some (.int .i64 0) := hbf.val (i := 2) rfl
     have d3 : W.cell? ⟨g, 3, none⟩ = some (.int .i64 0) := hbf.val (i := 3) rfl
     have d4 : W.cell? ⟨g, 4, none⟩ = some (.int .i64 0) := hbf.val (i := 4) rfl
     refine bodyPost_ret (v := .tuple #[.agg #[.int .u8 0, .int .u64 0, .int .i64 0, .int .i64 0, .int .i64 0], .bool false]) (by simp [results, Tryz.results57, go_sem, d0, d1, d2, d3, d4]) rfl ⟨?_, ?_⟩
     · unfold frJoin; rw [HAC.out, HA'.out, if_neg HE.out, if_pos H1.out]; rfl
     · have hd := (ON4.out.oth HB4.out (by decide) hk (by have := HG.out; omega)).to
       unfold fsJoin; rw [HAC.out, HA'.out, if_neg HE.out, if_pos H1.out]; exact hd
   · rw [show (a'.nx == 1) = false by simpa using h1]
     have H1 := Lib.hid h1
     clear h1 k5' k0 z
     go_wp2_with fail
     refine (fr_withdraw ON2.out.b (i := i) HI.out).mono ?_
     rintro e w4 ⟨rfl, A2, ht⟩
     have hb4 := ht.blk ON2.out.b HB2.out (by decide)
     have on4 := ON2.out.trans ht
     have ON4 := Lib.hid on4
     have HB4 := Lib.hid hb4
     clear ht hb4 on4 ON2 HB2 HB
     go_wp2_with fail
     refine (fr_end ON4.out.b (i := i) HI.out busyR).mono ?_
     rintro e w5 ⟨rfl, A3, ht⟩
     have hb5 := ht.blk ON4.out.b HB4.out (by decide)
     have on5 := ON4.out.trans ht
     have ON5 := Lib.hid on5
     have HB5 := Lib.hid hb5
     clear ht hb5 on5 ON4 HB4
     have hbu : busyR.v = .agg #[.int .u8 11, .int .u64 0, .int .i64 0, .int .i64 0, .int .i64 0] := rfl
     rw [hbu]
     clear hbu
     have y0 : w5.cell? ⟨g, 0, none⟩ = some (.int .u8 0) := HB5.out.val (i := 0) rfl
     have y1 : w5.cell? ⟨g, 1, none⟩ = some (.int .u64 0) := HB5.out.val (i := 1) rfl
     have y2 : w5.cell? ⟨g, 2, none⟩ = some (.int .i64 0) := HB5.out.val (i := 2) rfl
     have y3 : w5.cell? ⟨g, 3, none⟩ = some (.int .i64 0) := HB5.out.val (i := 3) rfl
     have y4 : w5.cell? ⟨g, 4, none⟩ = some (.int .i64 0) := HB5.out.val (i := 4) rfl
     have yz := HB5.out.free
     go_wp2
     have hbf : Blk (((((w5.setCell ⟨g, 0, none⟩ (.int .u8 11)).setCell ⟨g, 1, none⟩ (.int .u64 0)).setCell ⟨g, 2, none⟩ (.int .i64 0)).setCell ⟨g, 3, none⟩ (.int .i64 0)).setCell ⟨g, 4, none⟩ (.int .i64 0)) g reT #[.int .u8 11, .int .u64 0, .int .i64 0, .int .i64 0, .int .i64 0] := by
       have := (((((HB5.out.set_ 0 (.int .u8 11)).set_ 1 (.int .u64 0)).set_ 2 (.int .i64 0)).set_ 3 (.int .i64 0)).set_ 4 (.int .i64 0))
       simpa using this
     have hk : Kept (fun k => k = g) w5 (((((w5.setCell ⟨g, 0, none⟩ (.int .u8 11)).setCell ⟨g, 1, none⟩ (.int .u64 0)).setCell ⟨g, 2, none⟩ (.int .i64 0)).setCell ⟨g, 3, none⟩ (.int .i64 0)).setCell ⟨g, 4, none⟩ (.int .i64 0)) := by
       repeat (first | with_reducible exact Kept.refl _ _ | refine Kept.set1 ?_ _ _)
     obtain ⟨W, hW⟩ : ∃ W, (((((w5.setCell ⟨g, 0, none⟩ (.int .u8 11)).setCell ⟨g, 1, none⟩ (.int .u64 0)).setCell ⟨g, 2, none⟩ (.int .i64 0)).setCell ⟨g, 3, none⟩ (.int .i64 0)).setCell ⟨g, 4, none⟩ (.int .i64 0)) = W := ⟨_, rfl⟩
     rw [hW] at hbf hk ⊢
     have d0 : W.cell? ⟨g, 0, none⟩ = some (.int .u8 11) := hbf.val (i := 0) rfl
     have d1 : W.cell? ⟨g, 1, none⟩ = some (.int .u64 0) := hbf.val (i := 1) rfl
     have d2 : W.cell? ⟨g, 2, none⟩ = some (.int .i64 0) := hbf.val (i := 2) rfl
     have d3 : W.cell? ⟨g, 3, none⟩ = some (.int .i64 0) := hbf.val (i := 3) rfl
     have d4 : W.cell? ⟨g, 4, none⟩ = some (.int .i64 0) := hbf.val (i := 4) rfl
     refine bodyPost_ret (v := .tuple #[.agg #[.int .u8 11, .int .u64 0, .int .i64 0, .int .i64 0, .int .i64 0], .bool true]) (by simp [results, Tryz.results57, go_sem, d0, d1, d2, d3, d4]) rfl ⟨?_, ?_⟩
     · unfold frJoin; rw [HAC.out, HA'.out, if_neg HE.out, if_neg H1.out]; rfl
     · have hd := (ON5.out.oth HB5.out (by decide) hk (by have := HG.out; omega)).to
       unfold fsJoin; rw [HAC.out, HA'.out, if_neg HE.out, if_neg H1.out]
       have hq : ((({ F with g := rgS F.n F.g a } : FrS).setCa i { F.ca i with ac := some a' }).setBx i (colB (finB (F.bx i) re0))).setCa i ca0 = ((({ F with g := rgS F.n F.g a }) : FrS).setBx i (colB (finB (F.bx i) re0))).setCa i ca0 := by
         show ({ F with g := rgS F.n F.g a, bx := upd F.bx i _, ca := upd (upd F.ca i _) i ca0 } : FrS) = _
         rw [upd_upd]
       rw [← hq]
       exact hd
end
end Go.Proofs.YtcffeokbipjaoaaGreat
namespace Go.Proofs.YtcffeokbipjaoaaGreat
open Go.ChangeShapes Go.WideShapes Go.RowKit
set_option linter.unusedVariables false
set_option linter.unusedSimpArgs false
theorem quiet_w {P : Program} {f : FuncId} {args : Array Value} {w : World} {a : Nat} {v : Value} (h : Calls P f args (w.drewN a) fun e w' => e = .returned v ∧ w.drewN a = w') :
   Calls P f args (w.drewN a) fun e w'' => e = .returned v ∧ ∃ m, w'' = w.drewN m := h.mono fun _ _ ⟨h, hm⟩ => ⟨h, a, hm.symm⟩
section
variable {w w' : World} {f : Nat} {A : FAd} {F : FrS} {B : Nat}
theorem FrB.drewN_ (h : FrB w f A F) (k : Nat) : FrB (w.drewN k) f A F := h.below ⟨rfl, rfl, rfl, Nat.le_refl _, fun _ _ => rfl⟩
set_option maxRecDepth 100000 in
theorem fr_entry (h : FrB w f A F) {i : Nat} (hi : i < F.N) (hN : F.N ≤ 16) : Calls Tryz.prog 99 #[.pointer (some ⟨f, 0, none⟩), .int .i64 (i : Int)] w fun e w' => ∃ x : Nat, e = .returned (.pointer (some ⟨x, 0, none⟩)) ∧ w.heap.size ≤ x ∧ ActAt w' x A.r (entryA F i) ∧ Below w.heap.size w w' := by
 have c1 := h.c1
 have hw : IntKind.u64.wrap (i : Int) = (i : Int) := IntWalk.u64_in _ (by omega)
 have H := Lib.hid h
 obtain ⟨n, hn⟩ : ∃ n, F.n = n := ⟨_, rfl⟩
 obtain ⟨N, hN'⟩ : ∃ N, F.N = N := ⟨_, rfl⟩
 have ht : ∀ k, Calls Tryz.prog 30 #[.pointer (some ⟨f, 0, none⟩)] (w.drewN k) fun e w' => e = .returned (.int .i64 (N : Int)) ∧ w.drewN k = w' := fun k => by rw [← hN']; exact fr_threads (H.out.drewN_ k)
 have hc : ∀ k, Calls Tryz.prog 146 #[.pointer (some ⟨A.r, 0, none⟩)] (w.drewN k) fun e w' => e = .returned (.int .i64 (n : Int)) ∧ w.drewN k = w' := fun k => by rw [← hn]; exact rcap _ (H.out.drewN_ k).ring
 have HT := Lib.hid ht
 have HC := Lib.hid hc
 have HE := Lib.hid (show entryA F i = if N ≤ n then ⟨5, 0, 0, (i : Int), 0, false, false⟩ else ⟨2, 0, 0, (i : Int), 0, false, false⟩ from by unfold entryA; rw [hn, hN'])
 clear h hn hN' ht hc hi hN
 by_cases hq : N ≤ n
 · have hq2 : (N : Int) ≤ (n : Int) := by omega
   have HQ := Lib.hid hq
   clear hq
   go_enter Tryz.func99, Tryz.ntmps99
   go_wp2
   go_quiet (first | (go_at_call 30; exact quiet_w (HT.out _)) | (go_at_call 146; exact quiet_w (HC.out _)))
   go_wp2_with fail
   refine (rjoin (r := A.r) (i : Int) _).mono ?_
   rintro e w1 ⟨rfl, ha, hb⟩
   have HA := Lib.hid ha
   have HB := Lib.hid hb
   clear ha hb
   go_wp2
   go_ret
   exact ⟨_, rfl, by simp, by rw [HE.out, if_pos HQ.out]; exact HA.out, ⟨HB.out.os, HB.out.tape, HB.out.output, by have := HB.out.size; simpa using this, fun k hk => by have := HB.out.block k (by simpa using hk); simpa using this⟩⟩
 · have hq2 : ¬ (N : Int) ≤ (n : Int) := by omega
   have HQ := Lib.hid hq
   clear hq
   go_enter Tryz.func99, Tryz.ntmps99
   go_wp2
   go_quiet (first | (go_at_call 30; exact quiet_w (HT.out _)) | (go_at_call 146; exact quiet_w (HC.out _)))
   go_wp2_with fail
   refine (rpush (r := A.r) (i : Int) _).mono ?_
   rintro e w1 ⟨rfl, ha, hb⟩
   have HA := Lib.hid ha
   have HB := Lib.hid hb
   clear ha hb
   go_wp2
   go_ret
   exact ⟨_, rfl, by simp, by rw [HE.out, if_neg HQ.out]; exact HA.out, ⟨HB.out.os, HB.out.tape, HB.out.output, by have := HB.out.size; simpa using this, fun k hk => by have := HB.out.block k (by simpa using hk); simpa using this⟩⟩
set_option maxRecDepth 100000 in
theorem fr_post (h : FrB w f A F) {i : Nat} (hi : i < F.N) (hN : F.N ≤ 16) : Calls Tryz.prog 56 #[.pointer (some ⟨f, 0, none⟩), .int .i64 (i : Int)] w fun e w' => e = .returned (.tuple #[]) ∧ FTo w f A F (fsPost F i) w' := by
 have i1 : (0 : Int) ≤ (i : Int) := by omega
 have i2 : (i : Int) < (F.N : Int) := by omega
 have c3 := h.c3
 have c4 := h.c4
 have b := h.bp hi
 obtain ⟨⟨ok, ot, oc, on⟩, ho⟩ : ∃ o, (F.ca i).op = o := ⟨_, rfl⟩
 have q1 : w.cell? ⟨A.gc, i * 13 + 1, none⟩ = some (.int .u8 ok) := h.kc (j := 1) hi (by omega) (by show some (Value.int .u8 (F.ca i).op.k) = _; rw [ho])
 have q2 : w.cell? ⟨A.gc, i * 13 + 2, none⟩ = some (.int .i64 ot) := h.kc (j := 2) hi (by omega) (by show some (Value.int .i64 (F.ca i).op.t) = _; rw [ho])
 have q3 : w.cell? ⟨A.gc, i * 13 + 3, none⟩ = some (.int .i64 oc) := h.kc (j := 3) hi (by omega) (by show some (Value.int .i64 (F.ca i).op.c) = _; rw [ho])
 have q4 : w.cell? ⟨A.gc, i * 13 + 4, none⟩ = some (.int .i64 on) := h.kc (j := 4) hi (by omega) (by show some (Value.int .i64 (F.ca i).op.n) = _; rw [ho])
 have H := Lib.hid h
 have HI := Lib.hid hi
 have HN := Lib.hid hN
 have HO := Lib.hid ho
 clear h hi ho hN
 go_enter Tryz.func56, Tryz.ntmps56
 go_upto_region 1 with fail
 go_still_tail 11, (by kernel_rfl)
 go_wp2_with fail
 have hd : FrB w.drew f A F := H.out.below (Below.drew (Below.refl _ _))
 refine (bx_post (A.ab i) _ _ _ ⟨ok, ot, oc, on⟩ _ (hd.box i HI.out)).mono ?_
 rintro e w1 ⟨rfl, hb, hk⟩
 have on1 := ((FOn.refl H.out).below (Below.drew (Below.refl _ _))).toBx (b := postB (F.bx i) (F.ca i).op) HI.out (by rw [HO.out]; exact hb) hk
 have ON := Lib.hid on1
 clear on1 hb hk hd c3 c4 b q1 q2 q3 q4
 go_wp2_with fail
 refine (fr_entry ON.out.b (i := i) HI.out HN.out).mono ?_
 rintro e w2 ⟨x, rfl, hx, ha, hb⟩
 have on2 := (ON.out.below hb).toAct (i := i) HI.out (entryA F i) ha (fun j b hj hne hb' e => by have := (ON.out.b.act j b hj hb').size; omega) (Nat.le_trans ON.out.size hx)
 have on3 := on2.toCa (i := i) (j := 0) HI.out (by omega) (.int .i64 2) { F.ca i with ac := some (entryA F i), nx := 2 } (by rw [setCa_ca]; rfl) (by rw [setCa_ca])
 rw [setCa_setCa] at on3
 have ob := ON.out.below hb
 obtain ⟨v5, k5⟩ : ∃ v, w2.cell? ⟨A.gc, i * 13 + 5, none⟩ = some v := ⟨_, ob.b.kc (i := i) HI.out (show 5 < 13 by omega) rfl⟩
 have k0 := ob.b.k0 (i := i) HI.out
 have z := ob.b.zc
 have ON3 := Lib.hid on3
 clear on2 on3 ob ha hb hx ON
 go_wp2
 first | refine bodyPost_end (results_none rfl _ _ _) rfl ⟨rfl, ?_⟩ | refine bodyPost_ret (results_none rfl _ _ _) rfl ⟨rfl, ?_⟩
 exact ON3.out.to
set_option maxRecDepth 100000 in
theorem fr_tell (h : FrB w f A F) (hok : FOk F B) {i : Nat} (hi : i < F.N) (hx : (F.ca i).nx = 7) : Calls Tryz.prog 62 #[.pointer (some ⟨f, 0, none⟩), .int .i64 (i : Int)] w fun e w' => e = .returned (.tuple #[]) ∧ FTo w f A F (fsTell F i) w' := by
 have i1 : (0 : Int) ≤ (i : Int) := by omega
 have i2 : (i : Int) < (F.N : Int) := by omega
 have hsv := (hok.ca i).sv
 have hlf := (hok.ca i).lf
 have hlf1 := (hok.ca i).lf1 (.inr (.inr hx))
 obtain ⟨j, hj⟩ : ∃ j : Nat, (F.ca i).sv = (j : Int) := ⟨(F.ca i).sv.toNat, by omega⟩
 have hjn : j < F.N := by omega
 have j1 : (0 : Int) ≤ (j : Int) := by omega
 have j2 : (j : Int) < (F.N : Int) := by omega
 have htell : fsTell F i = (F.setBx j (finB (F.bx j) (F.ca i).re)).setCa i (nextC { F.ca i with lf := (F.ca i).lf - 1 }) := by unfold fsTell; rw [hj]; rfl
 have c3 := h.c3
 have c4 := h.c4
 have b := h.bp hjn
 obtain ⟨⟨ra, rk, rt, rc, rs⟩, hr⟩ : ∃ r, (F.ca i).re = r := ⟨_, rfl⟩
 have q7 : w.cell? ⟨A.gc, i * 13 + 7, none⟩ = some (.int .i64 (j : Int)) := by rw [← hj]; exact h.k7 hi
 have q8 : w.cell? ⟨A.gc, i * 13 + 8, none⟩ = some (.int .u8 ra) := h.kc (j := 8) hi (by omega) (by show some (Value.int .u8 (F.ca i).re.a) = _; rw [hr])
 have q9 : w.cell? ⟨A.gc, i * 13 + 9, none⟩ = some (.int .u64 rk) := h.kc (j := 9) hi (by omega) (by show some (Value.int .u64 (F.ca i).re.k) = _; rw [hr])
 have q10 : w.cell? ⟨A.gc, i * 13 + 10, none⟩ = some (.int .i64 rt) := h.kc (j := 10) hi (by omega) (by show some (Value.int .i64 (F.ca i).re.t) = _; rw [hr])
 have q11 : w.cell? ⟨A.gc, i * 13 + 11, none⟩ = some (.int .i64 rc) := h.kc (j := 11) hi (by omega) (by show some (Value.int .i64 (F.ca i).re.c) = _; rw [hr])
 have q12 : w.cell? ⟨A.gc, i * 13 + 12, none⟩ = some (.int .i64 rs) := h.kc (j := 12) hi (by omega) (by show some (Value.int .i64 (F.ca i).re.s) = _; rw [hr])
 obtain ⟨lf, hl⟩ : ∃ z, (F.ca i).lf = z := ⟨_, rfl⟩
 rw [hl] at hlf hlf1
 have hw : IntKind.i64.wrap (lf - 1) = lf - 1 := by rw [IntKind.wrap_i64]; omega
 have H := Lib.hid h
 have HI := Lib.hid hi
 have HJ := Lib.hid hjn
 have HR := Lib.hid hr
 have HL := Lib.hid hl
 have HT := Lib.hid htell
 clear h hi hr hl hok hx hsv hlf hlf1 hj hjn htell
 go_enter Tryz.func62, Tryz.ntmps62
 go_upto_region 1 with fail
 go_still_tail 14, (by kernel_rfl)
 go_wp2_with fail
 have hd : FrB w.drew f A F := H.out.below (Below.drew (Below.refl _ _))
 refine (bx_fin (A.ab j) _ _ _ ⟨ra, rk, rt, rc, rs⟩ _ (hd.box j HJ.out)).mono ?_
 rintro e w1 ⟨rfl, hb, hk⟩
 have on1 := ((FOn.refl H.out).below (Below.drew (Below.refl _ _))).toBx (b := finB (F.bx j) (F.ca i).re) HJ.out (by rw [HR.out]; exact hb) hk
 have k6 : w1.cell? ⟨A.gc, i * 13 + 6, none⟩ = some (.int .i64 lf) := by rw [← HL.out]; exact on1.b.k6 (i := i) HI.out
 have z := on1.b.zc
 have on2 := on1.toCa (i := i) (j := 6) HI.out (by omega) (.int .i64 (lf - 1)) { F.ca i with lf := (F.ca i).lf - 1 } (by rw [HL.out]; rfl) rfl
 have ON2 := Lib.hid on2
 clear on1 on2 hb hk hd c3 c4 b q7 q8 q9 q10 q11 q12
 go_wp2_with fail
 refine (fr_next ON2.out.b (i := i) HI.out).mono ?_
 rintro e w3 ⟨rfl, hs⟩
 have hs2 := ON2.out.and hs
 rw [setCa_ca, setCa_setCa] at hs2
 have HS := Lib.hid hs2
 clear hs hs2 ON2
 go_wp2
 first | refine bodyPost_end (results_none rfl _ _ _) rfl ⟨rfl, ?_⟩ | refine bodyPost_ret (results_none rfl _ _ _) rfl ⟨rfl, ?_⟩
 rw [HT.out]
 exact HS.out
end
end Go.Proofs.YtcffeokbipjaoaaGreat
namespace Go.Proofs.YtcffeokbipjaoaaGreat
open Go Go.RowKit
set_option linter.unusedVariables false
section
variable {P : Program} {ops : Array Oper} {Q : Exit → Act → World → Prop} {md : Region.Mode} {S : World → Prop} {fs bs : List Nat}
theorem anyU_call {i f : Nat} {o : Oper} {l : Array Bool} {a : Act} {D : World → Prop} (g : FuncId) (args : Array Value) (v : Value) (D' : World → Prop) (hr : Region.ready md ops l = [i]) (hb : fs.contains i = true)
   (hi : ops[i]? = some o) (hw : Region.wanted o (yielded ops a.tmps) = true) (hrun : ∀ w, S w → D w → (execOp a.eval o).run P w = .ok (.enter g args) w)
   (hc : ∀ w, S w → D w → Calls P g args w fun e w' => e = .returned v ∧ S w' ∧ D' w') (hst : Still D') (hl : Shut md ops l)
   (h : Shut md ops (l.setIfInBounds i true) → anyU P md ops Q S fs bs f (l.setIfInBounds i true) (a.put o.dst v) D') : anyU P md ops Q S fs bs (f + 1) l a D :=
 anyU_make hr hb fun w hS hD => by
   unfold Go.wpOp
   simp only [hi, hw, if_true]
   refine .inl ?_
   unfold Oper.wp
   rw [hrun w hS hD]
   refine Calls.mono (hc w hS hD) fun e w' he => ?_
   obtain ⟨rfl, h1, h2⟩ := he
   exact ⟨h1, D', hst, h2, h (hl.step (by rw [hr]; exact List.mem_singleton.2 rfl))⟩
theorem anyU_oneS {i f : Nat} {oi : Oper} {v : Value} {l : Array Bool} {a : Act} {D : World → Prop} (hr : Region.ready md ops l = [i]) (hi : ops[i]? = some oi) (hy : YieldsS P ops S oi v a) (hl : Shut md ops l)
   (h : Shut md ops (l.setIfInBounds i true) → anyU P md ops Q S fs bs f (l.setIfInBounds i true) (a.put oi.dst v) D) : anyU P md ops Q S fs bs (f + 1) l a D :=
 anyU_one hr hi hy (h (hl.step (by rw [hr]; exact List.mem_singleton.2 rfl)))
theorem wp_region_UD (S D : World → Prop) (fs bs : List Nat) {id : Nat} {a : Act} {w : World} (hm : P.follows .mixedOrders = true) (hS : S w.drew) (hD : D w.drew) (hst : Still D)
   (h : Shut .any ops (Array.replicate ops.size false) → anyU P .any ops Q S fs bs ops.size (Array.replicate ops.size false) a D) : (Code.region id ops true).wp P Q a w :=
 wp_region_any hm (any_of_U _ _ _ _ (h (Shut.none _ rfl)) hst _ hS hD)
end
end Go.Proofs.YtcffeokbipjaoaaGreat
