/- Texts of this claim, one behind the other: Fnl. -/
import Derived.Test.YtcffeokbipjaoaaGreatMubl
namespace Go.Proofs.YtcffeokbipjaoaaGreat
open Go.ChangeShapes Go.WideShapes Go.RowKit
set_option linter.unusedVariables false
set_option linter.unusedSimpArgs false
section
variable {w w' : World} {f : Nat} {A : FAd} {F : FrS} {B : Nat}
set_option maxRecDepth 100000 in
set_option maxHeartbeats 8000000 in
theorem fr_step (h : FrB w f A F) (hok : FOk F B) (hB : B ≤ 800000) (hl : F.L.length ≤ 100000) {i : Nat} (hi : i < F.N) (hdo : (F.ca i).nx = 6 → DoAt F i) : Calls Tryz.prog 24 #[.pointer (some ⟨f, 0, none⟩), .int .i64 (i : Int)] w fun e w' => e = .returned (.tuple #[(frStep F i).1.v, .bool (frStep F i).2]) ∧ FTo w f A F (fsStep F i) w' := by
 have H := Lib.hid h
 have HI := Lib.hid hi
 have HOK := Lib.hid hok
 have HL := Lib.hid hl
 have HDO := Lib.hid hdo
 obtain ⟨nx, hnx⟩ : ∃ x, (F.ca i).nx = x := ⟨_, rfl⟩
 have hnr := (hok.ca i).nx
 rw [hnx] at hnr
 have hact : nx = 2 ∨ nx = 5 → ∃ a, (F.ca i).ac = some a := fun hh => by
   have := (hok.ca i).act (by rw [hnx]; exact hh)
   cases hc : (F.ca i).ac with
   | none => exact absurd hc this
   | some a => exact ⟨a, rfl⟩
 have HACT := Lib.hid hact
 have HNX := Lib.hid hnx
 have HNR := Lib.hid hnr
 clear h hi hok hl hdo hnx hnr hact
 go_enter Tryz.func24, Tryz.ntmps24
 go_upto_region 1 with fail
 refine wp_worldx (fun wx => FOn w f A F wx A F ∧ Blk wx w.heap.size reT #[.int .u8 0, .int .u64 0, .int .i64 0, .int .i64 0, .int .i64 0]) ⟨(FOn.refl H.out).below ((Below.refl _ _).alloc (Nat.le_refl _) _), Blk.made w _ _⟩ ?_
 obtain ⟨g, hg⟩ : ∃ g, w.heap.size = g := ⟨_, rfl⟩
 rw [hg]
 rintro w1 ⟨on, hb1⟩
 have ON := Lib.hid on
 have HB1 := Lib.hid hb1
 have HG := Lib.hid hg
 clear on hb1 hg
 go_upto_region 2 with (go_at_call 28; refine (fr_where ON.out.b i HI.out).mono ?_; rw [HNX.out]; rintro e w2 ⟨rfl, rfl⟩)
 have hq : nx = 0 ∨ nx = 1 ∨ nx = 2 ∨ nx = 3 ∨ nx = 4 ∨ nx = 5 ∨ nx = 6 ∨ nx = 7 ∨ nx = 8 := by have := HNR.out; omega
 rcases hq with rfl | rfl | rfl | rfl | rfl | rfl | rfl | rfl | rfl
 · have hx : (F.ca i).nx = 0 := HNX.out
   have HX := Lib.hid hx
   clear hx
   have ON4 := ON
   have HB4 := HB1
   have y0 : w1.cell? ⟨g, 0, none⟩ = some (.int .u8 0) := HB4.out.val (i := 0) rfl
   have y1 : w1.cell? ⟨g, 1, none⟩ = some (.int .u64 0) := HB4.out.val (i := 1) rfl
   have y2 : w1.cell? ⟨g, 2, none⟩ = some (.int .i64 0) := HB4.out.val (i := 2) rfl
   have y3 : w1.cell? ⟨g, 3, none⟩ = some (.int .i64 0) := HB4.out.val (i := 3) rfl
   have y4 : w1.cell? ⟨g, 4, none⟩ = some (.int .i64 0) := HB4.out.val (i := 4) rfl
   have yz := HB4.out.free
   go_wp2
   have hbf : Blk (((((w1.setCell ⟨g, 0, none⟩ (.int .u8 0)).setCell ⟨g, 1, none⟩ (.int .u64 0)).setCell ⟨g, 2, none⟩ (.int .i64 0)).setCell ⟨g, 3, none⟩ (.int .i64 0)).setCell ⟨g, 4, none⟩ (.int .i64 0)) g reT #[.int .u8 0, .int .u64 0, .int .i64 0, .int .i64 0, .int .i64 0] := by
     have := (((((HB4.out.set_ 0 (.int .u8 0)).set_ 1 (.int .u64 0)).set_ 2 (.int .i64 0)).set_ 3 (.int .i64 0)).set_ 4 (.int .i64 0))
     simpa using this
   have hk : Kept (fun k => k = g) w1 (((((w1.setCell ⟨g, 0, none⟩ (.int .u8 0)).setCell ⟨g, 1, none⟩ (.int .u64 0)).setCell ⟨g, 2, none⟩ (.int .i64 0)).setCell ⟨g, 3, none⟩ (.int .i64 0)).setCell ⟨g, 4, none⟩ (.int .i64 0)) := by
     repeat (first | with_reducible exact Kept.refl _ _ | refine Kept.set1 ?_ _ _)
   obtain ⟨W, hW⟩ : ∃ W, (((((w1.setCell ⟨g, 0, none⟩ (.int .u8 0)).setCell ⟨g, 1, none⟩ (.int .u64 0)).setCell ⟨g, 2, none⟩ (.int .i64 0)).setCell ⟨g, 3, none⟩ (.int .i64 0)).setCell ⟨g, 4, none⟩ (.int .i64 0)) = W := ⟨_, rfl⟩
   rw [hW] at hbf hk ⊢
   have d0 : W.cell? ⟨g, 0, none⟩ = some (.int .u8 0) := hbf.val (i := 0) rfl
   have d1 : W.cell? ⟨g, 1, none⟩ = some (.int .u64 0) := hbf.val (i := 1) rfl
   have d2 : W.cell? ⟨g, 2, none⟩ = some (.int .i64 0) := hbf.val (i := 2) rfl
   have d3 : W.cell? ⟨g, 3, none⟩ = some (.int .i64 0) := hbf.val (i := 3) rfl
   have d4 : W.cell? ⟨g, 4, none⟩ = some (.int .i64 0) := hbf.val (i := 4) rfl
   refine bodyPost_ret (v := .tuple #[.agg #[.int .u8 0, .int .u64 0, .int .i64 0, .int .i64 0, .int .i64 0], .bool false]) (by simp [results, Tryz.results24, go_sem, d0, d1, d2, d3, d4]) rfl ⟨?_, ?_⟩
   · unfold frStep; rw [if_neg (by rw [HX.out]; decide), if_neg (by rw [HX.out]; decide)]; rfl
   · have hd := (ON4.out.oth HB4.out (by decide) hk (by have := HG.out; omega)).to
     rw [show fsStep F i = F by unfold fsStep; simp [HX.out]]; exact hd
 · have hx : (F.ca i).nx = 1 := HNX.out
   have HX := Lib.hid hx
   clear hx
   go_wp2_with fail
   refine (fr_post ON.out.b (i := i) HI.out HOK.out.N2).mono ?_
   rintro e w4 ⟨rfl, A4, ht⟩
   have ON4 := Lib.hid (ON.out.trans ht)
   have HB4 := Lib.hid (ht.blk ON.out.b HB1.out (by decide))
   clear ht HB1 ON
   have y0 : w4.cell? ⟨g, 0, none⟩ = some (.int .u8 0) := HB4.out.val (i := 0) rfl
   have y1 : w4.cell? ⟨g, 1, none⟩ = some (.int .u64 0) := HB4.out.val (i := 1) rfl
   have y2 : w4.cell? ⟨g, 2, none⟩ = some (.int .i64 0) := HB4.out.val (i := 2) rfl
   have y3 : w4.cell? ⟨g, 3, none⟩ = some (.int .i64 0) := HB4.out.val (i := 3) rfl
   have y4 : w4.cell? ⟨g, 4, none⟩ = some (.int .i64 0) := HB4.out.val (i := 4) rfl
   have yz := HB4.out.free
   go_wp2
   have hbf : Blk (((((w4.setCell ⟨g, 0, none⟩ (.int .u8 0)).setCell ⟨g, 1, none⟩ (.int .u64 0)).setCell ⟨g, 2, none⟩ (.int .i64 0)).setCell ⟨g, 3, none⟩ (.int .i64 0)).setCell ⟨g, 4, none⟩ (.int .i64 0)) g reT #[.int .u8 0, .int .u64 0, .int .i64 0, .int .i64 0, .int .i64 0] := by
     have := (((((HB4.out.set_ 0 (.int .u8 0)).set_ 1 (.int .u64 0)).set_ 2 (.int .i64 0)).set_ 3 (.int .i64 0)).set_ 4 (.int .i64 0))
     simpa using this
   have hk : Kept (fun k => k = g) w4 (((((w4.setCell ⟨g, 0, none⟩ (.int .u8 0)).setCell ⟨g, 1, none⟩ (.int .u64 0)).setCell ⟨g, 2, none⟩ (.int .i64 0)).setCell ⟨g, 3, none⟩ (.int .i64 0)).setCell ⟨g, 4, none⟩ (.int .i64 0)) := by
     repeat (first | with_reducible exact Kept.refl _ _ | refine Kept.set1 ?_ _ _)
   obtain ⟨W, hW⟩ : ∃ W, (((((w4.setCell ⟨g, 0, none⟩ (.int .u8 0)).setCell ⟨g, 1, none⟩ (.int .u64 0)).setCell ⟨g, 2, none⟩ (.int .i64 0)).setCell ⟨g, 3, none⟩ (.int .i64 0)).setCell ⟨g, 4, none⟩ (.int .i64 0)) = W := ⟨_, rfl⟩
   rw [hW] at hbf hk ⊢
   have d0 : W.cell? ⟨g, 0, none⟩ = some (.int .u8 0) := hbf.val (i := 0) rfl
   have d1 : W.cell? ⟨g, 1, none⟩ = some (.int .u64 0) := hbf.val (i := 1) rfl
   have d2 : W.cell? ⟨g, 2, none⟩ = some (.int .i64 0) := hbf.val (i := 2) rfl
   have d3 : W.cell? ⟨g, 3, none⟩ = some (.int .i64 0) := hbf.val (i := 3) rfl
   have d4 : W.cell? ⟨g, 4, none⟩ = some (.int .i64 0) := hbf.val (i := 4) rfl
   refine bodyPost_ret (v := .tuple #[.agg #[.int .u8 0, .int .u64 0, .int .i64 0, .int .i64 0, .int .i64 0], .bool false]) (by simp [results, Tryz.results24, go_sem, d0, d1, d2, d3, d4]) rfl ⟨?_, ?_⟩
   · unfold frStep; rw [if_neg (by rw [HX.out]; decide), if_neg (by rw [HX.out]; decide)]; rfl
   · have hd := (ON4.out.oth HB4.out (by decide) hk (by have := HG.out; omega)).to
     rw [show fsStep F i = fsPost F i by unfold fsStep; simp [HX.out]]; exact hd
 · have hx : (F.ca i).nx = 2 := HNX.out
   have HX := Lib.hid hx
   clear hx
   obtain ⟨a, ha⟩ := HACT.out (by omega)
   have HA := Lib.hid ha
   clear ha
   go_wp2_with fail
   refine (fr_join ON.out.b HOK.out hB (i := i) HI.out HA.out).mono ?_
   rintro e w4 ⟨rfl, A4, ht⟩
   have ON4 := Lib.hid (ON.out.trans ht)
   have HB4 := Lib.hid (ht.blk ON.out.b HB1.out (by decide))
   clear ht HB1 ON
   have hsr : frStep F i = frJoin F i := by unfold frStep; simp [HX.out]
   obtain ⟨⟨⟨ra, rk, rt, rc, rs⟩, rb⟩, hr⟩ : ∃ r, frJoin F i = r := ⟨_, rfl⟩
   rw [hr] at hsr ⊢
   have HSR := Lib.hid hsr
   clear hsr hr
   have y0 : w4.cell? ⟨g, 0, none⟩ = some (.int .u8 0) := HB4.out.val (i := 0) rfl
   have y1 : w4.cell? ⟨g, 1, none⟩ = some (.int .u64 0) := HB4.out.val (i := 1) rfl
   have y2 : w4.cell? ⟨g, 2, none⟩ = some (.int .i64 0) := HB4.out.val (i := 2) rfl
   have y3 : w4.cell? ⟨g, 3, none⟩ = some (.int .i64 0) := HB4.out.val (i := 3) rfl
   have y4 : w4.cell? ⟨g, 4, none⟩ = some (.int .i64 0) := HB4.out.val (i := 4) rfl
   have yz := HB4.out.free
   go_wp2
   have hbf : Blk (((((w4.setCell ⟨g, 0, none⟩ (.int .u8 ra)).setCell ⟨g, 1, none⟩ (.int .u64 rk)).setCell ⟨g, 2, none⟩ (.int .i64 rt)).setCell ⟨g, 3, none⟩ (.int .i64 rc)).setCell ⟨g, 4, none⟩ (.int .i64 rs)) g reT #[.int .u8 ra, .int .u64 rk, .int .i64 rt, .int .i64 rc, .int .i64 rs] := by
     have := (((((HB4.out.set_ 0 (.int .u8 ra)).set_ 1 (.int .u64 rk)).set_ 2 (.int .i64 rt)).set_ 3 (.int .i64 rc)).set_ 4 (.int .i64 rs))
     simpa using this
   have hk : Kept (fun k => k = g) w4 (((((w4.setCell ⟨g, 0, none⟩ (.int .u8 ra)).setCell ⟨g, 1, none⟩ (.int .u64 rk)).setCell ⟨g, 2, none⟩ (.int .i64 rt)).setCell ⟨g, 3, none⟩ (.int .i64 rc)).setCell ⟨g, 4, none⟩ (.int .i64 rs)) := by
     repeat (first | with_reducible exact Kept.refl _ _ | refine Kept.set1 ?_ _ _)
   obtain ⟨W, hW⟩ : ∃ W, (((((w4.setCell ⟨g, 0, none⟩ (.int .u8 ra)).setCell ⟨g, 1, none⟩ (.int .u64 rk)).setCell ⟨g, 2, none⟩ (.int .i64 rt)).setCell ⟨g, 3, none⟩ (.int .i64 rc)).setCell ⟨g, 4, none⟩ (.int .i64 rs)) = W := ⟨_, rfl⟩
   rw [hW] at hbf hk ⊢
   have d0 : W.cell? ⟨g, 0, none⟩ = some (.int .u8 ra) := hbf.val (i := 0) rfl
   have d1 : W.cell? ⟨g, 1, none⟩ = some (.int .u64 rk) := hbf.val (i := 1) rfl
   have d2 : W.cell? ⟨g, 2, none⟩ = some (.int .i64 rt) := hbf.val (i := 2) rfl
   have d3 : W.cell? ⟨g, 3, none⟩ = some (.int .i64 rc) := hbf.val (i := 3) rfl
   have d4 : W.cell? ⟨g, 4, none⟩ = some (.int .i64 rs) := hbf.val (i := 4) rfl
   refine bodyPost_ret (v := .tuple #[.agg #[.int .u8 ra, .int .u64 rk, .int .i64 rt, .int .i64 rc, .int .i64 rs], .bool rb]) (by simp [results, Tryz.results24, go_sem, d0, d1, d2, d3, d4]) rfl ⟨?_, ?_⟩
   · rw [HSR.out]
   · have hd := (ON4.out.oth HB4.out (by decide) hk (by have := HG.out; omega)).to
     rw [show fsStep F i = fsJoin F i by unfold fsStep; simp [HX.out]]; exact hd
 · have hx : (F.ca i).nx = 3 := HNX.out
   have HX := Lib.hid hx
   clear hx
   go_wp2_with fail
   refine (fr_collect ON.out.b (i := i) HI.out).mono ?_
   rintro e w4 ⟨rfl, A4, ht⟩
   have ON4 := Lib.hid (ON.out.trans ht)
   have HB4 := Lib.hid (ht.blk ON.out.b HB1.out (by decide))
   clear ht HB1 ON
   have hsr : frStep F i = frWait F i := by unfold frStep; simp [HX.out]
   obtain ⟨⟨⟨ra, rk, rt, rc, rs⟩, rb⟩, hr⟩ : ∃ r, frWait F i = r := ⟨_, rfl⟩
   rw [hr] at hsr ⊢
   have HSR := Lib.hid hsr
   clear hsr hr
   have y0 : w4.cell? ⟨g, 0, none⟩ = some (.int .u8 0) := HB4.out.val (i := 0) rfl
   have y1 : w4.cell? ⟨g, 1, none⟩ = some (.int .u64 0) := HB4.out.val (i := 1) rfl
   have y2 : w4.cell? ⟨g, 2, none⟩ = some (.int .i64 0) := HB4.out.val (i := 2) rfl
   have y3 : w4.cell? ⟨g, 3, none⟩ = some (.int .i64 0) := HB4.out.val (i := 3) rfl
   have y4 : w4.cell? ⟨g, 4, none⟩ = some (.int .i64 0) := HB4.out.val (i := 4) rfl
   have yz := HB4.out.free
   go_wp2
   have hbf : Blk (((((w4.setCell ⟨g, 0, none⟩ (.int .u8 ra)).setCell ⟨g, 1, none⟩ (.int .u64 rk)).setCell ⟨g, 2, none⟩ (.int .i64 rt)).setCell ⟨g, 3, none⟩ (.int .i64 rc)).setCell ⟨g, 4, none⟩ (.int .i64 rs)) g reT #[.int .u8 ra, .int .u64 rk, .int .i64 rt, .int .i64 rc, .int .i64 rs] := by
     have := (((((HB4.out.set_ 0 (.int .u8 ra)).set_ 1 (.int .u64 rk)).set_ 2 (.int .i64 rt)).set_ 3 (.int .i64 rc)).set_ 4 (.int .i64 rs))
     simpa using this
   have hk : Kept (fun k => k = g) w4 (((((w4.setCell ⟨g, 0, none⟩ (.int .u8 ra)).setCell ⟨g, 1, none⟩ (.int .u64 rk)).setCell ⟨g, 2, none⟩ (.int .i64 rt)).setCell ⟨g, 3, none⟩ (.int .i64 rc)).setCell ⟨g, 4, none⟩ (.int .i64 rs)) := by
     repeat (first | with_reducible exact Kept.refl _ _ | refine Kept.set1 ?_ _ _)
   obtain ⟨W, hW⟩ : ∃ W, (((((w4.setCell ⟨g, 0, none⟩ (.int .u8 ra)).setCell ⟨g, 1, none⟩ (.int .u64 rk)).setCell ⟨g, 2, none⟩ (.int .i64 rt)).setCell ⟨g, 3, none⟩ (.int .i64 rc)).setCell ⟨g, 4, none⟩ (.int .i64 rs)) = W := ⟨_, rfl⟩
   rw [hW] at hbf hk ⊢
   have d0 : W.cell? ⟨g, 0, none⟩ = some (.int .u8 ra) := hbf.val (i := 0) rfl
   have d1 : W.cell? ⟨g, 1, none⟩ = some (.int .u64 rk) := hbf.val (i := 1) rfl
   have d2 : W.cell? ⟨g, 2, none⟩ = some (.int .i64 rt) := hbf.val (i := 2) rfl
   have d3 : W.cell? ⟨g, 3, none⟩ = some (.int .i64 rc) := hbf.val (i := 3) rfl
   have d4 : W.cell? ⟨g, 4, none⟩ = some (.int .i64 rs) := hbf.val (i := 4) rfl
   refine bodyPost_ret (v := .tuple #[.agg #[.int .u8 ra, .int .u64 rk, .int .i64 rt, .int .i64 rc, .int .i64 rs], .bool rb]) (by simp [results, Tryz.results24, go_sem, d0, d1, d2, d3, d4]) rfl ⟨?_, ?_⟩
   · rw [HSR.out]
   · have hd := (ON4.out.oth HB4.out (by decide) hk (by have := HG.out; omega)).to
     rw [show fsStep F i = fsWait F i by unfold fsStep; simp [HX.out]]; exact hd
 · have hx : (F.ca i).nx = 4 := HNX.out
   have HX := Lib.hid hx
   clear hx
   go_wp2_with fail
   refine (fr_try ON.out.b (i := i) HI.out).mono ?_
   rintro e w4 ⟨rfl, A4, ht⟩
   have ON4 := Lib.hid (ON.out.trans ht)
   have HB4 := Lib.hid (ht.blk ON.out.b HB1.out (by decide))
   clear ht HB1 ON
   have y0 : w4.cell? ⟨g, 0, none⟩ = some (.int .u8 0) := HB4.out.val (i := 0) rfl
   have y1 : w4.cell? ⟨g, 1, none⟩ = some (.int .u64 0) := HB4.out.val (i := 1) rfl
   have y2 : w4.cell? ⟨g, 2, none⟩ = some (.int .i64 0) := HB4.out.val (i := 2) rfl
   have y3 : w4.cell? ⟨g, 3, none⟩ = some (.int .i64 0) := HB4.out.val (i := 3) rfl
   have y4 : w4.cell? ⟨g, 4, none⟩ = some (.int .i64 0) := HB4.out.val (i := 4) rfl
   have yz := HB4.out.free
   go_wp2
   have hbf : Blk (((((w4.setCell ⟨g, 0, none⟩ (.int .u8 0)).setCell ⟨g, 1, none⟩ (.int .u64 0)).setCell ⟨g, 2, none⟩ (.int .i64 0)).setCell ⟨g, 3, none⟩ (.int .i64 0)).setCell ⟨g, 4, none⟩ (.int .i64 0)) g reT #[.int .u8 0, .int .u64 0, .int .i64 0, .int .i64 0, .int .i64 0] := by
     have := (((((HB4.out.set_ 0 (.int .u8 0)).set_ 1 (.int .u64 0)).set_ 2 (.int .i64 0)).set_ 3 (.int .i64 0)).set_ 4 (.int .i64 0))
     simpa using this
   have hk : Kept (fun k => k = g) w4 (((((w4.setCell ⟨g, 0, none⟩ (.int .u8 0)).setCell ⟨g, 1, none⟩ (.int .u64 0)).setCell ⟨g, 2, none⟩ (.int .i64 0)).setCell ⟨g, 3, none⟩ (.int .i64 0)).setCell ⟨g, 4, none⟩ (.int .i64 0)) := by
     repeat (first | with_reducible exact Kept.refl _ _ | refine Kept.set1 ?_ _ _)
   obtain ⟨W, hW⟩ : ∃ W, (((((w4.setCell ⟨g, 0, none⟩ (.int .u8 0)).setCell ⟨g, 1, none⟩ (.int .u64 0)).setCell ⟨g, 2, none⟩ (.int .i64 0)).setCell ⟨g, 3, none⟩ (.int .i64 0)).setCell ⟨g, 4, none⟩ (.int .i64 0)) = W := ⟨_, rfl⟩
   rw [hW] at hbf hk ⊢
   have d0 : W.cell? ⟨g, 0, none⟩ = some (.int .u8 0) := hbf.val (i := 0) rfl
   have d1 : W.cell? ⟨g, 1, none⟩ = some (.int .u64 0) := hbf.val (i := 1) rfl
   have d2 : W.cell? ⟨g, 2, none⟩ = some (.int .i64 0) := hbf.val (i := 2) rfl
   have d3 : W.cell? ⟨g, 3, none⟩ = some (.int .i64 0) := hbf.val (i := 3) rfl
   have d4 : W.cell? ⟨g, 4, none⟩ = some (.int .i64 0) := hbf.val (i := 4) rfl
   refine bodyPost_ret (v := .tuple #[.agg #[.int .u8 0, .int .u64 0, .int .i64 0, .int .i64 0, .int .i64 0], .bool false]) (by simp [results, Tryz.results24, go_sem, d0, d1, d2, d3, d4]) rfl ⟨?_, ?_⟩
   · unfold frStep; rw [if_neg (by rw [HX.out]; decide), if_neg (by rw [HX.out]; decide)]; rfl
   · have hd := (ON4.out.oth HB4.out (by decide) hk (by have := HG.out; omega)).to
     rw [show fsStep F i = fsTry F i by unfold fsStep; simp [HX.out]]; exact hd
 · have hx : (F.ca i).nx = 5 := HNX.out
   have HX := Lib.hid hx
   clear hx
   obtain ⟨a, ha⟩ := HACT.out (by omega)
   have HA := Lib.hid ha
   clear ha
   go_wp2_with fail
   refine (fr_take ON.out.b HOK.out hB (i := i) HI.out HA.out).mono ?_
   rintro e w4 ⟨rfl, A4, ht⟩
   have ON4 := Lib.hid (ON.out.trans ht)
   have HB4 := Lib.hid (ht.blk ON.out.b HB1.out (by decide))
   clear ht HB1 ON
   have y0 : w4.cell? ⟨g, 0, none⟩ = some (.int .u8 0) := HB4.out.val (i := 0) rfl
   have y1 : w4.cell? ⟨g, 1, none⟩ = some (.int .u64 0) := HB4.out.val (i := 1) rfl
   have y2 : w4.cell? ⟨g, 2, none⟩ = some (.int .i64 0) := HB4.out.val (i := 2) rfl
   have y3 : w4.cell? ⟨g, 3, none⟩ = some (.int .i64 0) := HB4.out.val (i := 3) rfl
   have y4 : w4.cell? ⟨g, 4, none⟩ = some (.int .i64 0) := HB4.out.val (i := 4) rfl
   have yz := HB4.out.free
   go_wp2
   have hbf : Blk (((((w4.setCell ⟨g, 0, none⟩ (.int .u8 0)).setCell ⟨g, 1, none⟩ (.int .u64 0)).setCell ⟨g, 2, none⟩ (.int .i64 0)).setCell ⟨g, 3, none⟩ (.int .i64 0)).setCell ⟨g, 4, none⟩ (.int .i64 0)) g reT #[.int .u8 0, .int .u64 0, .int .i64 0, .int .i64 0, .int .i64 0] := by
     have := (((((HB4.out.set_ 0 (.int .u8 0)).set_ 1 (.int .u64 0)).set_ 2 (.int .i64 0)).set_ 3 (.int .i64 0)).set_ 4 (.int .i64 0))
     simpa using this
   have hk : Kept (fun k => k = g) w4 (((((w4.setCell ⟨g, 0, none⟩ (.int .u8 0)).setCell ⟨g, 1, none⟩ (.int .u64 0)).setCell ⟨g, 2, none⟩ (.int .i64 0)).setCell ⟨g, 3, none⟩ (.int .i64 0)).setCell ⟨g, 4, none⟩ (.int .i64 0)) := by
     repeat (first | with_reducible exact Kept.refl _ _ | refine Kept.set1 ?_ _ _)
   obtain ⟨W, hW⟩ : ∃ W, (((((w4.setCell ⟨g, 0, none⟩ (.int .u8 0)).setCell ⟨g, 1, none⟩ (.int .u64 0)).setCell ⟨g, 2, none⟩ (.int .i64 0)).setCell ⟨g, 3, none⟩ (.int .i64 0)).setCell ⟨g, 4, none⟩ (.int .i64 0)) = W := ⟨_, rfl⟩
   rw [hW] at hbf hk ⊢
   have d0 : W.cell? ⟨g, 0, none⟩ = some (.int .u8 0) := hbf.val (i := 0) rfl
   have d1 : W.cell? ⟨g, 1, none⟩ = some (.int .u64 0) := hbf.val (i := 1) rfl
   have d2 : W.cell? ⟨g, 2, none⟩ = some (.int .i64 0) := hbf.val (i := 2) rfl
   have d3 : W.cell? ⟨g, 3, none⟩ = some (.int .i64 0) := hbf.val (i := 3) rfl
   have d4 : W.cell? ⟨g, 4, none⟩ = some (.int .i64 0) := hbf.val (i := 4) rfl
   refine bodyPost_ret (v := .tuple #[.agg #[.int .u8 0, .int .u64 0, .int .i64 0, .int .i64 0, .int .i64 0], .bool false]) (by simp [results, Tryz.results24, go_sem, d0, d1, d2, d3, d4]) rfl ⟨?_, ?_⟩
   · unfold frStep; rw [if_neg (by rw [HX.out]; decide), if_neg (by rw [HX.out]; decide)]; rfl
   · have hd := (ON4.out.oth HB4.out (by decide) hk (by have := HG.out; omega)).to
     rw [show fsStep F i = fsTake F i by unfold fsStep; simp [HX.out]]; exact hd
 · have hx : (F.ca i).nx = 6 := HNX.out
   have HX := Lib.hid hx
   clear hx
   go_wp2_with fail
   refine (fr_apply ON.out.b HOK.out HL.out (i := i) HI.out (HDO.out HX.out)).mono ?_
   rintro e w4 ⟨rfl, A4, ht⟩
   have ON4 := Lib.hid (ON.out.trans ht)
   have HB4 := Lib.hid (ht.blk ON.out.b HB1.out (by decide))
   clear ht HB1 ON
   have y0 : w4.cell? ⟨g, 0, none⟩ = some (.int .u8 0) := HB4.out.val (i := 0) rfl
   have y1 : w4.cell? ⟨g, 1, none⟩ = some (.int .u64 0) := HB4.out.val (i := 1) rfl
   have y2 : w4.cell? ⟨g, 2, none⟩ = some (.int .i64 0) := HB4.out.val (i := 2) rfl
   have y3 : w4.cell? ⟨g, 3, none⟩ = some (.int .i64 0) := HB4.out.val (i := 3) rfl
   have y4 : w4.cell? ⟨g, 4, none⟩ = some (.int .i64 0) := HB4.out.val (i := 4) rfl
   have yz := HB4.out.free
   go_wp2
   have hbf : Blk (((((w4.setCell ⟨g, 0, none⟩ (.int .u8 0)).setCell ⟨g, 1, none⟩ (.int .u64 0)).setCell ⟨g, 2, none⟩ (.int .i64 0)).setCell ⟨g, 3, none⟩ (.int .i64 0)).setCell ⟨g, 4, none⟩ (.int .i64 0)) g reT #[.int .u8 0, .int .u64 0, .int .i64 0, .int .i64 0, .int .i64 0] := by
     have := (((((HB4.out.set_ 0 (.int .u8 0)).set_ 1 (.int .u64 0)).set_ 2 (.int .i64 0)).set_ 3 (.int .i64 0)).set_ 4 (.int .i64 0))
     simpa using this
   have hk : Kept (fun k => k = g) w4 (((((w4.setCell ⟨g, 0, none⟩ (.int .u8 0)).setCell ⟨g, 1, none⟩ (.int .u64 0)).setCell ⟨g, 2, none⟩ (.int .i64 0)).setCell ⟨g, 3, none⟩ (.int .i64 0)).setCell ⟨g, 4, none⟩ (.int .i64 0)) := by
     repeat (first | with_reducible exact Kept.refl _ _ | refine Kept.set1 ?_ _ _)
   obtain ⟨W, hW⟩ : ∃ W, (((((w4.setCell ⟨g, 0, none⟩ (.int .u8 0)).setCell ⟨g, 1, none⟩ (.int .u64 0)).setCell ⟨g, 2, none⟩ (.int .i64 0)).setCell ⟨g, 3, none⟩ (.int .i64 0)).setCell ⟨g, 4, none⟩ (.int .i64 0)) = W := ⟨_, rfl⟩
   rw [hW] at hbf hk ⊢
   have d0 : W.cell? ⟨g, 0, none⟩ = some (.int .u8 0) := hbf.val (i := 0) rfl
   have d1 : W.cell? ⟨g, 1, none⟩ = some (.int .u64 0) := hbf.val (i := 1) rfl
   have d2 : W.cell? ⟨g, 2, none⟩ = some (.int .i64 0) := hbf.val (i := 2) rfl
   have d3 : W.cell? ⟨g, 3, none⟩ = some (.int .i64 0) := hbf.val (i := 3) rfl
   have d4 : W.cell? ⟨g, 4, none⟩ = some (.int .i64 0) := hbf.val (i := 4) rfl
   refine bodyPost_ret (v := .tuple #[.agg #[.int .u8 0, .int .u64 0, .int .i64 0, .int .i64 0, .int .i64 0], .bool false]) (by simp [results, Tryz.results24, go_sem, d0, d1, d2, d3, d4]) rfl ⟨?_, ?_⟩
   · unfold frStep; rw [if_neg (by rw [HX.out]; decide), if_neg (by rw [HX.out]; decide)]; rfl
   · have hd := (ON4.out.oth HB4.out (by decide) hk (by have := HG.out; omega)).to
     rw [show fsStep F i = fsApply F i by unfold fsStep; simp [HX.out]]; exact hd
 · have hx : (F.ca i).nx = 7 := HNX.out
   have HX := Lib.hid hx
   clear hx
   go_wp2_with fail
   refine (fr_tell ON.out.b HOK.out (i := i) HI.out HX.out).mono ?_
   rintro e w4 ⟨rfl, A4, ht⟩
   have ON4 := Lib.hid (ON.out.trans ht)
   have HB4 := Lib.hid (ht.blk ON.out.b HB1.out (by decide))
   clear ht HB1 ON
   have y0 : w4.cell? ⟨g, 0, none⟩ = some (.int .u8 0) := HB4.out.val (i := 0) rfl
   have y1 : w4.cell? ⟨g, 1, none⟩ = some (.int .u64 0) := HB4.out.val (i := 1) rfl
   have y2 : w4.cell? ⟨g, 2, none⟩ = some (.int .i64 0) := HB4.out.val (i := 2) rfl
   have y3 : w4.cell? ⟨g, 3, none⟩ = some (.int .i64 0) := HB4.out.val (i := 3) rfl
   have y4 : w4.cell? ⟨g, 4, none⟩ = some (.int .i64 0) := HB4.out.val (i := 4) rfl
   have yz := HB4.out.free
   go_wp2
   have hbf : Blk (((((w4.setCell ⟨g, 0, none⟩ (.int .u8 0)).setCell ⟨g, 1, none⟩ (.int .u64 0)).setCell ⟨g, 2, none⟩ (.int .i64 0)).setCell ⟨g, 3, none⟩ (.int .i64 0)).setCell ⟨g, 4, none⟩ (.int .i64 0)) g reT #[.int .u8 0, .int .u64 0, .int .i64 0, .int .i64 0, .int .i64 0] := by
     have := (((((HB4.out.set_ 0 (.int .u8 0)).set_ 1 (.int .u64 0)).set_ 2 (.int .i64 0)).set_ 3 (.int .i64 0)).set_ 4 (.int .i64 0))
     simpa using this
   have hk : Kept (fun k => k = g) w4 (((((w4.setCell ⟨g, 0, none⟩ (.int .u8 0)).setCell ⟨g, 1, none⟩ (.int .u64 0)).setCell ⟨g, 2, none⟩ (.int .i64 0)).setCell ⟨g, 3, none⟩ (.int .i64 0)).setCell ⟨g, 4, none⟩ (.int .i64 0)) := by
     repeat (first | with_reducible exact Kept.refl _ _ | refine Kept.set1 ?_ _ _)
   obtain ⟨W, hW⟩ : ∃ W, (((((w4.setCell ⟨g, 0, none⟩ (.int .u8 0)).setCell ⟨g, 1, none⟩ (.int .u64 0)).setCell ⟨g, 2, none⟩ (.int .i64 0)).setCell ⟨g, 3, none⟩ (.int .i64 0)).setCell ⟨g, 4, none⟩ (.int .i64 0)) = W := ⟨_, rfl⟩
   rw [hW] at hbf hk ⊢
   have d0 : W.cell? ⟨g, 0, none⟩ = some (.int .u8 0) := hbf.val (i := 0) rfl
   have d1 : W.cell? ⟨g, 1, none⟩ = some (.int .u64 0) := hbf.val (i := 1) rfl
   have d2 : W.cell? ⟨g, 2, none⟩ = some (.int .i64 0) := hbf.val (i := 2) rfl
   have d3 : W.cell? ⟨g, 3, none⟩ = some (.int .i64 0) := hbf.val (i := 3) rfl
   have d4 : W.cell? ⟨g, 4, none⟩ = some (.int .i64 0) := hbf.val (i := 4) rfl
   refine bodyPost_ret (v := .tuple #[.agg #[.int .u8 0, .int .u64 0, .int .i64 0, .int .i64 0, .int .i64 0], .bool false]) (by simp [results, Tryz.results24, go_sem, d0, d1, d2, d3, d4]) rfl ⟨?_, ?_⟩
   · unfold frStep; rw [if_neg (by rw [HX.out]; decide), if_neg (by rw [HX.out]; decide)]; rfl
   · have hd := (ON4.out.oth HB4.out (by decide) hk (by have := HG.out; omega)).to
     rw [show fsStep F i = fsTell F i by unfold fsStep; simp [HX.out]]; exact hd
 · have hx : (F.ca i).nx = 8 := HNX.out
   have HX := Lib.hid hx
   clear hx
   go_wp2_with fail
   refine (fr_free ON.out.b (i := i) HI.out).mono ?_
   rintro e w4 ⟨rfl, A4, ht⟩
   have ON4 := Lib.hid (ON.out.trans ht)
   have HB4 := Lib.hid (ht.blk ON.out.b HB1.out (by decide))
   clear ht HB1 ON
   have y0 : w4.cell? ⟨g, 0, none⟩ = some (.int .u8 0) := HB4.out.val (i := 0) rfl
   have y1 : w4.cell? ⟨g, 1, none⟩ = some (.int .u64 0) := HB4.out.val (i := 1) rfl
   have y2 : w4.cell? ⟨g, 2, none⟩ = some (.int .i64 0) := HB4.out.val (i := 2) rfl
   have y3 : w4.cell? ⟨g, 3, none⟩ = some (.int .i64 0) := HB4.out.val (i := 3) rfl
   have y4 : w4.cell? ⟨g, 4, none⟩ = some (.int .i64 0) := HB4.out.val (i := 4) rfl
   have yz := HB4.out.free
   go_wp2
   have hbf : Blk (((((w4.setCell ⟨g, 0, none⟩ (.int .u8 0)).setCell ⟨g, 1, none⟩ (.int .u64 0)).setCell ⟨g, 2, none⟩ (.int .i64 0)).setCell ⟨g, 3, none⟩ (.int .i64 0)).setCell ⟨g, 4, none⟩ (.int .i64 0)) g reT #[.int .u8 0, .int .u64 0, .int .i64 0, .int .i64 0, .int .i64 0] := by
     have := (((((HB4.out.set_ 0 (.int .u8 0)).set_ 1 (.int .u64 0)).set_ 2 (.int .i64 0)).set_ 3 (.int .i64 0)).set_ 4 (.int .i64 0))
     simpa using this
   have hk : Kept (fun k => k = g) w4 (((((w4.setCell ⟨g, 0, none⟩ (.int .u8 0)).setCell ⟨g, 1, none⟩ (.int .u64 0)).setCell ⟨g, 2, none⟩ (.int .i64 0)).setCell ⟨g, 3, none⟩ (.int .i64 0)).setCell ⟨g, 4, none⟩ (.int .i64 0)) := by
     repeat (first | with_reducible exact Kept.refl _ _ | refine Kept.set1 ?_ _ _)
   obtain ⟨W, hW⟩ : ∃ W, (((((w4.setCell ⟨g, 0, none⟩ (.int .u8 0)).setCell ⟨g, 1, none⟩ (.int .u64 0)).setCell ⟨g, 2, none⟩ (.int .i64 0)).setCell ⟨g, 3, none⟩ (.int .i64 0)).setCell ⟨g, 4, none⟩ (.int .i64 0)) = W := ⟨_, rfl⟩
   rw [hW] at hbf hk ⊢
   have d0 : W.cell? ⟨g, 0, none⟩ = some (.int .u8 0) := hbf.val (i := 0) rfl
   have d1 : W.cell? ⟨g, 1, none⟩ = some (.int .u64 0) := hbf.val (i := 1) rfl
   have d2 : W.cell? ⟨g, 2, none⟩ = some (.int .i64 0) := hbf.val (i := 2) rfl
   have d3 : W.cell? ⟨g, 3, none⟩ = some (.int .i64 0) := hbf.val (i := 3) rfl
   have d4 : W.cell? ⟨g, 4, none⟩ = some (.int .i64 0) := hbf.val (i := 4) rfl
   refine bodyPost_ret (v := .tuple #[.agg #[.int .u8 0, .int .u64 0, .int .i64 0, .int .i64 0, .int .i64 0], .bool false]) (by simp [results, Tryz.results24, go_sem, d0, d1, d2, d3, d4]) rfl ⟨?_, ?_⟩
   · unfold frStep; rw [if_neg (by rw [HX.out]; decide), if_neg (by rw [HX.out]; decide)]; rfl
   · have hd := (ON4.out.oth HB4.out (by decide) hk (by have := HG.out; omega)).to
     rw [show fsStep F i = fsFree F i by unfold fsStep; simp [HX.out]]; exact hd
set_option maxRecDepth 100000 in
set_option maxHeartbeats 8000000 in
theorem fr_stepn (h : FrB w f A F) (i : Int) (hi : ¬ (0 ≤ i ∧ i < F.N)) : Calls Tryz.prog 24 #[.pointer (some ⟨f, 0, none⟩), .int .i64 i] w fun e w' => e = .returned (.tuple #[re0.v, .bool false]) ∧ FTo w f A F F w' := by
 have H := Lib.hid h
 have HI := Lib.hid hi
 clear h hi
 go_enter Tryz.func24, Tryz.ntmps24
 go_upto_region 1 with fail
 refine wp_worldx (fun wx => FOn w f A F wx A F ∧ Blk wx w.heap.size reT #[.int .u8 0, .int .u64 0, .int .i64 0, .int .i64 0, .int .i64 0]) ⟨(FOn.refl H.out).below ((Below.refl _ _).alloc (Nat.le_refl _) _), Blk.made w _ _⟩ ?_
 obtain ⟨g, hg⟩ : ∃ g, w.heap.size = g := ⟨_, rfl⟩
 rw [hg]
 rintro w1 ⟨on, hb1⟩
 have ON4 := Lib.hid on
 have HB4 := Lib.hid hb1
 have HG := Lib.hid hg
 clear on hb1 hg
 go_upto_region 2 with (go_at_call 28; refine (fr_wheren ON4.out.b i HI.out).mono ?_; rintro e w2 ⟨rfl, rfl⟩)
 have y0 : w1.cell? ⟨g, 0, none⟩ = some (.int .u8 0) := HB4.out.val (i := 0) rfl
 have y1 : w1.cell? ⟨g, 1, none⟩ = some (.int .u64 0) := HB4.out.val (i := 1) rfl
 have y2 : w1.cell? ⟨g, 2, none⟩ = some (.int .i64 0) := HB4.out.val (i := 2) rfl
 have y3 : w1.cell? ⟨g, 3, none⟩ = some (.int .i64 0) := HB4.out.val (i := 3) rfl
 have y4 : w1.cell? ⟨g, 4, none⟩ = some (.int .i64 0) := HB4.out.val (i := 4) rfl
 have yz := HB4.out.free
 go_wp2
 have hbf : Blk (((((w1.setCell ⟨g, 0, none⟩ (.int .u8 0)).setCell ⟨g, 1, none⟩ (.int .u64 0)).setCell ⟨g, 2, none⟩ (.int .i64 0)).setCell ⟨g, 3, none⟩ (.int .i64 0)).setCell ⟨g, 4, none⟩ (.int .i64 0)) g reT #[.int .u8 0, .int .u64 0, .int .i64 0, .int .i64 0, .int .i64 0] := by
   have := (((((HB4.out.set_ 0 (.int .u8 0)).set_ 1 (.int .u64 0)).set_ 2 (.int .i64 0)).set_ 3 (.int .i64 0)).set_ 4 (.int .i64 0))
   simpa using this
 have hk : Kept (fun k => k = g) w1 (((((w1.setCell ⟨g, 0, none⟩ (.int .u8 0)).setCell ⟨g, 1, none⟩ (.int .u64 0)).setCell ⟨g, 2, none⟩ (.int .i64 0)).setCell ⟨g, 3, none⟩ (.int .i64 0)).setCell ⟨g, 4, none⟩ (.int .i64 0)) := by
   repeat (first | with_reducible exact Kept.refl _ _ | refine Kept.set1 ?_ _ _)
 obtain ⟨W, hW⟩ : ∃ W, (((((w1.setCell ⟨g, 0, none⟩ (.int .u8 0)).setCell ⟨g, 1, none⟩ (.int .u64 0)).setCell ⟨g, 2, none⟩ (.int .i64 0)).setCell ⟨g, 3, none⟩ (.int .i64 0)).setCell ⟨g, 4, none⟩ (.int .i64 0)) = W := ⟨_, rfl⟩
 rw [hW] at hbf hk ⊢
 have d0 : W.cell? ⟨g, 0, none⟩ = some (.int .u8 0) := hbf.val (i := 0) rfl
 have d1 : W.cell? ⟨g, 1, none⟩ = some (.int .u64 0) := hbf.val (i := 1) rfl
 have d2 : W.cell? ⟨g, 2, none⟩ = some (.int .i64 0) := hbf.val (i := 2) rfl
 have d3 : W.cell? ⟨g, 3, none⟩ = some (.int .i64 0) := hbf.val (i := 3) rfl
 have d4 : W.cell? ⟨g, 4, none⟩ = some (.int .i64 0) := hbf.val (i := 4) rfl
 refine bodyPost_ret (v := .tuple #[.agg #[.int .u8 0, .int .u64 0, .int .i64 0, .int .i64 0, .int .i64 0], .bool false]) (by simp [results, Tryz.results24, go_sem, d0, d1, d2, d3, d4]) rfl ⟨?_, ?_⟩
 · rfl
 · have hd := (ON4.out.oth HB4.out (by decide) hk (by have := HG.out; omega)).to
   exact hd
set_option maxRecDepth 100000 in
set_option maxHeartbeats 8000000 in
theorem frn_step (i : Int) (w : World) : Calls Tryz.prog 24 #[.pointer none, .int .i64 i] w fun e w' => e = .returned (.tuple #[re0.v, .bool false]) ∧ Below w.heap.size w w' := by
 go_enter Tryz.func24, Tryz.ntmps24
 go_upto_region 1 with fail
 refine wp_worldx (fun wx => Below w.heap.size w wx ∧ Blk wx w.heap.size reT #[.int .u8 0, .int .u64 0, .int .i64 0, .int .i64 0, .int .i64 0]) ⟨(Below.refl _ _).alloc (Nat.le_refl _) _, Blk.made w _ _⟩ ?_
 obtain ⟨g, hg⟩ : ∃ g, w.heap.size = g := ⟨_, rfl⟩
 rw [hg]
 rintro w1 ⟨hbw, hb1⟩
 have HBW := Lib.hid (show Below w.heap.size w w1 from by rw [hg]; exact hbw)
 have HB4 := Lib.hid hb1
 have HG := Lib.hid hg
 clear hbw hb1
 go_upto_region 2 with (go_at_call 28; refine (frn_where i _).mono ?_; rintro e w2 ⟨rfl, rfl⟩)
 have y0 : w1.cell? ⟨g, 0, none⟩ = some (.int .u8 0) := HB4.out.val (i := 0) rfl
 have y1 : w1.cell? ⟨g, 1, none⟩ = some (.int .u64 0) := HB4.out.val (i := 1) rfl
 have y2 : w1.cell? ⟨g, 2, none⟩ = some (.int .i64 0) := HB4.out.val (i := 2) rfl
 have y3 : w1.cell? ⟨g, 3, none⟩ = some (.int .i64 0) := HB4.out.val (i := 3) rfl
 have y4 : w1.cell? ⟨g, 4, none⟩ = some (.int .i64 0) := HB4.out.val (i := 4) rfl
 have yz := HB4.out.free
 go_wp2
 have hbf : Blk (((((w1.setCell ⟨g, 0, none⟩ (.int .u8 0)).setCell ⟨g, 1, none⟩ (.int .u64 0)).setCell ⟨g, 2, none⟩ (.int .i64 0)).setCell ⟨g, 3, none⟩ (.int .i64 0)).setCell ⟨g, 4, none⟩ (.int .i64 0)) g reT #[.int .u8 0, .int .u64 0, .int .i64 0, .int .i64 0, .int .i64 0] := by
   have := (((((HB4.out.set_ 0 (.int .u8 0)).set_ 1 (.int .u64 0)).set_ 2 (.int .i64 0)).set_ 3 (.int .i64 0)).set_ 4 (.int .i64 0))
   simpa using this
 have hk : Kept (fun k => k = g) w1 (((((w1.setCell ⟨g, 0, none⟩ (.int .u8 0)).setCell ⟨g, 1, none⟩ (.int .u64 0)).setCell ⟨g, 2, none⟩ (.int .i64 0)).setCell ⟨g, 3, none⟩ (.int .i64 0)).setCell ⟨g, 4, none⟩ (.int .i64 0)) := by
   repeat (first | with_reducible exact Kept.refl _ _ | refine Kept.set1 ?_ _ _)
 obtain ⟨W, hW⟩ : ∃ W, (((((w1.setCell ⟨g, 0, none⟩ (.int .u8 0)).setCell ⟨g, 1, none⟩ (.int .u64 0)).setCell ⟨g, 2, none⟩ (.int .i64 0)).setCell ⟨g, 3, none⟩ (.int .i64 0)).setCell ⟨g, 4, none⟩ (.int .i64 0)) = W := ⟨_, rfl⟩
 rw [hW] at hbf hk ⊢
 have d0 : W.cell? ⟨g, 0, none⟩ = some (.int .u8 0) := hbf.val (i := 0) rfl
 have d1 : W.cell? ⟨g, 1, none⟩ = some (.int .u64 0) := hbf.val (i := 1) rfl
 have d2 : W.cell? ⟨g, 2, none⟩ = some (.int .i64 0) := hbf.val (i := 2) rfl
 have d3 : W.cell? ⟨g, 3, none⟩ = some (.int .i64 0) := hbf.val (i := 3) rfl
 have d4 : W.cell? ⟨g, 4, none⟩ = some (.int .i64 0) := hbf.val (i := 4) rfl
 refine bodyPost_ret (v := .tuple #[.agg #[.int .u8 0, .int .u64 0, .int .i64 0, .int .i64 0, .int .i64 0], .bool false]) (by simp [results, Tryz.results24, go_sem, d0, d1, d2, d3, d4]) rfl ⟨?_, ?_⟩
 · rfl
 · exact HBW.out.trans (hk.below (fun k hk' => by have h2 : k = g := hk'; omega) HBW.out.size)
end
end Go.Proofs.YtcffeokbipjaoaaGreat
