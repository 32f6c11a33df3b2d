/- Texts of this claim, one behind the other: Fno Fnp Cra Crc. -/
import Derived.ScopeJumps
import Derived.WalkMore
import Derived.Test.YtcffeokbipjaoaaGreatMuae
import Derived.Test.YtcffeokbipjaoaaGreatMuaq
import Derived.Test.YtcffeokbipjaoaaGreatMubd
import Derived.Test.YtcffeokbipjaoaaGreatMubh
import Derived.Test.YtcffeokbipjaoaaGreatMubm
namespace Go.Proofs.YtcffeokbipjaoaaGreat
open Go.ChangeShapes Go.WideShapes Go.RowKit Go.Deep
set_option linter.unusedVariables false
set_option linter.unusedSimpArgs false
def ap0 : ApV := ⟨0, 0, op0, re0⟩
instance : Inhabited ApV := ⟨ap0⟩
section
variable {w w' : World} {f : Nat} {A : FAd} {F : FrS} {B : Nat}
set_option maxRecDepth 100000 in
theorem frn_applied (w : World) : Calls Tryz.prog 32 #[.pointer none] w fun e w' => e = .returned (.slice none 0 0) ∧ w = w' := by
 go_enter Tryz.func32, Tryz.ntmps32
 go_wp2
 go_ret
 exact ⟨rfl, rfl⟩
def fnBegin (o : OpV) : CaV := ⟨1, o, none, 0, 0, re0⟩
set_option maxRecDepth 100000 in
set_option maxHeartbeats 4000000 in
theorem fr_begin (h : FrB w f A F) {i : Nat} (hi : i < F.N) (hx : (F.ca i).nx = 0) (o : OpV) : Calls Tryz.prog 26 #[.pointer (some ⟨f, 0, none⟩), .int .i64 (i : Int), o.v] w fun e w' => e = .returned (.int .i64 0) ∧ FTo w f A F (F.setCa i (fnBegin o)) w' := by
 obtain ⟨ok, ot, oc, on⟩ := o
 have i1 : (0 : Int) ≤ (i : Int) := by omega
 have i2 : (i : Int) < (F.N : Int) := by omega
 have H := Lib.hid h
 have HI := Lib.hid hi
 have HX := Lib.hid hx
 clear h hi hx
 go_enter Tryz.func26, Tryz.ntmps26
 go_upto_region 1 with fail
 refine wp_worldx (fun wx => FOn w f A F wx A F ∧ Blk wx w.heap.size opfT #[.int .u8 ok, .int .i64 ot, .int .i64 oc, .int .i64 on]) ⟨(FOn.refl H.out).below ((Below.refl _ _).alloc (Nat.le_refl _) _), Blk.made w _ _⟩ ?_
 obtain ⟨g, hg⟩ : ∃ g, w.heap.size = g := ⟨_, rfl⟩
 rw [hg]
 rintro w1 ⟨on1, hb1⟩
 have ON := Lib.hid on1
 have HB1 := Lib.hid hb1
 clear on1 hb1 hg
 go_upto_region 7 with (first | (go_at_call 70; refine (fr_has ON.out.b i HI.out).mono ?_; rintro e w2 ⟨rfl, rfl⟩) | (go_at_call 28; refine (fr_where ON.out.b i HI.out).mono ?_; rw [HX.out]; rintro e w2 ⟨rfl, rfl⟩))
 have c4 := ON.out.b.c4
 have o0 : w1.cell? ⟨g, 0, none⟩ = some (.int .u8 ok) := HB1.out.val (i := 0) rfl
 have o1 : w1.cell? ⟨g, 1, none⟩ = some (.int .i64 ot) := HB1.out.val (i := 1) rfl
 have o2 : w1.cell? ⟨g, 2, none⟩ = some (.int .i64 oc) := HB1.out.val (i := 2) rfl
 have o3 : w1.cell? ⟨g, 3, none⟩ = some (.int .i64 on) := HB1.out.val (i := 3) rfl
 go_still_tail 8, (by kernel_rfl)
 clear c4 o0 o1 o2 o3
 have onD := ON.out.below (Below.drew (Below.refl _ w1))
 change wpList _ _ _ _ _ w1.drew
 obtain ⟨w3, hw3⟩ : ∃ W, w1.drew = W := ⟨_, rfl⟩
 rw [hw3] at onD ⊢
 have hb3 : Blk w3 g opfT #[.int .u8 ok, .int .i64 ot, .int .i64 oc, .int .i64 on] := by rw [← hw3]; exact HB1.out.drew_
 have q0 : w3.cell? ⟨A.gc, i * 13, none⟩ = some (.int .i64 (F.ca i).nx) := onD.b.kc (j := 0) HI.out (by omega) rfl
 have q1 : w3.cell? ⟨A.gc, i * 13 + 1, none⟩ = some (.int .u8 (F.ca i).op.k) := onD.b.kc (j := 1) HI.out (by omega) rfl
 have q2 : w3.cell? ⟨A.gc, i * 13 + 2, none⟩ = some (.int .i64 (F.ca i).op.t) := onD.b.kc (j := 2) HI.out (by omega) rfl
 have q3 : w3.cell? ⟨A.gc, i * 13 + 3, none⟩ = some (.int .i64 (F.ca i).op.c) := onD.b.kc (j := 3) HI.out (by omega) rfl
 have q4 : w3.cell? ⟨A.gc, i * 13 + 4, none⟩ = some (.int .i64 (F.ca i).op.n) := onD.b.kc (j := 4) HI.out (by omega) rfl
 have q5 : w3.cell? ⟨A.gc, i * 13 + 5, none⟩ = some (ptrV (F.ca i) (A.aa i)) := onD.b.kc (j := 5) HI.out (by omega) rfl
 have q6 : w3.cell? ⟨A.gc, i * 13 + 6, none⟩ = some (.int .i64 (F.ca i).lf) := onD.b.kc (j := 6) HI.out (by omega) rfl
 have q7 : w3.cell? ⟨A.gc, i * 13 + 7, none⟩ = some (.int .i64 (F.ca i).sv) := onD.b.kc (j := 7) HI.out (by omega) rfl
 have q8 : w3.cell? ⟨A.gc, i * 13 + 8, none⟩ = some (.int .u8 (F.ca i).re.a) := onD.b.kc (j := 8) HI.out (by omega) rfl
 have q9 : w3.cell? ⟨A.gc, i * 13 + 9, none⟩ = some (.int .u64 (F.ca i).re.k) := onD.b.kc (j := 9) HI.out (by omega) rfl
 have q10 : w3.cell? ⟨A.gc, i * 13 + 10, none⟩ = some (.int .i64 (F.ca i).re.t) := onD.b.kc (j := 10) HI.out (by omega) rfl
 have q11 : w3.cell? ⟨A.gc, i * 13 + 11, none⟩ = some (.int .i64 (F.ca i).re.c) := onD.b.kc (j := 11) HI.out (by omega) rfl
 have q12 : w3.cell? ⟨A.gc, i * 13 + 12, none⟩ = some (.int .i64 (F.ca i).re.s) := onD.b.kc (j := 12) HI.out (by omega) rfl
 have z := onD.b.zc
 have OND := Lib.hid onD
 clear onD hb3 hw3 ON HB1
 go_wp2
 go_ret
 have hrow := OND.out.b.toRow HI.out (fnBegin ⟨ok, ot, oc, on⟩) rfl
 have hk : Kept (fun k => k = A.gc) w3 (((((((((((((w3.setCell ⟨A.gc, i * 13, none⟩ (.int .i64 1)).setCell ⟨A.gc, i * 13 + 1, none⟩ (.int .u8 ok)).setCell ⟨A.gc, i * 13 + 2, none⟩ (.int .i64 ot)).setCell ⟨A.gc, i * 13 + 3, none⟩ (.int .i64 oc)).setCell ⟨A.gc, i * 13 + 4, none⟩ (.int .i64 on)).setCell ⟨A.gc, i * 13 + 5, none⟩ (.pointer none)).setCell ⟨A.gc, i * 13 + 6, none⟩ (.int .i64 0)).setCell ⟨A.gc, i * 13 + 7, none⟩ (.int .i64 0)).setCell ⟨A.gc, i * 13 + 8, none⟩ (.int .u8 0)).setCell ⟨A.gc, i * 13 + 9, none⟩ (.int .u64 0)).setCell ⟨A.gc, i * 13 + 10, none⟩ (.int .i64 0)).setCell ⟨A.gc, i * 13 + 11, none⟩ (.int .i64 0)).setCell ⟨A.gc, i * 13 + 12, none⟩ (.int .i64 0)) := by
   repeat (first | with_reducible exact Kept.refl _ _ | refine Kept.set1 ?_ _ _)
 exact ⟨rfl, (OND.out.toRow HI.out (fnBegin ⟨ok, ot, oc, on⟩) rfl hrow hk).to⟩
set_option maxRecDepth 100000 in
theorem fr_beginb (h : FrB w f A F) {i : Nat} (hi : i < F.N) (hx : (F.ca i).nx ≠ 0) (o : OpV) : Calls Tryz.prog 26 #[.pointer (some ⟨f, 0, none⟩), .int .i64 (i : Int), o.v] w fun e w' => e = .returned (.int .i64 10) ∧ Below w.heap.size w w' := by
 obtain ⟨ok, ot, oc, on⟩ := o
 obtain ⟨x, hx'⟩ : ∃ x, (F.ca i).nx = x := ⟨_, rfl⟩
 rw [hx'] at hx
 have H := Lib.hid (h.below (w' := w.alloc (.cells #[.int .u8 ok, .int .i64 ot, .int .i64 oc, .int .i64 on] opfT)) ((Below.refl _ _).alloc (Nat.le_refl _) _))
 have HI := Lib.hid hi
 have HX := Lib.hid hx'
 clear h hi hx'
 go_enter Tryz.func26, Tryz.ntmps26
 go_wp2_with (first | (go_at_call 70; refine (fr_has H.out i HI.out).mono ?_; rintro e w2 ⟨rfl, rfl⟩) | (go_at_call 28; refine (fr_where H.out i HI.out).mono ?_; rw [HX.out]; rintro e w2 ⟨rfl, rfl⟩))
 go_ret
 exact ⟨rfl, (Below.refl _ _).alloc (Nat.le_refl _) _⟩
set_option maxRecDepth 100000 in
theorem fr_beginn (h : FrB w f A F) (i : Int) (hi : ¬ (0 ≤ i ∧ i < F.N)) (o : OpV) : Calls Tryz.prog 26 #[.pointer (some ⟨f, 0, none⟩), .int .i64 i, o.v] w fun e w' => e = .returned (.int .i64 1) ∧ Below w.heap.size w w' := by
 obtain ⟨ok, ot, oc, on⟩ := o
 have H := Lib.hid (h.below (w' := w.alloc (.cells #[.int .u8 ok, .int .i64 ot, .int .i64 oc, .int .i64 on] opfT)) ((Below.refl _ _).alloc (Nat.le_refl _) _))
 have HI := Lib.hid hi
 clear h hi
 go_enter Tryz.func26, Tryz.ntmps26
 go_wp2_with (go_at_call 70; refine (fr_hasn H.out i HI.out).mono ?_; rintro e w2 ⟨rfl, rfl⟩)
 go_ret
 exact ⟨rfl, (Below.refl _ _).alloc (Nat.le_refl _) _⟩
set_option maxRecDepth 100000 in
theorem frn_begin (i : Int) (o : OpV) (w : World) : Calls Tryz.prog 26 #[.pointer none, .int .i64 i, o.v] w fun e w' => e = .returned (.int .i64 3) ∧ Below w.heap.size w w' := by
 obtain ⟨ok, ot, oc, on⟩ := o
 go_enter Tryz.func26, Tryz.ntmps26
 go_wp2_with fail
 go_ret
 exact ⟨rfl, (Below.refl _ _).alloc (Nat.le_refl _) _⟩
end
end Go.Proofs.YtcffeokbipjaoaaGreat
namespace Go.Proofs.YtcffeokbipjaoaaGreat
open Go.ChangeShapes Go.WideShapes Go.RowKit Go.Deep Kn
set_option linter.unusedVariables false
set_option linter.unusedSimpArgs false
def tickE (c d : Int) : Int := if d < 0 then c else sat (c + d)
section
variable {w w' : World} {f : Nat} {A : FAd} {F : FrS} {B : Nat}
theorem FOn.toClk {w0 : World} {A0 : FAd} {F0 : FrS} (h : FOn w0 f A0 F0 w A F) (x : Int) : FOn w0 f A0 F0 (w.setCell ⟨f, 5, none⟩ (.int .i64 x)) A { F with clk := x } :=
 ⟨h.b.toClk x, h.keep (own := fun k => k = f) (kset1 _ _ _ _) (fun k e => e ▸ fOwn.f_ ..), h.o⟩
set_option maxRecDepth 100000 in
set_option maxHeartbeats 4000000 in
theorem fr_tick (h : FrB w f A F) (d : Int) (hd : I64_ d) (hc : I64_ F.clk) : Calls Tryz.prog 23 #[.pointer (some ⟨f, 0, none⟩), .int .i64 d] w fun e w' => e = .returned (.tuple #[]) ∧ FTo w f A F { F with clk := tickE F.clk d } w' := by
 have H := Lib.hid h
 by_cases hn : d < 0
 · have HN := Lib.hid hn
   have hb : decide (d < 0) = true := decide_eq_true hn
   clear h hd hc
   go_enter Tryz.func23, Tryz.ntmps23
   go_wp2_with fail
   refine wp_scope_jumps 0 (fun _ _ => False) (fun _ _ => 0) rfl ?_ ?_
   · go_wp2_with fail
     show bodyPost Tryz.prog Tryz.f23 (fun e w' => e = Ending.returned (.tuple #[]) ∧ FTo w f A F { F with clk := tickE F.clk d } w') Exit.ret _ _
     refine bodyPost_ret (results_none rfl _ _ _) rfl ⟨rfl, ?_⟩
     have e : ({ F with clk := tickE F.clk d } : FrS) = F := by unfold tickE; rw [if_pos HN.out]
     rw [e]
     exact (FOn.refl H.out).to
   · rintro a' w' hf
     exact hf.elim
 · have HN := Lib.hid hn
   have c5 := h.c5
   have z5 := h.zf 5
   obtain ⟨c, hck⟩ : ∃ c, F.clk = c := ⟨_, rfl⟩
   rw [hck] at c5 hc
   obtain ⟨s, hs⟩ : ∃ s, sat (c + d) = s := ⟨_, rfl⟩
   have hadd : ∀ W, Calls Tryz.prog 55 #[.int .i64 c, .int .i64 d] W fun e w' => e = .returned (.int .i64 s) ∧ W = w' := fun W => by
     rw [← hs]
     exact fadd_any c d W hc.1 hc.2 hd.1 hd.2
   have HADD := Lib.hid hadd
   have HCK := Lib.hid hck
   have HE := Lib.hid (show ({ F with clk := tickE F.clk d } : FrS) = { F with clk := s } from by unfold tickE; rw [if_neg hn, hck, hs])
   clear h hd hc hck hs hadd
   go_enter Tryz.func23, Tryz.ntmps23
   go_wp2_with fail
   refine wp_scope_jumps 0 (fun _ _ => False) (fun _ _ => 0) rfl ?_ ?_
   · go_wp2_with fail
     go_step3
     go_upto_region 2 with (go_at_call 53; refine (aload64 _ _ _ _ c5).mono ?_; rintro e w1 ⟨rfl, rfl⟩)
     refine wp_region_noPanic ?_
     refine wp_region_UD (fun w' => True) (fun w' => FOn w f A F w' A F) [7] [] (by kernel_rfl) (trivial) ((FOn.refl H.out).below (Below.drew (Below.refl _ _))) (fun x y hx hy => hx.below hy) ?_
     intro hsh0
     refine anyU_tk 60 (i := 0) (v := ?_) rfl (fun _ _ _ h => h) (YieldsS.of_if (Or.inl ⟨by rfl, ?_⟩)) ?_
     rotate_left
     · (intro wS hSw; (try dsimp only at hSw); (first | (go_simp; done) | (go_simp; with_reducible rfl)))
     intro hsh1
     clear hsh0
     try simp only [Act.put, List.getElem_toArray, List.getElem_cons_zero, List.getElem_cons_succ, List.setIfInBounds_toArray, List.set_cons_zero, List.set_cons_succ]
     refine anyU_tk 60 (i := 1) (v := ?_) rfl (fun _ _ _ h => h) (YieldsS.of_if (Or.inl ⟨by rfl, ?_⟩)) ?_
     rotate_left
     · (intro wS hSw; (try dsimp only at hSw); (first | (go_simp; done) | (go_simp; with_reducible rfl)))
     intro hsh2
     clear hsh1
     try simp only [Act.put, List.getElem_toArray, List.getElem_cons_zero, List.getElem_cons_succ, List.setIfInBounds_toArray, List.set_cons_zero, List.set_cons_succ]
     refine anyU_tk 60 (i := 2) (v := ?_) rfl (fun _ _ _ h => h) (YieldsS.of_if (Or.inl ⟨by rfl, ?_⟩)) ?_
     rotate_left
     · (intro wS hSw; (try dsimp only at hSw); (first | (go_simp; done) | (go_simp; with_reducible rfl)))
     intro hsh3
     clear hsh2
     try simp only [Act.put, List.getElem_toArray, List.getElem_cons_zero, List.getElem_cons_succ, List.setIfInBounds_toArray, List.set_cons_zero, List.set_cons_succ]
     refine anyU_tk 60 (i := 3) (v := ?_) rfl (fun _ _ _ h => h) (YieldsS.of_if (Or.inl ⟨by rfl, ?_⟩)) ?_
     rotate_left
     · (intro wS hSw; (try dsimp only at hSw); (first | (go_simp; done) | (go_simp; with_reducible rfl)))
     intro hsh4
     clear hsh3
     try simp only [Act.put, List.getElem_toArray, List.getElem_cons_zero, List.getElem_cons_succ, List.setIfInBounds_toArray, List.set_cons_zero, List.set_cons_succ]
     refine anyU_tk 60 (i := 4) (v := ?_) rfl (fun _ _ _ h => h) (YieldsS.of_if (Or.inl ⟨by rfl, ?_⟩)) ?_
     rotate_left
     · (intro wS hSw; (try dsimp only at hSw); (first | (go_simp; done) | (go_simp; with_reducible rfl)))
     intro hsh5
     clear hsh4
     try simp only [Act.put, List.getElem_toArray, List.getElem_cons_zero, List.getElem_cons_succ, List.setIfInBounds_toArray, List.set_cons_zero, List.set_cons_succ]
     refine anyU_tk 60 (i := 5) (v := ?_) rfl (fun _ _ _ h => h) (YieldsS.of_if (Or.inl ⟨by rfl, ?_⟩)) ?_
     rotate_left
     · (intro wS hSw; (try dsimp only at hSw); (first | (go_simp; done) | (go_simp; with_reducible rfl)))
     intro hsh6
     clear hsh5
     try simp only [Act.put, List.getElem_toArray, List.getElem_cons_zero, List.getElem_cons_succ, List.setIfInBounds_toArray, List.set_cons_zero, List.set_cons_succ]
     refine anyU_tk 60 (i := 6) (v := .int .i64 s) rfl (fun _ _ _ h => h) (YieldsS.of_call (by rfl) (f := 55) (args := #[.int .i64 c, .int .i64 d]) (fun wS hSw => by first | rfl | (go_simp; done)) (fun wS hSw => ?_)) ?_
     · (refine (HADD.out _).mono ?_; rintro e wn ⟨rfl, rfl⟩; exact ⟨rfl, trivial, Below.refl _ _⟩)
     intro hsh7
     clear hsh6
     try simp only [Act.put, List.getElem_toArray, List.getElem_cons_zero, List.getElem_cons_succ, List.setIfInBounds_toArray, List.set_cons_zero, List.set_cons_succ]
     refine anyU_call (i := 7) 54 #[.pointer (some ⟨f, 5, none⟩), .int .i64 c, .int .i64 s] (.bool true) (fun w' => FOn w f A F w' A { F with clk := s }) (by kernel_rfl) (by kernel_rfl) rfl (by rfl) (fun wS _ _ => by first | rfl | (go_simp; done)) (fun wS hSw hDw => ?_) (fun x y hx hy => hx.below hy) (by assumption) ?_
     · (refine (acas64_hit f 5 c s wS (by rw [← HCK.out]; exact hDw.b.c5) (hDw.b.zf 5)).mono ?_; rintro e wn ⟨rfl, rfl⟩; exact ⟨rfl, trivial, hDw.toClk s⟩)
     intro hsh8
     clear hsh7
     try simp only [Act.put, List.getElem_toArray, List.getElem_cons_zero, List.getElem_cons_succ, List.setIfInBounds_toArray, List.set_cons_zero, List.set_cons_succ]
     refine anyU_oneS (i := 8) (v := ?_) (by kernel_rfl) rfl (YieldsS.of_if (Or.inl ⟨by rfl, ?_⟩)) (by assumption) ?_
     rotate_left
     · (intro wS hSw; (try dsimp only at hSw); (first | (go_simp; done) | (go_simp; with_reducible rfl)))
     intro hsh9
     clear hsh8
     try simp only [Act.put, List.getElem_toArray, List.getElem_cons_zero, List.getElem_cons_succ, List.setIfInBounds_toArray, List.set_cons_zero, List.set_cons_succ]
     refine anyU_done (by kernel_rfl) (fun w3 hS3 hD3 => ?_) _
     have HW := Lib.hid hD3
     clear hS3 hD3
     refine NoPanic.normal ?_
     go_wp2
     show bodyPost Tryz.prog Tryz.f23 (fun e w' => e = Ending.returned (.tuple #[]) ∧ FTo w f A F { F with clk := tickE F.clk d } w') Exit.normal _ _
     refine bodyPost_end (results_none rfl _ _ _) rfl ⟨rfl, ?_⟩
     rw [HE.out]
     exact HW.out.to
   · rintro a' w' hf
     exact hf.elim
set_option maxRecDepth 100000 in
theorem frn_tick (d : Int) (w : World) : Calls Tryz.prog 23 #[.pointer none, .int .i64 d] w fun e w' => e = .returned (.tuple #[]) ∧ w = w' := by
 go_enter Tryz.func23, Tryz.ntmps23
 go_wp2_with fail
 refine wp_scope_jumps 0 (fun _ _ => False) (fun _ _ => 0) rfl ?_ ?_
 · go_wp2_with fail
   show bodyPost Tryz.prog Tryz.f23 (fun e w' => e = Ending.returned (.tuple #[]) ∧ w = w') Exit.ret _ _
   refine bodyPost_ret (results_none rfl _ _ _) rfl ⟨rfl, rfl⟩
 · rintro a' w' hf
   exact hf.elim
set_option maxRecDepth 100000 in
theorem frn_waiting (w : World) : Calls Tryz.prog 31 #[.pointer none] w fun e w' => e = .returned (.int .i64 0) ∧ w = w' := by
 go_enter Tryz.func31, Tryz.ntmps31
 go_wp2_with fail
 refine wp_scope_jumps 0 (fun _ _ => False) (fun _ _ => 0) rfl ?_ ?_
 · go_wp2_with fail
   show bodyPost Tryz.prog Tryz.f31 (fun e w' => e = Ending.returned (.int .i64 0) ∧ w = w') Exit.ret _ _
   exact bodyPost_ret (results_tmp rfl _ _ _) rfl ⟨rfl, rfl⟩
 · rintro a' w' hf
   exact hf.elim
end
end Go.Proofs.YtcffeokbipjaoaaGreat
namespace Go.Proofs.YtcffeokbipjaoaaGreat
open Go.ChangeShapes Go.WideShapes Go.RowKit Kn
set_option linter.unusedVariables false
set_option linter.unusedSimpArgs false
def Cf.zero : Cf := ⟨0, 0, 0, 0, 0, 0, 0, 0, 0, 0, 0, 0, 0, 0, 0, 0⟩
section
variable {w w' w'' : World} {p q gc gm l g b : Nat} {r r' : Option Nat} {O Oq Oq' O1 : Nat → Prop} {S S' : Cor}
end
end Go.Proofs.YtcffeokbipjaoaaGreat
namespace Go.Proofs.YtcffeokbipjaoaaGreat
open Go.ChangeShapes Go.WideShapes Go.RowKit Kn
set_option linter.unusedVariables false
set_option linter.unusedSimpArgs false
theorem valid_bounds {c : Cf} (h : validE c = 0) : (1 ≤ c.ti ∧ c.ti ≤ 8) ∧ (1 ≤ c.ro ∧ c.ro ≤ 1024) := by
 unfold validE at h
 split at h
 · rename_i hv
   unfold validB sizedB withinB at hv
   simp only [Bool.and_eq_true, decide_eq_true_eq] at hv
   exact ⟨hv.1.1.1.1.1.1.1, hv.1.1.1.1.1.1.2⟩
 · omega
theorem validE_or (c : Cf) : validE c = 0 ∨ validE c = 1 := by unfold validE; split; exact .inl rfl; exact .inr rfl
set_option maxRecDepth 100000 in
set_option maxHeartbeats 8000000 in
theorem cnew_no (c : Cf) (w : World) (hv : validE c = 1) :
   Calls Tryz.prog 12 #[c.v] w fun e w' => e = .returned (.tuple #[.pointer none, .int .i64 1]) ∧ Below w.heap.size w w' := by
 have hva := fun wq => valid_any c wq
 rw [hv] at hva
 have HVA := Lib.hid hva
 clear hva hv
 obtain ⟨ti, ro, ta, iv, hx, lo, dw, ho, sp, kp, ki, kd, lm, sx, th, rg⟩ := c
 go_enter Tryz.func12, Tryz.ntmps12
 go_upto_region 1 with fail
 refine wp_worldx (fun wx => Blk wx w.heap.size 24 #[.int .i64 ti, .int .i64 ro, .int .i64 ta, .int .i64 iv, .int .i64 hx, .int .i64 lo, .int .i64 dw, .int .i64 ho, .int .i64 sp, .int .i64 kp, .int .i64 ki, .int .i64 kd, .int .i64 lm, .int .i64 sx, .int .i64 th, .int .i64 rg] ∧ Below w.heap.size w wx) ⟨Blk.made _ _ _, (Below.refl _ _).alloc (Nat.le_refl _) _⟩ ?_
 obtain ⟨g, hg⟩ : ∃ g, w.heap.size = g := ⟨_, rfl⟩
 rw [hg]
 rintro w1 ⟨h1, h2⟩
 have k0 : w1.cell? ⟨g, 0, none⟩ = some (.int .i64 ti) := h1.val (i := 0) rfl
 have k1 : w1.cell? ⟨g, 1, none⟩ = some (.int .i64 ro) := h1.val (i := 1) rfl
 have k2 : w1.cell? ⟨g, 2, none⟩ = some (.int .i64 ta) := h1.val (i := 2) rfl
 have k3 : w1.cell? ⟨g, 3, none⟩ = some (.int .i64 iv) := h1.val (i := 3) rfl
 have k4 : w1.cell? ⟨g, 4, none⟩ = some (.int .i64 hx) := h1.val (i := 4) rfl
 have k5 : w1.cell? ⟨g, 5, none⟩ = some (.int .i64 lo) := h1.val (i := 5) rfl
 have k6 : w1.cell? ⟨g, 6, none⟩ = some (.int .i64 dw) := h1.val (i := 6) rfl
 have k7 : w1.cell? ⟨g, 7, none⟩ = some (.int .i64 ho) := h1.val (i := 7) rfl
 have k8 : w1.cell? ⟨g, 8, none⟩ = some (.int .i64 sp) := h1.val (i := 8) rfl
 have k9 : w1.cell? ⟨g, 9, none⟩ = some (.int .i64 kp) := h1.val (i := 9) rfl
 have k10 : w1.cell? ⟨g, 10, none⟩ = some (.int .i64 ki) := h1.val (i := 10) rfl
 have k11 : w1.cell? ⟨g, 11, none⟩ = some (.int .i64 kd) := h1.val (i := 11) rfl
 have k12 : w1.cell? ⟨g, 12, none⟩ = some (.int .i64 lm) := h1.val (i := 12) rfl
 have k13 : w1.cell? ⟨g, 13, none⟩ = some (.int .i64 sx) := h1.val (i := 13) rfl
 have k14 : w1.cell? ⟨g, 14, none⟩ = some (.int .i64 th) := h1.val (i := 14) rfl
 have k15 : w1.cell? ⟨g, 15, none⟩ = some (.int .i64 rg) := h1.val (i := 15) rfl
 have HB := Lib.hid (show Below w.heap.size w w1 from by rw [hg]; exact h2)
 clear h1 h2 hg
 go_wp2_with fail
 refine (HVA.out w1).mono ?_
 rintro e w2 ⟨rfl, hb⟩
 have HB2 := Lib.hid (HB.out.trans (hb.mono HB.out.size))
 clear hb HB k0 k1 k2 k3 k4 k5 k6 k7 k8 k9 k10 k11 k12 k13 k14 k15
 go_wp2
 go_ret2
 exact ⟨rfl, HB2.out⟩
theorem cnew_any (c : Cf) (w : World) (hf : c.fits) :
   Calls Tryz.prog 12 #[c.v] w fun e w' => ∃ P, e = .returned (.tuple #[.pointer P, .int .i64 (validE c)]) ∧ ((P = none ∧ validE c = 1) ∨ (validE c = 0 ∧ ∃ (p : Nat) (O : Nat → Prop) (N n : Nat), P = some ⟨p, 0, none⟩ ∧ CoreL w' p O (newC c N n) ∧ (∀ k, O k → w.heap.size ≤ k))) ∧ Below w.heap.size w w' := by
 rcases validE_or c with h | h
 · obtain ⟨⟨a0, a1⟩, ⟨b0, b1⟩⟩ := valid_bounds h
   refine (cnew_yes c c.ti.toNat c.ro.toNat w h hf (by omega) (by omega) (by omega) (by omega) (by omega) (by omega)).mono ?_
   rintro e w' ⟨p, O, rfl, h1, h2, h3⟩
   exact ⟨_, by rw [h], .inr ⟨h, p, O, _, _, rfl, h1, h2⟩, h3⟩
 · refine (cnew_no c w h).mono ?_
   rintro e w' ⟨rfl, h3⟩
   exact ⟨_, by rw [h], .inl ⟨rfl, h⟩, h3⟩
theorem dflt_fits : Cf.dflt.fits := by
 constructor <;> (unfold I64_ Cf.dflt; decide)
theorem dflt_valid : validE Cf.dflt = 0 := by decide +kernel
end Go.Proofs.YtcffeokbipjaoaaGreat
