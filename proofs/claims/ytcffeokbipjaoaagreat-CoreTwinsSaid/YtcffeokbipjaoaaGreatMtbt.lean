/- Texts of this claim, one behind the other: Cre Crf Crg. -/
import Derived.Test.YtcffeokbipjaoaaGreatMtal
import Derived.Test.YtcffeokbipjaoaaGreatMtbs
namespace Go.Proofs.YtcffeokbipjaoaaGreat
open Go.ChangeShapes Go.WideShapes Go.RowKit Kn
set_option linter.unusedVariables false
set_option linter.unusedSimpArgs false
theorem alloc_size_ (w : World) (o : Obj) : (w.alloc o).heap.size = w.heap.size + 1 := by simp
def quRow (h a b c d e : Int) : List Value := [.int .u64 h, .int .u64 a, .int .i64 b, .int .i64 c, .int .i64 d, .int .i64 e]
def leastI (a b c a' b' c' : Int) : Int := orI (cmpI (keyW b' c') (keyW b c)) (cmpI a a')
set_option maxRecDepth 100000 in
set_option maxHeartbeats 8000000 in
theorem least_w (h a b c d e h' a' b' c' d' e' : Int) (w : World) : Calls Tryz.prog 136 #[quv h a b c d e, quv h' a' b' c' d' e'] w fun x w' => x = .returned (.int .i64 (leastI a b c a' b' c')) ∧ Grew w w' := by
 obtain ⟨x, hx⟩ : ∃ x, keyW b c = x := ⟨_, rfl⟩
 obtain ⟨y, hy⟩ : ∃ y, keyW b' c' = y := ⟨_, rfl⟩
 obtain ⟨z, hz⟩ : ∃ z, cmpI y x = z := ⟨_, rfl⟩
 obtain ⟨v, hv⟩ : ∃ v, cmpI a a' = v := ⟨_, rfl⟩
 obtain ⟨r, hr⟩ : ∃ r, orI z v = r := ⟨_, rfl⟩
 have hL : leastI a b c a' b' c' = r := by unfold leastI; rw [hx, hy, hz, hv, hr]
 rw [hL]
 clear hL
 have HX := Lib.hid hx
 have HY := Lib.hid hy
 have HZ := Lib.hid hz
 have HV := Lib.hid hv
 have HR := Lib.hid hr
 clear hx hy hz hv hr
 go_enter Tryz.func136, Tryz.ntmps136
 go_upto_region 1 with fail
 obtain ⟨g, hg⟩ : ∃ g, w.heap.size = g := ⟨_, rfl⟩
 refine wp_worldx (fun wx => Blk wx w.heap.size quT (quRow h a b c d e).toArray ∧ Blk wx (w.heap.size + 1) quT (quRow h' a' b' c' d' e').toArray ∧ Grew w wx) ⟨Blk.alloc_ (Blk.made _ _ _) _, Blk.new_ (alloc_size_ w _).symm, ((Grew.refl _).alloc _).alloc _⟩ ?_
 rw [hg]
 rintro w2 ⟨h1, h2, h3⟩
 have HA := Lib.hid h1
 have HB := Lib.hid h2
 have HC := Lib.hid h3
 have h24 := h2.size
 clear h1 h2 h3
 refine wp_region_noPanic ?_
 refine wp_region_U (fun w' => Blk w' g quT (quRow h a b c d e).toArray ∧ Blk w' (g + 1) quT (quRow h' a' b' c' d' e').toArray ∧ Grew w2 w') [] [12] (by kernel_rfl) (⟨HA.out.drew_, HB.out.drew_, (Grew.refl _).drew⟩) ?_
 intro hsh0
 skip
 refine anyU_tk 60 (i := 0) (v := ?_) rfl (fun _ _ _ h => h) (YieldsS.of_if (Or.inl ⟨by rfl, ?_⟩)) ?_
 rotate_left
 · (intro wS hSw; (try dsimp only at hSw); have b0 : wS.cell? ⟨(g + 1), 0, none⟩ = some (.int .u64 h') := hSw.2.1.val (i := 0) rfl; have b1 : wS.cell? ⟨(g + 1), 1, none⟩ = some (.int .u64 a') := hSw.2.1.val (i := 1) rfl; have b2 : wS.cell? ⟨(g + 1), 2, none⟩ = some (.int .i64 b') := hSw.2.1.val (i := 2) rfl; have b3 : wS.cell? ⟨(g + 1), 3, none⟩ = some (.int .i64 c') := hSw.2.1.val (i := 3) rfl; have b4 : wS.cell? ⟨(g + 1), 4, none⟩ = some (.int .i64 d') := hSw.2.1.val (i := 4) rfl; have b5 : wS.cell? ⟨(g + 1), 5, none⟩ = some (.int .i64 e') := hSw.2.1.val (i := 5) rfl; clear hSw; (first | (go_simp; done) | (go_simp; with_reducible rfl)))
 intro hsh1
 clear hsh0
 try simp only [Act.put, List.getElem_toArray, List.getElem_cons_zero, List.getElem_cons_succ, List.setIfInBounds_toArray, List.set_cons_zero, List.set_cons_succ]
 refine anyU_tk 60 (i := 1) (v := .int .i64 y) rfl (fun _ _ _ h => h) (YieldsS.of_call (by rfl) (f := 134) (args := #[quv h' a' b' c' d' e']) (fun wS hSw => by first | rfl | (go_simp; done)) (fun wS hSw => ?_)) ?_
 · refine (q_key h' a' b' c' d' e' wS).mono ?_; rw [HY.out]; rintro e wn ⟨rfl, hb⟩; exact ⟨rfl, ⟨hSw.1.below_ hb.below hSw.1.size, hSw.2.1.below_ hb.below hSw.2.1.size, hSw.2.2.trans hb⟩, hb.below⟩
 intro hsh2
 clear hsh1
 try simp only [Act.put, List.getElem_toArray, List.getElem_cons_zero, List.getElem_cons_succ, List.setIfInBounds_toArray, List.set_cons_zero, List.set_cons_succ]
 refine anyU_tk 60 (i := 2) (v := ?_) rfl (fun _ _ _ h => h) (YieldsS.of_if (Or.inl ⟨by rfl, ?_⟩)) ?_
 rotate_left
 · (intro wS hSw; (try dsimp only at hSw); have a0 : wS.cell? ⟨g, 0, none⟩ = some (.int .u64 h) := hSw.1.val (i := 0) rfl; have a1 : wS.cell? ⟨g, 1, none⟩ = some (.int .u64 a) := hSw.1.val (i := 1) rfl; have a2 : wS.cell? ⟨g, 2, none⟩ = some (.int .i64 b) := hSw.1.val (i := 2) rfl; have a3 : wS.cell? ⟨g, 3, none⟩ = some (.int .i64 c) := hSw.1.val (i := 3) rfl; have a4 : wS.cell? ⟨g, 4, none⟩ = some (.int .i64 d) := hSw.1.val (i := 4) rfl; have a5 : wS.cell? ⟨g, 5, none⟩ = some (.int .i64 e) := hSw.1.val (i := 5) rfl; clear hSw; (first | (go_simp; done) | (go_simp; with_reducible rfl)))
 intro hsh3
 clear hsh2
 try simp only [Act.put, List.getElem_toArray, List.getElem_cons_zero, List.getElem_cons_succ, List.setIfInBounds_toArray, List.set_cons_zero, List.set_cons_succ]
 refine anyU_tk 60 (i := 3) (v := .int .i64 x) rfl (fun _ _ _ h => h) (YieldsS.of_call (by rfl) (f := 134) (args := #[quv h a b c d e]) (fun wS hSw => by first | rfl | (go_simp; done)) (fun wS hSw => ?_)) ?_
 · refine (q_key h a b c d e wS).mono ?_; rw [HX.out]; rintro e wn ⟨rfl, hb⟩; exact ⟨rfl, ⟨hSw.1.below_ hb.below hSw.1.size, hSw.2.1.below_ hb.below hSw.2.1.size, hSw.2.2.trans hb⟩, hb.below⟩
 intro hsh4
 clear hsh3
 try simp only [Act.put, List.getElem_toArray, List.getElem_cons_zero, List.getElem_cons_succ, List.setIfInBounds_toArray, List.set_cons_zero, List.set_cons_succ]
 refine anyU_tk 60 (i := 4) (v := .int .i64 z) rfl (fun _ _ _ h => h) (YieldsS.of_call (by rfl) (f := 191) (args := #[.int .i64 y, .int .i64 x]) (fun wS hSw => by first | rfl | (go_simp; done)) (fun wS hSw => ?_)) ?_
 · refine (cmp_i64 y x wS).mono ?_; rw [HZ.out]; rintro e wn ⟨rfl, rfl⟩; exact ⟨rfl, hSw, Below.refl _ _⟩
 intro hsh5
 clear hsh4
 try simp only [Act.put, List.getElem_toArray, List.getElem_cons_zero, List.getElem_cons_succ, List.setIfInBounds_toArray, List.set_cons_zero, List.set_cons_succ]
 refine anyU_tk 60 (i := 5) (v := ?_) rfl (fun _ _ _ h => h) (YieldsS.of_if (Or.inl ⟨by rfl, ?_⟩)) ?_
 rotate_left
 · (intro wS hSw; (try dsimp only at hSw); (first | (go_simp; done) | (go_simp; with_reducible rfl)))
 intro hsh6
 clear hsh5
 try simp only [Act.put, List.getElem_toArray, List.getElem_cons_zero, List.getElem_cons_succ, List.setIfInBounds_toArray, List.set_cons_zero, List.set_cons_succ]
 refine anyU_tk 60 (i := 6) (v := ?_) rfl (fun _ _ _ h => h) (YieldsS.of_if (Or.inl ⟨by rfl, ?_⟩)) ?_
 rotate_left
 · (intro wS hSw; (try dsimp only at hSw); (first | (go_simp; done) | (go_simp; with_reducible rfl)))
 intro hsh7
 clear hsh6
 try simp only [Act.put, List.getElem_toArray, List.getElem_cons_zero, List.getElem_cons_succ, List.setIfInBounds_toArray, List.set_cons_zero, List.set_cons_succ]
 refine anyU_tk 60 (i := 7) (v := ?_) rfl (fun _ _ _ h => h) (YieldsS.of_if (Or.inl ⟨by rfl, ?_⟩)) ?_
 rotate_left
 · (intro wS hSw; (try dsimp only at hSw); have a0 : wS.cell? ⟨g, 0, none⟩ = some (.int .u64 h) := hSw.1.val (i := 0) rfl; have a1 : wS.cell? ⟨g, 1, none⟩ = some (.int .u64 a) := hSw.1.val (i := 1) rfl; have a2 : wS.cell? ⟨g, 2, none⟩ = some (.int .i64 b) := hSw.1.val (i := 2) rfl; have a3 : wS.cell? ⟨g, 3, none⟩ = some (.int .i64 c) := hSw.1.val (i := 3) rfl; have a4 : wS.cell? ⟨g, 4, none⟩ = some (.int .i64 d) := hSw.1.val (i := 4) rfl; have a5 : wS.cell? ⟨g, 5, none⟩ = some (.int .i64 e) := hSw.1.val (i := 5) rfl; clear hSw; (first | (go_simp; done) | (go_simp; with_reducible rfl)))
 intro hsh8
 clear hsh7
 try simp only [Act.put, List.getElem_toArray, List.getElem_cons_zero, List.getElem_cons_succ, List.setIfInBounds_toArray, List.set_cons_zero, List.set_cons_succ]
 refine anyU_tk 60 (i := 8) (v := ?_) rfl (fun _ _ _ h => h) (YieldsS.of_if (Or.inl ⟨by rfl, ?_⟩)) ?_
 rotate_left
 · (intro wS hSw; (try dsimp only at hSw); (first | (go_simp; done) | (go_simp; with_reducible rfl)))
 intro hsh9
 clear hsh8
 try simp only [Act.put, List.getElem_toArray, List.getElem_cons_zero, List.getElem_cons_succ, List.setIfInBounds_toArray, List.set_cons_zero, List.set_cons_succ]
 refine anyU_tk 60 (i := 9) (v := ?_) rfl (fun _ _ _ h => h) (YieldsS.of_if (Or.inl ⟨by rfl, ?_⟩)) ?_
 rotate_left
 · (intro wS hSw; (try dsimp only at hSw); (first | (go_simp; done) | (go_simp; with_reducible rfl)))
 intro hsh10
 clear hsh9
 try simp only [Act.put, List.getElem_toArray, List.getElem_cons_zero, List.getElem_cons_succ, List.setIfInBounds_toArray, List.set_cons_zero, List.set_cons_succ]
 refine anyU_tk 60 (i := 10) (v := ?_) rfl (fun _ _ _ h => h) (YieldsS.of_if (Or.inl ⟨by rfl, ?_⟩)) ?_
 rotate_left
 · (intro wS hSw; (try dsimp only at hSw); have b0 : wS.cell? ⟨(g + 1), 0, none⟩ = some (.int .u64 h') := hSw.2.1.val (i := 0) rfl; have b1 : wS.cell? ⟨(g + 1), 1, none⟩ = some (.int .u64 a') := hSw.2.1.val (i := 1) rfl; have b2 : wS.cell? ⟨(g + 1), 2, none⟩ = some (.int .i64 b') := hSw.2.1.val (i := 2) rfl; have b3 : wS.cell? ⟨(g + 1), 3, none⟩ = some (.int .i64 c') := hSw.2.1.val (i := 3) rfl; have b4 : wS.cell? ⟨(g + 1), 4, none⟩ = some (.int .i64 d') := hSw.2.1.val (i := 4) rfl; have b5 : wS.cell? ⟨(g + 1), 5, none⟩ = some (.int .i64 e') := hSw.2.1.val (i := 5) rfl; clear hSw; (first | (go_simp; done) | (go_simp; with_reducible rfl)))
 intro hsh11
 clear hsh10
 try simp only [Act.put, List.getElem_toArray, List.getElem_cons_zero, List.getElem_cons_succ, List.setIfInBounds_toArray, List.set_cons_zero, List.set_cons_succ]
 refine anyU_tk 60 (i := 11) (v := .int .i64 v) rfl (fun _ _ _ h => h) (YieldsS.of_call (by rfl) (f := 192) (args := #[.int .u64 a, .int .u64 a']) (fun wS hSw => by first | rfl | (go_simp; done)) (fun wS hSw => ?_)) ?_
 · refine (cmp_u64 a a' wS).mono ?_; rw [HV.out]; rintro e wn ⟨rfl, rfl⟩; exact ⟨rfl, hSw, Below.refl _ _⟩
 intro hsh12
 clear hsh11
 try simp only [Act.put, List.getElem_toArray, List.getElem_cons_zero, List.getElem_cons_succ, List.setIfInBounds_toArray, List.set_cons_zero, List.set_cons_succ]
 refine anyU_last (i := 12) (by kernel_rfl) (by kernel_rfl) (fun wS hSw _ => ?_)
 refine one_op rfl (by rfl) ?_
 unfold Oper.wp
 go_simp
 have hb4 : Grew w wS := HC.out.trans hSw.2.2
 have HS := Lib.hid hb4
 clear hSw hb4
 refine any_one (i := 13) (by kernel_rfl) rfl (by rfl) ?_
 unfold Oper.wp
 go_simp
 refine (cmp_or z v wS.heap.size _ ((Blk.made _ _ _).val (i := 0) rfl) ((Blk.made _ _ _).val (i := 1) rfl)).mono ?_
 rw [HR.out]
 rintro e wn ⟨rfl, rfl⟩
 go_simp
 refine any_one (i := 14) (by kernel_rfl) rfl (by rfl) ?_
 unfold Oper.wp
 go_simp
 refine any_done (by kernel_rfl) ?_ _
 refine NoPanic.normal ?_
 go_wp2
 go_ret
 exact ⟨rfl, HS.out.alloc _⟩
end Go.Proofs.YtcffeokbipjaoaaGreat
namespace Go.Proofs.YtcffeokbipjaoaaGreat
open Go.ChangeShapes Go.WideShapes Go.RowKit Go.Sort Go.Lib Kn
set_option linter.unusedVariables false
set_option linter.unusedSimpArgs false
structure Qu where
 h : Int
 r : Rq
 i : Nat
instance : Inhabited Qu := ⟨⟨0, ⟨0, 0, 0, 0, 0⟩, 0⟩⟩
def quEnc (x : Qu) : List Value := qRow x.h x.r
def keyQ (x : Qu) : Int := keyW x.r.b x.r.c
def cmpQ (x y : Qu) : Int := leastI x.r.a x.r.b x.r.c y.r.a y.r.b y.r.c
def ltQ (x y : Qu) : Prop := keyQ y < keyQ x ∨ keyQ x = keyQ y ∧ x.r.a < y.r.a
theorem cmpQ_neg (x y : Qu) : cmpQ x y < 0 ↔ ltQ x y := by
 unfold cmpQ leastI ltQ keyQ orI cmpI
 generalize keyW x.r.b x.r.c = a
 generalize keyW y.r.b y.r.c = b
 generalize x.r.a = c
 generalize y.r.a = d
 repeat' split
 all_goals omega
theorem swoQ : SWO (ltOf cmpQ) := by
 have key : ∀ x y, ltOf cmpQ x y = true ↔ ltQ x y := fun x y => by unfold ltOf; rw [decide_eq_true_iff]; exact cmpQ_neg x y
 have key2 : ∀ x y, ltOf cmpQ x y = false ↔ ¬ ltQ x y := fun x y => by rw [← key]; simp
 exact ⟨fun x => (key2 x x).2 (by unfold ltQ; omega), fun x y z h k => (key x z).2 (by have h := (key x y).1 h; have k := (key y z).1 k; unfold ltQ at *; omega), fun x y z h k => (key2 x z).2 (by have h := (key2 x y).1 h; have k := (key2 y z).1 k; unfold ltQ at *; omega)⟩
theorem least_q (x y : Qu) (w : World) : Calls Tryz.prog 136 #[.agg (quEnc x).toArray, .agg (quEnc y).toArray] w fun e w' => e = .returned (.int .i64 (cmpQ x y)) ∧ Grew w w' := least_w _ _ _ _ _ _ _ _ _ _ _ _ w
set_option maxRecDepth 20000 in
set_option maxHeartbeats 1000000 in
theorem qins_nil (w : World) (f : Value) : Calls Tryz.prog 224 #[.slice none 0 0, .int .i64 0, .int .i64 0, f] w fun e w' => e = .returned (.tuple #[]) ∧ w = w' := by
 go_enter Tryz.func224, Tryz.ntmps224
 go_wp2_with fail
 go_loopw [8] (fun s8 wr => s8 = .int .i64 1 ∧ wr = w) (fun _ _ => 0)
 case atStart => exact ⟨rfl, rfl⟩
 case round =>
   obtain ⟨rfl, rfl⟩ := hrel
   go_wp2_with fail
   first | go_end0 | skip
   exact ⟨rfl, rfl⟩
set_option maxRecDepth 20000 in
set_option maxHeartbeats 1000000 in
theorem qpdq_nil (w : World) (f : Value) : Calls Tryz.prog 188 #[.slice none 0 0, .int .i64 0, .int .i64 0, .int .i64 0, f] w fun e w' => e = .returned (.tuple #[]) ∧ w = w' := by
 go_enter Tryz.func188, Tryz.ntmps188
 go_wp2_with fail
 go_loopw [1, 2] (fun s1 s2 wr => s1 = .int .i64 0 ∧ s2 = .int .i64 0 ∧ wr = w) (fun _ _ _ => 0)
 case atStart => exact ⟨rfl, rfl, rfl⟩
 case round =>
   obtain ⟨rfl, rfl, rfl⟩ := hrel
   go_wp2_with fail
   refine (qins_nil _ _).mono ?_
   rintro e w1 ⟨rfl, rfl⟩
   go_wp2_with fail
   refine bodyPost_ret (results_none rfl _ _ _) rfl ?_
   exact ⟨rfl, rfl⟩
theorem qsort_nil (w : World) (f : Value) : Calls Tryz.prog 135 #[.slice none 0 0, f] w fun e w' => e = .returned (.tuple #[]) ∧ w = w' := by
 have hb : (Lib.bitLen (0 : Int).toNat : Int) = 0 := by decide
 go_enter Tryz.func135, Tryz.ntmps135
 go_wp2_with fail
 refine (Tryz.bits_Len 0 _ (by decide) (by decide)).mono ?_
 rw [hb]
 rintro e w1 ⟨rfl, rfl⟩
 go_wp2_with fail
 refine (qpdq_nil _ _).mono ?_
 rintro e w2 ⟨rfl, rfl⟩
 go_wp2_with fail
 first | go_end0 | skip
 exact ⟨rfl, rfl⟩
def cutSort (L : List Qu) : List Qu := (pdq (ltOf cmpQ) L.toArray 0 L.length (Lib.bitLen L.length) true true).toList
theorem cutSort_perm (L : List Qu) : (cutSort L).Perm L ∧ (cutSort L).Pairwise (fun a b => ¬ ltQ b a) ∧ (cutSort L).length = L.length := by
 have h := pdq_sorts (ltOf cmpQ) swoQ L.toArray 0 L.length (Lib.bitLen L.length) true true (Nat.zero_le _) (by simp) (Or.inl rfl)
 unfold cutSort
 generalize pdq (ltOf cmpQ) L.toArray 0 L.length (Lib.bitLen L.length) true true = d' at h
 obtain ⟨⟨hds, _, hpe⟩, hso⟩ := h
 have hds2 : d'.size = L.length := by simpa using hds
 have e1 : d'.extract 0 L.length = d' := by rw [← hds2]; simp
 have e2 : L.toArray.extract 0 L.length = L.toArray := by rw [show L.length = L.toArray.size from by simp]; simp
 rw [e1, e2] at hpe
 refine ⟨by simpa using hpe, ?_, by simpa using hds2⟩
 rw [List.pairwise_iff_getElem]
 intro i j hi hj hij
 have hi' : i < d'.size := by simpa using hi
 have hj' : j < d'.size := by simpa using hj
 have hso' := hso i j (Nat.zero_le _) hij (by omega)
 rw [getElem!_pos d' i hi', getElem!_pos d' j hj'] at hso'
 unfold ltOf at hso'
 rw [decide_eq_false_iff_not, cmpQ_neg] at hso'
 simpa using hso'
def flatU (L : List Qu) : List Value := L.flatMap quEnc
theorem flatU_len (L : List Qu) : (flatU L).length = L.length * 6 := by
 unfold flatU
 induction L with
 | nil => rfl
 | cons a l ih => rw [List.flatMap_cons, List.length_append, ih, List.length_cons]; simp [quEnc, qRow]; omega
theorem flatU_get : ∀ (L : List Qu) (i j : Nat), i < L.length → j < 6 → (flatU L)[i * 6 + j]? = (quEnc L[i]!)[j]?
 | [], i, j, hi, _ => by simp at hi
 | a :: L, 0, j, _, hj => by
   unfold flatU
   rw [List.flatMap_cons, List.getElem?_append_left (by simp [quEnc, qRow]; omega)]
   simp
 | a :: L, i + 1, j, hi, hj => by
   have h := flatU_get L i j (by simpa using hi) hj
   unfold flatU at h ⊢
   rw [List.flatMap_cons, List.getElem?_append_right (by simp [quEnc, qRow]; omega)]
   rw [show (i + 1) * 6 + j - (quEnc a).length = i * 6 + j from by simp [quEnc, qRow]; omega, h]
   simp
theorem flatU_Q (V : Nat → Int) (R : Nat → Rq) (xs : List Nat) : flatQ V R xs = flatU (xs.map fun i => ⟨V i, R i, i⟩) := by
 unfold flatQ flatU
 rw [List.flatMap_map]
 rfl
section
variable {w w' : World} {B k : Nat} {v : Value} {L : List Qu}
theorem flatU_holds {g : Nat} {cur : Array Value} {L0 : List Qu} (hb : Blk w g quT cur) (hx : ∀ i, i < L0.length * 6 → cur[i]? = (flatU L0)[i]?) : HoldsK quEnc 6 w g 0 L0.toArray := by
 intro j hj
 rw [size_flatK] at hj
 have hj' : j < L0.length * 6 := by simpa using hj
 refine ⟨?_, hb.free _⟩
 rw [hb.at_, Nat.zero_add, hx j hj', get_flatK _ _ _ _ hj]
 have hd : j = (j / 6) * 6 + j % 6 := by omega
 have h := flatU_get L0 (j / 6) (j % 6) (by omega) (by omega)
 rw [← hd] at h
 rw [h]
 have hjd : j / 6 < L0.length := by omega
 have e1 : (L0.toArray)[j / 6]! = L0[j / 6]! := by simp [hjd]
 rw [e1]
 have : j % 6 < 6 := Nat.mod_lt _ (by decide)
 generalize j % 6 = r at this
 match r, this with
 | 0, _ => rfl
 | 1, _ => rfl
 | 2, _ => rfl
 | 3, _ => rfl
 | 4, _ => rfl
 | 5, _ => rfl
theorem sortU_block (w : World) (g n : Nat) (d : Array Qu) (os : Array Obj) {c : Array Value} {e : TypeId} (h : Blk w g e c) : ∃ c', c'.size = c.size ∧ Blk (sortWorldK quEnc 6 w g 0 n d os) g e c' := by
 have h1 : Blk (Sort.ahead w n) g e c := h
 have h2 := map_block (Sort.ahead w n) g (putCells id 0 (flatK quEnc 6 d)) h1
 refine ⟨putCells id 0 (flatK quEnc 6 d) c, by simp [putCells], ?_⟩
 have h3 : (grow (mapBlock (Sort.ahead w n) g (putCells id 0 (flatK quEnc 6 d))) os).heap[g]? = _ := heap_grow_old _ _ h2.size
 exact h3.trans h2
theorem sortU_below (w : World) (g n : Nat) (d : Array Qu) (os : Array Obj) (hB : B ≤ g) (hw : B ≤ w.heap.size) : RowKit.Below B w (sortWorldK quEnc 6 w g 0 n d os) := by
 have hs : (mapBlock (Sort.ahead w n) g (putCells id 0 (flatK quEnc 6 d))).heap.size = w.heap.size := by simp [mapBlock, Sort.ahead]
 refine ⟨rfl, rfl, rfl, ?_, fun i hi => ?_⟩
 · show w.heap.size ≤ (grow (mapBlock (Sort.ahead w n) g (putCells id 0 (flatK quEnc 6 d))) os).heap.size
   rw [size_grow, hs]; omega
 · show (grow (mapBlock (Sort.ahead w n) g (putCells id 0 (flatK quEnc 6 d))) os).heap[i]? = _
   rw [heap_grow_old _ _ (by rw [hs]; omega), map_far _ _ _ (by omega)]
   rfl
theorem qsort_own {L0 : List Qu} (w : World) (hw : B ≤ w.heap.size) (hk : k = L0.length) (hs : k ≤ 100000) (hown : w.ownsRow B quT 6 v k (flatU L0)) :
   Calls Tryz.prog 135 #[v, .func (.func 136) #[] #[]] w fun e w' => e = .returned (.tuple #[]) ∧ w'.ownsRow B quT 6 v k (flatU (cutSort L0)) ∧ RowKit.Below B w w' := by
 subst hk
 rcases hown.2 with ⟨rfl, h0⟩ | ⟨g, cap, cur, rfl, hg, hb, h1, h2, h3, h4⟩
 · obtain rfl : L0 = [] := by simpa using h0
   refine (qsort_nil w _).mono ?_
   rintro e w' ⟨rfl, rfl⟩
   have hc0 : cutSort [] = [] := by have := (cutSort_perm []).2.2; simpa using this
   rw [hc0]
   exact ⟨rfl, hown, RowKit.Below.refl _ _⟩
 · have hb' : Blk w g quT cur := hb
   have hx : ∀ i, i < L0.length * 6 → cur[i]? = (flatU L0)[i]? := fun i hi => by rw [← h4, List.getElem?_take_of_lt hi, Array.getElem?_toList]
   have hH := flatU_holds hb' hx
   have eg : ∀ args w, (callFunc 136 args).run Tryz.prog w = .ok (.enter 136 args) w := enters_of Tryz.func136 (by kernel_rfl) rfl
   have hc := AnyQ.slices_SortFunc_eq Tryz.sortQu 6 Tryz.isAgg170 Tryz.sizeOf170 quEnc (fun _ => rfl) (fun x v hv => q_one v hv) cmpQ swoQ 136 #[] g 0 cap L0.toArray w eg (fun m os dk _ x y => least_q x y _) hH hb'.size (by simp; omega)
   rw [List.size_toArray] at hc
   refine hc.mono ?_
   rintro e w' ⟨rfl, n, os, rfl⟩
   have hper := cutSort_perm L0
   unfold cutSort at hper ⊢
   generalize pdq (ltOf cmpQ) L0.toArray 0 L0.length (Lib.bitLen L0.length) true true = d' at hper ⊢
   have hd'l : d'.toList.length = L0.length := hper.2.2
   have hds : d'.size = L0.length := by simpa using hd'l
   obtain ⟨c', hc', hb2⟩ := sortU_block w g n d' os hb'
   have hH2 := holdsK_sortWorldK_c quEnc 6 w g 0 L0.toArray d' n os hH hb'.size (by simpa using hds)
   refine ⟨rfl, ⟨by rw [flatU_len, hd'l], .inr ⟨g, cap, c', rfl, hg, hb2, h1, h2, by rw [hc', h3], ?_⟩⟩, sortU_below w g n d' os hg hw⟩
   apply List.ext_getElem?
   intro i
   by_cases hi : i < L0.length * 6
   · rw [List.getElem?_take_of_lt hi, Array.getElem?_toList]
     have hd : i = (i / 6) * 6 + i % 6 := by omega
     have h := (HoldsK.cell hH2 (i := i / 6) (c := i % 6) (by omega) (by omega)).1
     rw [hb2.at_, Nat.zero_add, ← hd] at h
     rw [h]
     have h5 := flatU_get d'.toList (i / 6) (i % 6) (by omega) (by omega)
     rw [← hd] at h5
     rw [h5]
     have hjd : i / 6 < d'.size := by omega
     have e1 : d'.toList[i / 6]! = d'[i / 6]! := by simp [hjd]
     rw [e1]
     have : i % 6 < 6 := Nat.mod_lt _ (by decide)
     generalize i % 6 = r at this
     match r, this with
     | 0, _ => rfl
     | 1, _ => rfl
     | 2, _ => rfl
     | 3, _ => rfl
     | 4, _ => rfl
     | 5, _ => rfl
   · rw [List.getElem?_eq_none (by rw [List.length_take]; omega), List.getElem?_eq_none (by rw [flatU_len, hd'l]; omega)]
end
end Go.Proofs.YtcffeokbipjaoaaGreat
namespace Go.Proofs.YtcffeokbipjaoaaGreat
open Go.ChangeShapes Go.WideShapes Go.RowKit Go.Sort Kn
set_option linter.unusedVariables false
set_option linter.unusedSimpArgs false
def quAt (L : List Qu) (k : Nat) : Qu := L[k]!
def loQ (E : Int) (x : Qu) : Prop := keyQ x < E
abbrev i8T : TypeId := 2
set_option maxRecDepth 100000 in
set_option maxHeartbeats 8000000 in
theorem cut_w (h a b c d e E : Int) (ga : Nat) (w : World) (hE : Blk w ga i8T #[.int .i64 E]) : Calls Tryz.prog 133 #[quv h a b c d e, .pointer (some ⟨ga, 0, none⟩)] w fun x w' => x = .returned (.bool (decide (keyW b c < E))) ∧ Grew w w' := by
 obtain ⟨x, hx⟩ : ∃ x, keyW b c = x := ⟨_, rfl⟩
 rw [hx]
 obtain ⟨z, hz⟩ : ∃ z, decide (x < E) = z := ⟨_, rfl⟩
 rw [hz]
 have HX := Lib.hid hx
 have HZ := Lib.hid hz
 have HE := Lib.hid hE
 clear hx hz hE
 go_enter Tryz.func133, Tryz.ntmps133
 go_upto_region 1 with fail
 obtain ⟨g, hg⟩ : ∃ g, w.heap.size = g := ⟨_, rfl⟩
 refine wp_worldx (fun wx => Blk wx w.heap.size quT (quRow h a b c d e).toArray ∧ Blk wx ga i8T #[.int .i64 E] ∧ Grew w wx) ⟨Blk.made _ _ _, HE.out.alloc_ _, (Grew.refl _).alloc _⟩ ?_
 rw [hg]
 rintro w2 ⟨h1, h2, h3⟩
 have HA := Lib.hid h1
 have HB := Lib.hid h2
 have HC := Lib.hid h3
 clear h1 h2 h3 HE
 refine wp_region_noPanic ?_
 refine wp_region_U (fun w' => Blk w' g quT (quRow h a b c d e).toArray ∧ Blk w' ga i8T #[.int .i64 E] ∧ Grew w2 w') [] [] (by kernel_rfl) (⟨HA.out.drew_, HB.out.drew_, (Grew.refl _).drew⟩) ?_
 intro hsh0
 skip
 refine anyU_tk 60 (i := 0) (v := ?_) rfl (fun _ _ _ h => h) (YieldsS.of_if (Or.inl ⟨by rfl, ?_⟩)) ?_
 rotate_left
 · (intro wS hSw; (try dsimp only at hSw); have a0 : wS.cell? ⟨g, 0, none⟩ = some (.int .u64 h) := hSw.1.val (i := 0) rfl; have a1 : wS.cell? ⟨g, 1, none⟩ = some (.int .u64 a) := hSw.1.val (i := 1) rfl; have a2 : wS.cell? ⟨g, 2, none⟩ = some (.int .i64 b) := hSw.1.val (i := 2) rfl; have a3 : wS.cell? ⟨g, 3, none⟩ = some (.int .i64 c) := hSw.1.val (i := 3) rfl; have a4 : wS.cell? ⟨g, 4, none⟩ = some (.int .i64 d) := hSw.1.val (i := 4) rfl; have a5 : wS.cell? ⟨g, 5, none⟩ = some (.int .i64 e) := hSw.1.val (i := 5) rfl; clear hSw; (first | (go_simp; done) | (go_simp; with_reducible rfl)))
 intro hsh1
 clear hsh0
 try simp only [Act.put, List.getElem_toArray, List.getElem_cons_zero, List.getElem_cons_succ, List.setIfInBounds_toArray, List.set_cons_zero, List.set_cons_succ]
 refine anyU_tk 60 (i := 1) (v := .int .i64 x) rfl (fun _ _ _ h => h) (YieldsS.of_call (by rfl) (f := 134) (args := #[quv h a b c d e]) (fun wS hSw => by first | rfl | (go_simp; done)) (fun wS hSw => ?_)) ?_
 · refine (q_key h a b c d e wS).mono ?_; rw [HX.out]; rintro e wn ⟨rfl, hb⟩; exact ⟨rfl, ⟨hSw.1.below_ hb.below hSw.1.size, hSw.2.1.below_ hb.below hSw.2.1.size, hSw.2.2.trans hb⟩, hb.below⟩
 intro hsh2
 clear hsh1
 try simp only [Act.put, List.getElem_toArray, List.getElem_cons_zero, List.getElem_cons_succ, List.setIfInBounds_toArray, List.set_cons_zero, List.set_cons_succ]
 refine anyU_tk 60 (i := 2) (v := ?_) rfl (fun _ _ _ h => h) (YieldsS.of_if (Or.inl ⟨by rfl, ?_⟩)) ?_
 rotate_left
 · (intro wS hSw; (try dsimp only at hSw); have a0 : wS.cell? ⟨ga, 0, none⟩ = some (.int .i64 E) := hSw.2.1.val (i := 0) rfl; clear hSw; (first | (go_simp; done) | (go_simp; with_reducible rfl)))
 intro hsh3
 clear hsh2
 try simp only [Act.put, List.getElem_toArray, List.getElem_cons_zero, List.getElem_cons_succ, List.setIfInBounds_toArray, List.set_cons_zero, List.set_cons_succ]
 refine anyU_tk 60 (i := 3) (v := ?_) rfl (fun _ _ _ h => h) (YieldsS.of_if (Or.inl ⟨by rfl, ?_⟩)) ?_
 rotate_left
 · (intro wS hSw; (try dsimp only at hSw); (first | (go_simp; done) | (go_simp; with_reducible rfl)))
 intro hsh4
 clear hsh3
 try simp only [Act.put, List.getElem_toArray, List.getElem_cons_zero, List.getElem_cons_succ, List.setIfInBounds_toArray, List.set_cons_zero, List.set_cons_succ]
 refine anyU_tk 60 (i := 4) (v := ?_) rfl (fun _ _ _ h => h) (YieldsS.of_if (Or.inl ⟨by rfl, ?_⟩)) ?_
 rotate_left
 · (intro wS hSw; (try dsimp only at hSw); (first | (go_simp; done) | (go_simp; with_reducible rfl)))
 intro hsh5
 clear hsh4
 try simp only [Act.put, List.getElem_toArray, List.getElem_cons_zero, List.getElem_cons_succ, List.setIfInBounds_toArray, List.set_cons_zero, List.set_cons_succ]
 refine anyU_done (by kernel_rfl) (fun w0 hS0 _ => ?_) _
 have HS := Lib.hid (HC.out.trans hS0.2.2)
 clear hS0
 refine NoPanic.normal ?_
 go_wp2
 go_ret
 refine ⟨?_, HS.out⟩
 rw [← HZ.out]
 rfl
theorem cells_x {w : World} {g k : Nat} {cur : Array Value} {h a b c d e : Int} (hb : Blk w g quT cur) (hx : ∀ j, j < 6 → cur[k * 6 + j]? = (quRow h a b c d e)[j]?) :
   w.cell? ⟨g, k * 6, none⟩ = some (.int .u64 h) ∧ w.cell? ⟨g, k * 6 + 1, none⟩ = some (.int .u64 a) ∧ w.cell? ⟨g, k * 6 + 2, none⟩ = some (.int .i64 b) ∧ w.cell? ⟨g, k * 6 + 3, none⟩ = some (.int .i64 c) ∧ w.cell? ⟨g, k * 6 + 4, none⟩ = some (.int .i64 d) ∧ w.cell? ⟨g, k * 6 + 5, none⟩ = some (.int .i64 e) := by
 have key : ∀ j, j < 6 → w.cell? ⟨g, k * 6 + j, none⟩ = (quRow h a b c d e)[j]? := fun j hj => by rw [hb.at_, hx j hj]
 exact ⟨key 0 (by omega), key 1 (by omega), key 2 (by omega), key 3 (by omega), key 4 (by omega), key 5 (by omega)⟩
set_option maxRecDepth 100000 in
set_option maxHeartbeats 8000000 in
theorem idx_own (E : Int) (ga g cap n : Nat) (w : World) (L : List Qu) (cur : Array Value) (hE : Blk w ga i8T #[.int .i64 E]) (hb : Blk w g quT cur) (hn : n = L.length) (hs : n ≤ 100000) (hx : ∀ i, i < L.length * 6 → cur[i]? = (flatU L)[i]?) :
   Calls Tryz.prog 187 #[.slice (some ⟨g, 0, none⟩) n cap, .func (.func 133) #[] #[.pointer (some ⟨ga, 0, none⟩)]] w fun e w' => Grew w w' ∧
     ((e = .returned (.int .i64 (-1)) ∧ ∀ k, k < n → ¬ loQ E (quAt L k)) ∨ ∃ i : Nat, i < n ∧ e = .returned (.int .i64 (i : Int)) ∧ loQ E (quAt L i) ∧ ∀ k, k < i → ¬ loQ E (quAt L k)) := by
 subst hn
 obtain ⟨n, hn⟩ : ∃ n, L.length = n := ⟨_, rfl⟩
 rw [hn] at hs ⊢
 have HN := Lib.hid hn
 have HX := Lib.hid hx
 have HB := Lib.hid hb
 have HE := Lib.hid hE
 clear hx hb hE hn
 go_enter Tryz.func187, Tryz.ntmps187
 go_wp2_with fail
 go_loopw [8] (fun s8 wr => ∃ k : Nat, k ≤ n ∧ s8 = .int .i64 (k : Int) ∧ (∀ j, j < k → ¬ loQ E (quAt L j)) ∧ Grew w wr) (fun i _ => n - (intOf i).toNat)
 case atStart => exact ⟨0, by omega, rfl, fun j hj => absurd hj (by omega), Grew.refl _⟩
 case round =>
   obtain ⟨k, hk, rfl, hno, hgr⟩ := hrel
   by_cases hkn : k < n
   · obtain ⟨x, hxx⟩ : ∃ x, L[k]! = x := ⟨_, rfl⟩
     have hkl : k < L.length := by rw [HN.out]; exact hkn
     obtain ⟨h, ⟨a, b, c, d, e⟩, ix⟩ := x
     have hrow : ∀ j, j < 6 → cur[k * 6 + j]? = (quRow h a b c d e)[j]? := fun j hj => by
       rw [HX.out _ (by omega), flatU_get L k j hkl hj, hxx]; rfl
     obtain ⟨c0, c1, c2, c3, c4, c5⟩ := cells_x (HB.out.below_ hgr.below HB.out.size) hrow
     have hEr := HE.out.below_ hgr.below HE.out.size
     have hkey : loQ E (quAt L k) ↔ keyW b c < E := by unfold loQ quAt; rw [hxx]; rfl
     have j1 : (k : Int) < (n : Int) := by omega
     have j2 : (0 : Int) ≤ (k : Int) := by omega
     have HNO := Lib.hid hno
     have HGR := Lib.hid hgr
     have HER := Lib.hid hEr
     have HKEY := Lib.hid hkey
     clear hno hgr hEr hkey hrow hxx hkl
     by_cases hc : keyW b c < E
     · have hd : decide (keyW b c < E) = true := decide_eq_true hc
       go_wp2_with (go_at_call 133; refine (cut_w h a b c d e E ga _ HER.out).mono ?_; rw [hd]; rintro e w1 ⟨rfl, hg1⟩)
       go_ret
       exact ⟨HGR.out.trans hg1, .inr ⟨k, hkn, rfl, HKEY.out.2 hc, HNO.out⟩⟩
     · have hd : decide (keyW b c < E) = false := decide_eq_false hc
       go_wp2_with (go_at_call 133; refine (cut_w h a b c d e E ga _ HER.out).mono ?_; rw [hd]; rintro e w1 ⟨rfl, hg1⟩)
       exact ⟨⟨k + 1, by omega, by go_num, fun j hj => by
         rcases Nat.lt_or_eq_of_le (Nat.le_of_lt_succ hj) with e1 | e1
         · exact HNO.out j e1
         · rw [e1]; exact fun h => absurd (HKEY.out.1 h) (Int.not_lt.2 hc), HGR.out.trans hg1⟩, by simp [intOf]; omega⟩
   · obtain rfl : k = n := by omega
     have HNO := Lib.hid hno
     have HGR := Lib.hid hgr
     clear hno hgr
     have j1 : ¬ (k : Int) < (k : Int) := by omega
     go_wp2_with fail
     go_ret
     exact ⟨HGR.out, .inl ⟨rfl, HNO.out⟩⟩
end Go.Proofs.YtcffeokbipjaoaaGreat
