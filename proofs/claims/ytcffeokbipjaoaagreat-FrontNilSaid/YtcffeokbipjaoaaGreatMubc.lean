/- Texts of this claim, one behind the other: Coz. -/
import Derived.Test.YtcffeokbipjaoaaGreatMuba
import Derived.Test.YtcffeokbipjaoaaGreatMubb
namespace Go.Proofs.YtcffeokbipjaoaaGreat
open Go.ChangeShapes Go.WideShapes Go.RowKit Kn
set_option linter.unusedVariables false
set_option linter.unusedSimpArgs false
theorem flatQ_get (V : Nat → Int) (R : Nat → Rq) : ∀ (xs : List Nat) (k j : Nat) (hk : k < xs.length), j < 6 → (flatQ V R xs)[k * 6 + j]? = (qRow (V xs[k]) (R xs[k]))[j]?
 | [], k, j, hk, _ => by simp at hk
 | a :: xs, 0, j, _, hj => by
   unfold flatQ
   rw [List.flatMap_cons, List.getElem?_append_left (by simp [qRow]; omega)]
   simp
 | a :: xs, k + 1, j, hk, hj => by
   have h6 : (qRow (V a) (R a)).length = 6 := rfl
   unfold flatQ
   rw [List.flatMap_cons, List.getElem?_append_right (by rw [h6]; omega), h6, show (k + 1) * 6 + j - 6 = k * 6 + j from by omega]
   exact flatQ_get V R xs k j (by simpa using hk) hj
theorem qrow_of {W : World} {base : Nat} {v : Value} {V : Nat → Int} {R : Nat → Rq} {xs : List Nat} (h : W.ownsRow base quT 6 v xs.length (flatQ V R xs)) :
   ∃ A c, v = .slice A xs.length c ∧ (0 < xs.length → ∃ g, A = some ⟨g, 0, none⟩ ∧ base ≤ g ∧ g < W.heap.size ∧ ∀ k (hk : k < xs.length) j, j < 6 → W.cell? ⟨g, k * 6 + j, none⟩ = (qRow (V xs[k]) (R xs[k]))[j]?) := by
 have h' := h
 rcases h.2 with ⟨rfl, h0⟩ | ⟨g, cap, cur, rfl, hb, hg, _⟩
 · exact ⟨none, 0, by rw [h0], fun hp => by omega⟩
 · refine ⟨_, _, rfl, fun hp => ⟨g, rfl, hb, Blk.size (cs := cur) hg, fun k hk j hj => ?_⟩⟩
   rw [World.ownsRow.cellAt h' (k * 6 + j) (by have : (k + 1) * 6 ≤ xs.length * 6 := Nat.mul_le_mul_right _ hk; omega)]
   exact flatQ_get V R xs k j hk hj
def phS (S : Cor) (ph : Int) : Cor := { S with ph := ph }
open Classical in
noncomputable def endS (S : Cor) : Cor := if S.ph ≠ 1 ∨ (S.clk < S.lim ∧ S.q.m < S.n) then S else phS (settleAll S 6 (allT S.q.L S.N)) 2
section
variable {w w' w'' : World} {p q gc gm l g b : Nat} {r r' : Option Nat} {O Oq Oq' O1 : Nat → Prop} {S S' : Cor} {T : TypeId} {cs : Array Value}
theorem CoreB.ph9 (h : CoreB w p q gc gm l r Oq S) {ph : Int} (hp : ph = 0 ∨ ph = 1 ∨ ph = 2) : CoreB (w.setCell ⟨p, 23, none⟩ (.int .u8 ph)) p q gc gm l r Oq (phS S ph) := by
 refine h.set_ 23 _ rfl ?_ rfl rfl rfl rfl rfl rfl rfl
 obtain ⟨b1, b2, b3, b4, b5, b6, b7, b8, b9, b10, b11, b12, b13, b14, b15, b16, b17⟩ := h.ok
 exact ⟨b1, b2, b3, b4, b5, b6, b7, b8, b9, b10, hp, b12, b13, b14, b15, b16, b17⟩
theorem CoreL.ph9 (h : CoreL w p O S) {ph : Int} (hp : ph = 0 ∨ ph = 1 ∨ ph = 2) : CoreL (w.setCell ⟨p, 23, none⟩ (.int .u8 ph)) p O (phS S ph) := by
 obtain ⟨q, gc, gm, l, r, Oq, h1, h2⟩ := h.cells
 exact ⟨⟨q, gc, gm, l, r, Oq, h1.ph9 hp, h2⟩⟩
theorem CoreL.own_p (h : CoreL w p O S) : O p := by obtain ⟨q, gc, gm, l, r, Oq, h1, h2⟩ := h.cells; exact (h2 p).2 (.inl rfl)
theorem CoreL.all_ (h : CoreL w p O S) : (allT S.q.L S.N).Nodup ∧ (∀ i, i ∈ allT S.q.L S.N → i < S.n ∧ S.q.T i = true ∧ S.q.V i = S.q.H i) ∧ (allT S.q.L S.N).length ≤ 1024 := by
 refine ⟨h.lists.all_nd _ (Nat.le_refl _), fun i hi => ?_, ?_⟩
 · obtain ⟨r, hr, hx⟩ := allT_mem.1 hi
   have := h.mem hr hx
   exact ⟨this.1, this.2.1, this.2.2.2⟩
 · have := h.lists.all_len
   have := h.ok.nm
   omega
set_option maxRecDepth 100000 in
set_option maxHeartbeats 8000000 in
theorem co_end_b (h : CoreL w p O S) (hK1 : S.K ≤ 1000) (hph : S.ph = 1) (hc : S.lim ≤ S.clk) :
   Calls Tryz.prog 47 #[.pointer (some ⟨p, 0, none⟩)] w fun e w' => e = .returned (.tuple #[]) ∧ CStep w p O (phS (settleAll S 6 (allT S.q.L S.N)) 2) w' := by
 obtain ⟨q, gc, gm, l, r, Oq, h1, hO⟩ := h.cells
 have hp : p < w.heap.size := h1.head.size
 have hOs : ∀ k, O k → k < w.heap.size := fun k hk => h.lt hk
 obtain ⟨x, hx⟩ : ∃ x, (S.n : Int) - S.q.m = x := ⟨_, rfl⟩
 have hc' : decide (S.clk < S.lim) = false := decide_eq_false (by omega)
 have hc2 : ¬ S.clk < S.lim := by omega
 have H1 := Lib.hid h1
 have HOS := Lib.hid hOs
 have HC := Lib.hid h
 have HX := Lib.hid hx
 have HPH := Lib.hid hph
 clear h h1 hO hOs hx hph
 go_enter Tryz.func47, Tryz.ntmps47
 go_upto_region 0 with fail
 refine wp_region_noPanic ?_
 refine wp_region_U (fun w' => CoreB w' p q gc gm l r Oq S ∧ Below w.heap.size w w') [] [] (by kernel_rfl) (⟨H1.out.below ((Below.refl _ _).drew), (Below.refl _ _).drew⟩) ?_
 intro hsh0
 skip
 refine anyU_tk 60 (i := 0) (v := ?_) rfl (fun _ _ _ h => h) (YieldsS.of_if (Or.inl ⟨by rfl, ?_⟩)) ?_
 rotate_left
 · (intro wS hSw; (try dsimp only at hSw); (first | (go_simp; done) | (go_simp; with_reducible rfl)))
 intro hsh1
 clear hsh0
 try simp only [Act.put, List.getElem_toArray, List.getElem_cons_zero, List.getElem_cons_succ, List.setIfInBounds_toArray, List.set_cons_zero, List.set_cons_succ]
 refine anyU_tk 60 (i := 1) (v := ?_) rfl (fun _ _ _ h => h) (YieldsS.of_if (Or.inl ⟨by rfl, ?_⟩)) ?_
 rotate_left
 · (intro wS hSw; (try dsimp only at hSw); (first | (go_simp; done) | (go_simp; with_reducible rfl)))
 intro hsh2
 clear hsh1
 try simp only [Act.put, List.getElem_toArray, List.getElem_cons_zero, List.getElem_cons_succ, List.setIfInBounds_toArray, List.set_cons_zero, List.set_cons_succ]
 refine anyU_tk 60 (i := 2) (v := ?_) rfl (fun _ _ _ h => h) (YieldsS.of_if (Or.inl ⟨by rfl, ?_⟩)) ?_
 rotate_left
 · (intro wS hSw; (try dsimp only at hSw); (first | (go_simp; done) | (go_simp; with_reducible rfl)))
 intro hsh3
 clear hsh2
 try simp only [Act.put, List.getElem_toArray, List.getElem_cons_zero, List.getElem_cons_succ, List.setIfInBounds_toArray, List.set_cons_zero, List.set_cons_succ]
 refine anyU_tk 60 (i := 3) (v := ?_) rfl (fun _ _ _ h => h) (YieldsS.of_if (Or.inl ⟨by rfl, ?_⟩)) ?_
 rotate_left
 · (intro wS hSw; (try dsimp only at hSw); have c23 := hSw.1.c23; rw [HPH.out] at c23; clear hSw; (first | (go_simp; done) | (go_simp; with_reducible rfl)))
 intro hsh4
 clear hsh3
 try simp only [Act.put, List.getElem_toArray, List.getElem_cons_zero, List.getElem_cons_succ, List.setIfInBounds_toArray, List.set_cons_zero, List.set_cons_succ]
 refine anyU_tk 60 (i := 4) (v := ?_) rfl (fun _ _ _ h => h) (YieldsS.of_if (Or.inl ⟨by rfl, ?_⟩)) ?_
 rotate_left
 · (intro wS hSw; (try dsimp only at hSw); (first | (go_simp; done) | (go_simp; with_reducible rfl)))
 intro hsh5
 clear hsh4
 try simp only [Act.put, List.getElem_toArray, List.getElem_cons_zero, List.getElem_cons_succ, List.setIfInBounds_toArray, List.set_cons_zero, List.set_cons_succ]
 refine anyU_tk 60 (i := 5) (v := ?_) rfl (fun _ _ _ h => h) (YieldsS.of_if (Or.inl ⟨by rfl, ?_⟩)) ?_
 rotate_left
 · (intro wS hSw; (try dsimp only at hSw); (first | (go_simp; done) | (go_simp; with_reducible rfl)))
 intro hsh6
 clear hsh5
 try simp only [Act.put, List.getElem_toArray, List.getElem_cons_zero, List.getElem_cons_succ, List.setIfInBounds_toArray, List.set_cons_zero, List.set_cons_succ]
 refine anyU_tk 60 (i := 6) (v := ?_) rfl (fun _ _ _ h => h) (YieldsS.of_if (Or.inl ⟨by rfl, ?_⟩)) ?_
 rotate_left
 · (intro wS hSw; (try dsimp only at hSw); (first | (go_simp; done) | (go_simp; with_reducible rfl)))
 intro hsh7
 clear hsh6
 try simp only [Act.put, List.getElem_toArray, List.getElem_cons_zero, List.getElem_cons_succ, List.setIfInBounds_toArray, List.set_cons_zero, List.set_cons_succ]
 refine anyU_tk 60 (i := 7) (v := ?_) rfl (fun _ _ _ h => h) (YieldsS.of_if (Or.inl ⟨by rfl, ?_⟩)) ?_
 rotate_left
 · (intro wS hSw; (try dsimp only at hSw); (first | (go_simp; done) | (go_simp; with_reducible rfl)))
 intro hsh8
 clear hsh7
 try simp only [Act.put, List.getElem_toArray, List.getElem_cons_zero, List.getElem_cons_succ, List.setIfInBounds_toArray, List.set_cons_zero, List.set_cons_succ]
 refine anyU_tk 60 (i := 8) (v := ?_) rfl (fun _ _ _ h => h) (YieldsS.of_if (Or.inl ⟨by rfl, ?_⟩)) ?_
 rotate_left
 · (intro wS hSw; (try dsimp only at hSw); (first | (go_simp; done) | (go_simp; with_reducible rfl)))
 intro hsh9
 clear hsh8
 try simp only [Act.put, List.getElem_toArray, List.getElem_cons_zero, List.getElem_cons_succ, List.setIfInBounds_toArray, List.set_cons_zero, List.set_cons_succ]
 refine anyU_tk 60 (i := 9) (v := ?_) rfl (fun _ _ _ h => h) (YieldsS.of_if (Or.inl ⟨by rfl, ?_⟩)) ?_
 rotate_left
 · (intro wS hSw; (try dsimp only at hSw); have c25 := hSw.1.c25; clear hSw; (first | (go_simp; done) | (go_simp; with_reducible rfl)))
 intro hsh10
 clear hsh9
 try simp only [Act.put, List.getElem_toArray, List.getElem_cons_zero, List.getElem_cons_succ, List.setIfInBounds_toArray, List.set_cons_zero, List.set_cons_succ]
 refine anyU_tk 60 (i := 10) (v := ?_) rfl (fun _ _ _ h => h) (YieldsS.of_if (Or.inl ⟨by rfl, ?_⟩)) ?_
 rotate_left
 · (intro wS hSw; (try dsimp only at hSw); (first | (go_simp; done) | (go_simp; with_reducible rfl)))
 intro hsh11
 clear hsh10
 try simp only [Act.put, List.getElem_toArray, List.getElem_cons_zero, List.getElem_cons_succ, List.setIfInBounds_toArray, List.set_cons_zero, List.set_cons_succ]
 refine anyU_tk 60 (i := 11) (v := ?_) rfl (fun _ _ _ h => h) (YieldsS.of_if (Or.inl ⟨by rfl, ?_⟩)) ?_
 rotate_left
 · (intro wS hSw; (try dsimp only at hSw); (first | (go_simp; done) | (go_simp; with_reducible rfl)))
 intro hsh12
 clear hsh11
 try simp only [Act.put, List.getElem_toArray, List.getElem_cons_zero, List.getElem_cons_succ, List.setIfInBounds_toArray, List.set_cons_zero, List.set_cons_succ]
 refine anyU_tk 60 (i := 12) (v := ?_) rfl (fun _ _ _ h => h) (YieldsS.of_if (Or.inl ⟨by rfl, ?_⟩)) ?_
 rotate_left
 · (intro wS hSw; (try dsimp only at hSw); (first | (go_simp; done) | (go_simp; with_reducible rfl)))
 intro hsh13
 clear hsh12
 try simp only [Act.put, List.getElem_toArray, List.getElem_cons_zero, List.getElem_cons_succ, List.setIfInBounds_toArray, List.set_cons_zero, List.set_cons_succ]
 refine anyU_tk 60 (i := 13) (v := ?_) rfl (fun _ _ _ h => h) (YieldsS.of_if (Or.inl ⟨by rfl, ?_⟩)) ?_
 rotate_left
 · (intro wS hSw; (try dsimp only at hSw); have c24 := hSw.1.c24; clear hSw; (first | (go_simp; done) | (go_simp; with_reducible rfl)))
 intro hsh14
 clear hsh13
 try simp only [Act.put, List.getElem_toArray, List.getElem_cons_zero, List.getElem_cons_succ, List.setIfInBounds_toArray, List.set_cons_zero, List.set_cons_succ]
 refine anyU_tk 60 (i := 14) (v := ?_) rfl (fun _ _ _ h => h) (YieldsS.of_if (Or.inl ⟨by rfl, ?_⟩)) ?_
 rotate_left
 · (intro wS hSw; (try dsimp only at hSw); (first | (go_simp; done) | (go_simp; with_reducible rfl)))
 intro hsh15
 clear hsh14
 try simp only [Act.put, List.getElem_toArray, List.getElem_cons_zero, List.getElem_cons_succ, List.setIfInBounds_toArray, List.set_cons_zero, List.set_cons_succ]
 refine anyU_tk 60 (i := 15) (v := ?_) rfl (fun _ _ _ h => h) (YieldsS.of_if (Or.inl ⟨by rfl, ?_⟩)) ?_
 rotate_left
 · (intro wS hSw; (try dsimp only at hSw); (first | (go_simp; done) | (go_simp; with_reducible rfl)))
 intro hsh16
 clear hsh15
 try simp only [Act.put, List.getElem_toArray, List.getElem_cons_zero, List.getElem_cons_succ, List.setIfInBounds_toArray, List.set_cons_zero, List.set_cons_succ]
 refine anyU_tk 60 (i := 16) (v := undef) rfl (fun _ _ _ h => h) (YieldsS.of_if (Or.inr ⟨by rfl, rfl⟩)) ?_
 intro hsh17
 clear hsh16
 try simp only [Act.put, List.getElem_toArray, List.getElem_cons_zero, List.getElem_cons_succ, List.setIfInBounds_toArray, List.set_cons_zero, List.set_cons_succ]
 refine anyU_tk 60 (i := 17) (v := undef) rfl (fun _ _ _ h => h) (YieldsS.of_if (Or.inr ⟨by rfl, rfl⟩)) ?_
 intro hsh18
 clear hsh17
 try simp only [Act.put, List.getElem_toArray, List.getElem_cons_zero, List.getElem_cons_succ, List.setIfInBounds_toArray, List.set_cons_zero, List.set_cons_succ]
 refine anyU_tk 60 (i := 18) (v := undef) rfl (fun _ _ _ h => h) (YieldsS.of_if (Or.inr ⟨by rfl, rfl⟩)) ?_
 intro hsh19
 clear hsh18
 try simp only [Act.put, List.getElem_toArray, List.getElem_cons_zero, List.getElem_cons_succ, List.setIfInBounds_toArray, List.set_cons_zero, List.set_cons_succ]
 refine anyU_tk 60 (i := 19) (v := undef) rfl (fun _ _ _ h => h) (YieldsS.of_if (Or.inr ⟨by rfl, rfl⟩)) ?_
 intro hsh20
 clear hsh19
 try simp only [Act.put, List.getElem_toArray, List.getElem_cons_zero, List.getElem_cons_succ, List.setIfInBounds_toArray, List.set_cons_zero, List.set_cons_succ]
 refine anyU_tk 60 (i := 20) (v := undef) rfl (fun _ _ _ h => h) (YieldsS.of_if (Or.inr ⟨by rfl, rfl⟩)) ?_
 intro hsh21
 clear hsh20
 try simp only [Act.put, List.getElem_toArray, List.getElem_cons_zero, List.getElem_cons_succ, List.setIfInBounds_toArray, List.set_cons_zero, List.set_cons_succ]
 refine anyU_tk 60 (i := 21) (v := undef) rfl (fun _ _ _ h => h) (YieldsS.of_if (Or.inr ⟨by rfl, rfl⟩)) ?_
 intro hsh22
 clear hsh21
 try simp only [Act.put, List.getElem_toArray, List.getElem_cons_zero, List.getElem_cons_succ, List.setIfInBounds_toArray, List.set_cons_zero, List.set_cons_succ]
 refine anyU_tk 60 (i := 22) (v := ?_) rfl (fun _ _ _ h => h) (YieldsS.of_if (Or.inl ⟨by rfl, ?_⟩)) ?_
 rotate_left
 · (intro wS hSw; (try dsimp only at hSw); (first | (go_simp; done) | (go_simp; with_reducible rfl)))
 intro hsh23
 clear hsh22
 try simp only [Act.put, List.getElem_toArray, List.getElem_cons_zero, List.getElem_cons_succ, List.setIfInBounds_toArray, List.set_cons_zero, List.set_cons_succ]
 refine anyU_tk 60 (i := 23) (v := ?_) rfl (fun _ _ _ h => h) (YieldsS.of_if (Or.inl ⟨by rfl, ?_⟩)) ?_
 rotate_left
 · (intro wS hSw; (try dsimp only at hSw); (first | (go_simp; done) | (go_simp; with_reducible rfl)))
 intro hsh24
 clear hsh23
 try simp only [Act.put, List.getElem_toArray, List.getElem_cons_zero, List.getElem_cons_succ, List.setIfInBounds_toArray, List.set_cons_zero, List.set_cons_succ]
 refine anyU_done (by kernel_rfl) (fun w0 hS0 _ => ?_) _
 have HB0 := Lib.hid hS0.2
 have HL0 := Lib.hid (HC.out.below hS0.2)
 clear hS0
 refine NoPanic.normal ?_
 go_wp2_with fail
 refine (co_allq HL0.out hK1).mono ?_
 obtain ⟨D, hD⟩ : ∃ D, allT S.q.L S.N = D := ⟨_, rfl⟩
 obtain ⟨d1, d2, d3⟩ := HC.out.all_
 rw [hD] at d1 d2 d3 ⊢
 rintro e w1 ⟨v, rfl, how, hb1⟩
 obtain ⟨A, c, rfl, hrow⟩ := qrow_of how
 obtain ⟨m, hm⟩ : ∃ m, D.length = m := ⟨_, rfl⟩
 rw [hm]
 have hm1 : m ≤ 1024 := by omega
 have hm0 : (0 : Int) ≤ (m : Int) := by omega
 obtain ⟨S1, hS1⟩ : ∃ s, S = s := ⟨_, rfl⟩
 have HROW := Lib.hid hrow
 have HM := Lib.hid hm
 have HD := Lib.hid (And.intro d1 (And.intro d2 d3))
 have HL1 := Lib.hid (HL0.out.below hb1)
 have HB1 := Lib.hid (HB0.out.trans (hb1.mono HB0.out.size))
 have hw0 : ∀ k, O k → k < w0.heap.size := fun k hk => by have := HOS.out k hk; have := HB0.out.size; omega
 have HOS' := Lib.hid hw0
 clear d1 d2 d3 how hrow hm hb1 hw0 HOS
 have HOS := HOS'
 clear HOS'
 have HDD := Lib.hid hD
 clear hD
 subst hS1
 go_wp2_with fail
 go_loopw [31] (fun sl wr => ∃ k : Nat, k ≤ m ∧ sl = .int .i64 (k : Int) ∧ CStep w1 p O (settleAll S 6 (D.take k)) wr) (fun i _ => m - (intOf i).toNat)
 case atStart => exact ⟨0, Nat.zero_le _, rfl, CStep.refl_ HL1.out (Below.refl _ _)⟩
 case round =>
   obtain ⟨k, hk, rfl, hst⟩ := hrel
   have hm2 := HM.out
   by_cases hkm : k < m
   · have hks : k < D.length := by omega
     obtain ⟨O2, hL, hO1, hK1'⟩ := hst
     have hlk := settleAll_like 6 (D.take k) S
     obtain ⟨d1, d2, d3⟩ := HD.out
     have hdi := d2 D[k] (List.getElem_mem hks)
     have hT := settleAll_T 6 D[k] (D.take k) S (nodup_at d1 hks) hdi.2.1
     obtain ⟨gd, rfl, hgb, hgs, hcell⟩ := HROW.out (by omega)
     obtain ⟨x, hx⟩ : ∃ x, S.q.V D[k] = x := ⟨_, rfl⟩
     have hg : (settleAll S 6 (D.take k)).q.H D[k] = x := by rw [hlk.H, ← hdi.2.2, hx]
     have hgo : ¬ O gd := fun hc => by have := HOS.out gd hc; omega
     obtain ⟨⟨ra, rb, rc, rd, re⟩, hr⟩ : ∃ r, S.q.R D[k] = r := ⟨_, rfl⟩
     have hx0 : wr.cell? ⟨gd, k * 6, none⟩ = some (.int .u64 x) := (hK1'.cell_ hgs hgo).trans (by have := hcell k hks 0 (by omega); rw [hx, hr] at this; exact this)
     have hx1 : wr.cell? ⟨gd, k * 6 + 1, none⟩ = some (.int .u64 ra) := (hK1'.cell_ hgs hgo).trans (by have := hcell k hks 1 (by omega); rw [hx, hr] at this; exact this)
     have hx2 : wr.cell? ⟨gd, k * 6 + 2, none⟩ = some (.int .i64 rb) := (hK1'.cell_ hgs hgo).trans (by have := hcell k hks 2 (by omega); rw [hx, hr] at this; exact this)
     have hx3 : wr.cell? ⟨gd, k * 6 + 3, none⟩ = some (.int .i64 rc) := (hK1'.cell_ hgs hgo).trans (by have := hcell k hks 3 (by omega); rw [hx, hr] at this; exact this)
     have hx4 : wr.cell? ⟨gd, k * 6 + 4, none⟩ = some (.int .i64 rd) := (hK1'.cell_ hgs hgo).trans (by have := hcell k hks 4 (by omega); rw [hx, hr] at this; exact this)
     have hx5 : wr.cell? ⟨gd, k * 6 + 5, none⟩ = some (.int .i64 re) := (hK1'.cell_ hgs hgo).trans (by have := hcell k hks 5 (by omega); rw [hx, hr] at this; exact this)
     have hnx := settleAll_next S 6 D k hks
     have j1 : (k : Int) < (m : Int) := by omega
     have j2 : (0 : Int) ≤ (k : Int) := by omega
     have HHL := Lib.hid hL
     have HO1 := Lib.hid hO1
     have HK1 := Lib.hid hK1'
     have HLK := Lib.hid hlk
     have HDI := Lib.hid hdi
     have HT := Lib.hid hT
     have HG := Lib.hid hg
     have HNX := Lib.hid hnx
     clear hL hO1 hK1' hlk d1 d2 d3 hdi hT hg hcell hgb hgs hgo hnx hr hx
     go_wp2_with fail
     have hal : Below wr.heap.size wr (wr.alloc (.cells #[.int .u64 x, .int .u64 ra, .int .i64 rb, .int .i64 rc, .int .i64 rd, .int .i64 re] quT)) := (Below.refl _ _).alloc (Nat.le_refl _) _
     refine (co_settle (why := 6) (HHL.out.below hal) (by rw [HLK.out.n]; exact HDI.out.1) HT.out HG.out (by rw [HLK.out.K]; exact hK1) (by omega) (by omega)).mono ?_
     obtain ⟨ov, hov⟩ : ∃ ov, (ocOf (settleAll S 6 (D.take k)) D[k] 6).v = ov := ⟨_, rfl⟩
     rw [hov, ← HNX.out]
     rintro e w2 ⟨rfl, hs2⟩
     have hs3 := CStep.then_ HO1.out HK1.out (CStep.after hal hs2)
     have HS3 := Lib.hid hs3
     clear hs2 hs3 hov hal
     go_wp2_with fail
     exact ⟨⟨k + 1, by omega, by go_num, HS3.out⟩, by simp [intOf]; omega⟩
   · obtain rfl : k = m := by omega
     rw [show D.take k = D by rw [← hm2]; exact List.take_length] at hst
     have HSTE := Lib.hid hst
     clear hst hm2
     have j1 : ¬ (k : Int) < (k : Int) := by omega
     obtain ⟨O2, hL, hO1, hK1'⟩ := HSTE.out
     obtain ⟨q2, gc2, gm2, l2, r2, Oq2, hB2, hO2⟩ := hL.cells
     have c23 := hB2.c23
     have f23 := hB2.head.free 23
     have HL2 := Lib.hid hL
     have HO1 := Lib.hid hO1
     have HK1 := Lib.hid hK1'
     clear hL hO1 hK1' hB2 hO2
     go_wp2_with fail
     have hop := HL2.out.own_p
     have hL3 := HL2.out.ph9 (ph := 2) (by omega)
     have hfin : CStep w p O (phS (settleAll S 6 (allT S.q.L S.N)) 2) (wr.setCell ⟨p, 23, none⟩ (.int .u8 2)) := by
       rw [HDD.out]
       refine CStep.after HB1.out ⟨O2, hL3, HO1.out, kept_step (O' := O2) HK1.out HO1.out ((Kept.refl O2 wr).set_ (p := ⟨p, 23, none⟩) (.inl hop) _)⟩
     exact bodyPost_end (results_none rfl _ _ _) rfl ⟨rfl, hfin⟩
set_option maxRecDepth 100000 in
set_option maxHeartbeats 8000000 in
theorem co_end_a (h : CoreL w p O S) (hK1 : S.K ≤ 1000) (hph : S.ph = 1) (hc : S.clk < S.lim) (hq : ¬ S.q.m < S.n) :
   Calls Tryz.prog 47 #[.pointer (some ⟨p, 0, none⟩)] w fun e w' => e = .returned (.tuple #[]) ∧ CStep w p O (phS (settleAll S 6 (allT S.q.L S.N)) 2) w' := by
 obtain ⟨q, gc, gm, l, r, Oq, h1, hO⟩ := h.cells
 have hp : p < w.heap.size := h1.head.size
 have hOs : ∀ k, O k → k < w.heap.size := fun k hk => h.lt hk
 obtain ⟨x, hx⟩ : ∃ x, (S.n : Int) - S.q.m = x := ⟨_, rfl⟩
 have hx2 : decide (0 < x) = false := decide_eq_false (by omega)
 have hx3 : decide (S.clk < S.lim) = true := decide_eq_true hc
 have hx4 : ¬ 0 < x := by omega
 have H1 := Lib.hid h1
 have HOS := Lib.hid hOs
 have HC := Lib.hid h
 have HX := Lib.hid hx
 have HPH := Lib.hid hph
 clear h h1 hO hOs hx hph
 go_enter Tryz.func47, Tryz.ntmps47
 go_upto_region 0 with fail
 refine wp_region_noPanic ?_
 refine wp_region_U (fun w' => CoreB w' p q gc gm l r Oq S ∧ Below w.heap.size w w') [] [] (by kernel_rfl) (⟨H1.out.below ((Below.refl _ _).drew), (Below.refl _ _).drew⟩) ?_
 intro hsh0
 skip
 refine anyU_tk 60 (i := 0) (v := ?_) rfl (fun _ _ _ h => h) (YieldsS.of_if (Or.inl ⟨by rfl, ?_⟩)) ?_
 rotate_left
 · (intro wS hSw; (try dsimp only at hSw); (first | (go_simp; done) | (go_simp; with_reducible rfl)))
 intro hsh1
 clear hsh0
 try simp only [Act.put, List.getElem_toArray, List.getElem_cons_zero, List.getElem_cons_succ, List.setIfInBounds_toArray, List.set_cons_zero, List.set_cons_succ]
 refine anyU_tk 60 (i := 1) (v := ?_) rfl (fun _ _ _ h => h) (YieldsS.of_if (Or.inl ⟨by rfl, ?_⟩)) ?_
 rotate_left
 · (intro wS hSw; (try dsimp only at hSw); (first | (go_simp; done) | (go_simp; with_reducible rfl)))
 intro hsh2
 clear hsh1
 try simp only [Act.put, List.getElem_toArray, List.getElem_cons_zero, List.getElem_cons_succ, List.setIfInBounds_toArray, List.set_cons_zero, List.set_cons_succ]
 refine anyU_tk 60 (i := 2) (v := ?_) rfl (fun _ _ _ h => h) (YieldsS.of_if (Or.inl ⟨by rfl, ?_⟩)) ?_
 rotate_left
 · (intro wS hSw; (try dsimp only at hSw); (first | (go_simp; done) | (go_simp; with_reducible rfl)))
 intro hsh3
 clear hsh2
 try simp only [Act.put, List.getElem_toArray, List.getElem_cons_zero, List.getElem_cons_succ, List.setIfInBounds_toArray, List.set_cons_zero, List.set_cons_succ]
 refine anyU_tk 60 (i := 3) (v := ?_) rfl (fun _ _ _ h => h) (YieldsS.of_if (Or.inl ⟨by rfl, ?_⟩)) ?_
 rotate_left
 · (intro wS hSw; (try dsimp only at hSw); have c23 := hSw.1.c23; rw [HPH.out] at c23; clear hSw; (first | (go_simp; done) | (go_simp; with_reducible rfl)))
 intro hsh4
 clear hsh3
 try simp only [Act.put, List.getElem_toArray, List.getElem_cons_zero, List.getElem_cons_succ, List.setIfInBounds_toArray, List.set_cons_zero, List.set_cons_succ]
 refine anyU_tk 60 (i := 4) (v := ?_) rfl (fun _ _ _ h => h) (YieldsS.of_if (Or.inl ⟨by rfl, ?_⟩)) ?_
 rotate_left
 · (intro wS hSw; (try dsimp only at hSw); (first | (go_simp; done) | (go_simp; with_reducible rfl)))
 intro hsh5
 clear hsh4
 try simp only [Act.put, List.getElem_toArray, List.getElem_cons_zero, List.getElem_cons_succ, List.setIfInBounds_toArray, List.set_cons_zero, List.set_cons_succ]
 refine anyU_tk 60 (i := 5) (v := ?_) rfl (fun _ _ _ h => h) (YieldsS.of_if (Or.inl ⟨by rfl, ?_⟩)) ?_
 rotate_left
 · (intro wS hSw; (try dsimp only at hSw); (first | (go_simp; done) | (go_simp; with_reducible rfl)))
 intro hsh6
 clear hsh5
 try simp only [Act.put, List.getElem_toArray, List.getElem_cons_zero, List.getElem_cons_succ, List.setIfInBounds_toArray, List.set_cons_zero, List.set_cons_succ]
 refine anyU_tk 60 (i := 6) (v := ?_) rfl (fun _ _ _ h => h) (YieldsS.of_if (Or.inl ⟨by rfl, ?_⟩)) ?_
 rotate_left
 · (intro wS hSw; (try dsimp only at hSw); (first | (go_simp; done) | (go_simp; with_reducible rfl)))
 intro hsh7
 clear hsh6
 try simp only [Act.put, List.getElem_toArray, List.getElem_cons_zero, List.getElem_cons_succ, List.setIfInBounds_toArray, List.set_cons_zero, List.set_cons_succ]
 refine anyU_tk 60 (i := 7) (v := ?_) rfl (fun _ _ _ h => h) (YieldsS.of_if (Or.inl ⟨by rfl, ?_⟩)) ?_
 rotate_left
 · (intro wS hSw; (try dsimp only at hSw); (first | (go_simp; done) | (go_simp; with_reducible rfl)))
 intro hsh8
 clear hsh7
 try simp only [Act.put, List.getElem_toArray, List.getElem_cons_zero, List.getElem_cons_succ, List.setIfInBounds_toArray, List.set_cons_zero, List.set_cons_succ]
 refine anyU_tk 60 (i := 8) (v := ?_) rfl (fun _ _ _ h => h) (YieldsS.of_if (Or.inl ⟨by rfl, ?_⟩)) ?_
 rotate_left
 · (intro wS hSw; (try dsimp only at hSw); (first | (go_simp; done) | (go_simp; with_reducible rfl)))
 intro hsh9
 clear hsh8
 try simp only [Act.put, List.getElem_toArray, List.getElem_cons_zero, List.getElem_cons_succ, List.setIfInBounds_toArray, List.set_cons_zero, List.set_cons_succ]
 refine anyU_tk 60 (i := 9) (v := ?_) rfl (fun _ _ _ h => h) (YieldsS.of_if (Or.inl ⟨by rfl, ?_⟩)) ?_
 rotate_left
 · (intro wS hSw; (try dsimp only at hSw); have c25 := hSw.1.c25; clear hSw; (first | (go_simp; done) | (go_simp; with_reducible rfl)))
 intro hsh10
 clear hsh9
 try simp only [Act.put, List.getElem_toArray, List.getElem_cons_zero, List.getElem_cons_succ, List.setIfInBounds_toArray, List.set_cons_zero, List.set_cons_succ]
 refine anyU_tk 60 (i := 10) (v := ?_) rfl (fun _ _ _ h => h) (YieldsS.of_if (Or.inl ⟨by rfl, ?_⟩)) ?_
 rotate_left
 · (intro wS hSw; (try dsimp only at hSw); (first | (go_simp; done) | (go_simp; with_reducible rfl)))
 intro hsh11
 clear hsh10
 try simp only [Act.put, List.getElem_toArray, List.getElem_cons_zero, List.getElem_cons_succ, List.setIfInBounds_toArray, List.set_cons_zero, List.set_cons_succ]
 refine anyU_tk 60 (i := 11) (v := ?_) rfl (fun _ _ _ h => h) (YieldsS.of_if (Or.inl ⟨by rfl, ?_⟩)) ?_
 rotate_left
 · (intro wS hSw; (try dsimp only at hSw); (first | (go_simp; done) | (go_simp; with_reducible rfl)))
 intro hsh12
 clear hsh11
 try simp only [Act.put, List.getElem_toArray, List.getElem_cons_zero, List.getElem_cons_succ, List.setIfInBounds_toArray, List.set_cons_zero, List.set_cons_succ]
 refine anyU_tk 60 (i := 12) (v := ?_) rfl (fun _ _ _ h => h) (YieldsS.of_if (Or.inl ⟨by rfl, ?_⟩)) ?_
 rotate_left
 · (intro wS hSw; (try dsimp only at hSw); (first | (go_simp; done) | (go_simp; with_reducible rfl)))
 intro hsh13
 clear hsh12
 try simp only [Act.put, List.getElem_toArray, List.getElem_cons_zero, List.getElem_cons_succ, List.setIfInBounds_toArray, List.set_cons_zero, List.set_cons_succ]
 refine anyU_tk 60 (i := 13) (v := ?_) rfl (fun _ _ _ h => h) (YieldsS.of_if (Or.inl ⟨by rfl, ?_⟩)) ?_
 rotate_left
 · (intro wS hSw; (try dsimp only at hSw); have c24 := hSw.1.c24; clear hSw; (first | (go_simp; done) | (go_simp; with_reducible rfl)))
 intro hsh14
 clear hsh13
 try simp only [Act.put, List.getElem_toArray, List.getElem_cons_zero, List.getElem_cons_succ, List.setIfInBounds_toArray, List.set_cons_zero, List.set_cons_succ]
 refine anyU_tk 60 (i := 14) (v := ?_) rfl (fun _ _ _ h => h) (YieldsS.of_if (Or.inl ⟨by rfl, ?_⟩)) ?_
 rotate_left
 · (intro wS hSw; (try dsimp only at hSw); (first | (go_simp; done) | (go_simp; with_reducible rfl)))
 intro hsh15
 clear hsh14
 try simp only [Act.put, List.getElem_toArray, List.getElem_cons_zero, List.getElem_cons_succ, List.setIfInBounds_toArray, List.set_cons_zero, List.set_cons_succ]
 refine anyU_tk 60 (i := 15) (v := ?_) rfl (fun _ _ _ h => h) (YieldsS.of_if (Or.inl ⟨by rfl, ?_⟩)) ?_
 rotate_left
 · (intro wS hSw; (try dsimp only at hSw); (first | (go_simp; done) | (go_simp; with_reducible rfl)))
 intro hsh16
 clear hsh15
 try simp only [Act.put, List.getElem_toArray, List.getElem_cons_zero, List.getElem_cons_succ, List.setIfInBounds_toArray, List.set_cons_zero, List.set_cons_succ]
 refine anyU_tk 60 (i := 16) (v := ?_) rfl (fun _ _ _ h => h) (YieldsS.of_if (Or.inl ⟨by rfl, ?_⟩)) ?_
 rotate_left
 · (intro wS hSw; (try dsimp only at hSw); (first | (go_simp; done) | (go_simp; with_reducible rfl)))
 intro hsh17
 clear hsh16
 try simp only [Act.put, List.getElem_toArray, List.getElem_cons_zero, List.getElem_cons_succ, List.setIfInBounds_toArray, List.set_cons_zero, List.set_cons_succ]
 refine anyU_tk 60 (i := 17) (v := ?_) rfl (fun _ _ _ h => h) (YieldsS.of_if (Or.inl ⟨by rfl, ?_⟩)) ?_
 rotate_left
 · (intro wS hSw; (try dsimp only at hSw); (first | (go_simp; done) | (go_simp; with_reducible rfl)))
 intro hsh18
 clear hsh17
 try simp only [Act.put, List.getElem_toArray, List.getElem_cons_zero, List.getElem_cons_succ, List.setIfInBounds_toArray, List.set_cons_zero, List.set_cons_succ]
 refine anyU_tk 60 (i := 18) (v := ?_) rfl (fun _ _ _ h => h) (YieldsS.of_if (Or.inl ⟨by rfl, ?_⟩)) ?_
 rotate_left
 · (intro wS hSw; (try dsimp only at hSw); (first | (go_simp; done) | (go_simp; with_reducible rfl)))
 intro hsh19
 clear hsh18
 try simp only [Act.put, List.getElem_toArray, List.getElem_cons_zero, List.getElem_cons_succ, List.setIfInBounds_toArray, List.set_cons_zero, List.set_cons_succ]
 refine anyU_tk 60 (i := 19) (v := ?_) rfl (fun _ _ _ h => h) (YieldsS.of_if (Or.inl ⟨by rfl, ?_⟩)) ?_
 rotate_left
 · (intro wS hSw; (try dsimp only at hSw); have c16 := hSw.1.c16; clear hSw; (first | (go_simp; done) | (go_simp; with_reducible rfl)))
 intro hsh20
 clear hsh19
 try simp only [Act.put, List.getElem_toArray, List.getElem_cons_zero, List.getElem_cons_succ, List.setIfInBounds_toArray, List.set_cons_zero, List.set_cons_succ]
 refine anyU_tk 60 (i := 20) (v := .int .i64 x) rfl (fun _ _ _ h => h) (YieldsS.of_call (by rfl) (f := 87) (args := #[.pointer (some ⟨q, 0, none⟩)]) (fun wS hSw => by first | rfl | (go_simp; done)) (fun wS hSw => ?_)) ?_
 · refine (tq_len hSw.1.que.toL).mono ?_; rw [HX.out]; rintro e wn ⟨rfl, hb⟩; exact ⟨rfl, ⟨hSw.1.below hb, hSw.2.trans (hb.mono hSw.2.size)⟩, hb⟩
 intro hsh21
 clear hsh20
 try simp only [Act.put, List.getElem_toArray, List.getElem_cons_zero, List.getElem_cons_succ, List.setIfInBounds_toArray, List.set_cons_zero, List.set_cons_succ]
 refine anyU_tk 60 (i := 21) (v := ?_) rfl (fun _ _ _ h => h) (YieldsS.of_if (Or.inl ⟨by rfl, ?_⟩)) ?_
 rotate_left
 · (intro wS hSw; (try dsimp only at hSw); (first | (go_simp; done) | (go_simp; with_reducible rfl)))
 intro hsh22
 clear hsh21
 try simp only [Act.put, List.getElem_toArray, List.getElem_cons_zero, List.getElem_cons_succ, List.setIfInBounds_toArray, List.set_cons_zero, List.set_cons_succ]
 refine anyU_tk 60 (i := 22) (v := ?_) rfl (fun _ _ _ h => h) (YieldsS.of_if (Or.inl ⟨by rfl, ?_⟩)) ?_
 rotate_left
 · (intro wS hSw; (try dsimp only at hSw); (first | (go_simp; done) | (go_simp; with_reducible rfl)))
 intro hsh23
 clear hsh22
 try simp only [Act.put, List.getElem_toArray, List.getElem_cons_zero, List.getElem_cons_succ, List.setIfInBounds_toArray, List.set_cons_zero, List.set_cons_succ]
 refine anyU_tk 60 (i := 23) (v := ?_) rfl (fun _ _ _ h => h) (YieldsS.of_if (Or.inl ⟨by rfl, ?_⟩)) ?_
 rotate_left
 · (intro wS hSw; (try dsimp only at hSw); (first | (go_simp; done) | (go_simp; with_reducible rfl)))
 intro hsh24
 clear hsh23
 try simp only [Act.put, List.getElem_toArray, List.getElem_cons_zero, List.getElem_cons_succ, List.setIfInBounds_toArray, List.set_cons_zero, List.set_cons_succ]
 refine anyU_done (by kernel_rfl) (fun w0 hS0 _ => ?_) _
 have HB0 := Lib.hid hS0.2
 have HL0 := Lib.hid (HC.out.below hS0.2)
 clear hS0
 refine NoPanic.normal ?_
 go_wp2_with fail
 refine (co_allq HL0.out hK1).mono ?_
 obtain ⟨D, hD⟩ : ∃ D, allT S.q.L S.N = D := ⟨_, rfl⟩
 obtain ⟨d1, d2, d3⟩ := HC.out.all_
 rw [hD] at d1 d2 d3 ⊢
 rintro e w1 ⟨v, rfl, how, hb1⟩
 obtain ⟨A, c, rfl, hrow⟩ := qrow_of how
 obtain ⟨m, hm⟩ : ∃ m, D.length = m := ⟨_, rfl⟩
 rw [hm]
 have hm1 : m ≤ 1024 := by omega
 have hm0 : (0 : Int) ≤ (m : Int) := by omega
 obtain ⟨S1, hS1⟩ : ∃ s, S = s := ⟨_, rfl⟩
 have HROW := Lib.hid hrow
 have HM := Lib.hid hm
 have HD := Lib.hid (And.intro d1 (And.intro d2 d3))
 have HL1 := Lib.hid (HL0.out.below hb1)
 have HB1 := Lib.hid (HB0.out.trans (hb1.mono HB0.out.size))
 have hw0 : ∀ k, O k → k < w0.heap.size := fun k hk => by have := HOS.out k hk; have := HB0.out.size; omega
 have HOS' := Lib.hid hw0
 clear d1 d2 d3 how hrow hm hb1 hw0 HOS
 have HOS := HOS'
 clear HOS'
 have HDD := Lib.hid hD
 clear hD
 subst hS1
 go_wp2_with fail
 go_loopw [31] (fun sl wr => ∃ k : Nat, k ≤ m ∧ sl = .int .i64 (k : Int) ∧ CStep w1 p O (settleAll S 6 (D.take k)) wr) (fun i _ => m - (intOf i).toNat)
 case atStart => exact ⟨0, Nat.zero_le _, rfl, CStep.refl_ HL1.out (Below.refl _ _)⟩
 case round =>
   obtain ⟨k, hk, rfl, hst⟩ := hrel
   have hm2 := HM.out
   by_cases hkm : k < m
   · have hks : k < D.length := by omega
     obtain ⟨O2, hL, hO1, hK1'⟩ := hst
     have hlk := settleAll_like 6 (D.take k) S
     obtain ⟨d1, d2, d3⟩ := HD.out
     have hdi := d2 D[k] (List.getElem_mem hks)
     have hT := settleAll_T 6 D[k] (D.take k) S (nodup_at d1 hks) hdi.2.1
     obtain ⟨gd, rfl, hgb, hgs, hcell⟩ := HROW.out (by omega)
     obtain ⟨x, hx⟩ : ∃ x, S.q.V D[k] = x := ⟨_, rfl⟩
     have hg : (settleAll S 6 (D.take k)).q.H D[k] = x := by rw [hlk.H, ← hdi.2.2, hx]
     have hgo : ¬ O gd := fun hc => by have := HOS.out gd hc; omega
     obtain ⟨⟨ra, rb, rc, rd, re⟩, hr⟩ : ∃ r, S.q.R D[k] = r := ⟨_, rfl⟩
     have hx0 : wr.cell? ⟨gd, k * 6, none⟩ = some (.int .u64 x) := (hK1'.cell_ hgs hgo).trans (by have := hcell k hks 0 (by omega); rw [hx, hr] at this; exact this)
     have hx1 : wr.cell? ⟨gd, k * 6 + 1, none⟩ = some (.int .u64 ra) := (hK1'.cell_ hgs hgo).trans (by have := hcell k hks 1 (by omega); rw [hx, hr] at this; exact this)
     have hx2 : wr.cell? ⟨gd, k * 6 + 2, none⟩ = some (.int .i64 rb) := (hK1'.cell_ hgs hgo).trans (by have := hcell k hks 2 (by omega); rw [hx, hr] at this; exact this)
     have hx3 : wr.cell? ⟨gd, k * 6 + 3, none⟩ = some (.int .i64 rc) := (hK1'.cell_ hgs hgo).trans (by have := hcell k hks 3 (by omega); rw [hx, hr] at this; exact this)
     have hx4 : wr.cell? ⟨gd, k * 6 + 4, none⟩ = some (.int .i64 rd) := (hK1'.cell_ hgs hgo).trans (by have := hcell k hks 4 (by omega); rw [hx, hr] at this; exact this)
     have hx5 : wr.cell? ⟨gd, k * 6 + 5, none⟩ = some (.int .i64 re) := (hK1'.cell_ hgs hgo).trans (by have := hcell k hks 5 (by omega); rw [hx, hr] at this; exact this)
     have hnx := settleAll_next S 6 D k hks
     have j1 : (k : Int) < (m : Int) := by omega
     have j2 : (0 : Int) ≤ (k : Int) := by omega
     have HHL := Lib.hid hL
     have HO1 := Lib.hid hO1
     have HK1 := Lib.hid hK1'
     have HLK := Lib.hid hlk
     have HDI := Lib.hid hdi
     have HT := Lib.hid hT
     have HG := Lib.hid hg
     have HNX := Lib.hid hnx
     clear hL hO1 hK1' hlk d1 d2 d3 hdi hT hg hcell hgb hgs hgo hnx hr hx
     go_wp2_with fail
     have hal : Below wr.heap.size wr (wr.alloc (.cells #[.int .u64 x, .int .u64 ra, .int .i64 rb, .int .i64 rc, .int .i64 rd, .int .i64 re] quT)) := (Below.refl _ _).alloc (Nat.le_refl _) _
     refine (co_settle (why := 6) (HHL.out.below hal) (by rw [HLK.out.n]; exact HDI.out.1) HT.out HG.out (by rw [HLK.out.K]; exact hK1) (by omega) (by omega)).mono ?_
     obtain ⟨ov, hov⟩ : ∃ ov, (ocOf (settleAll S 6 (D.take k)) D[k] 6).v = ov := ⟨_, rfl⟩
     rw [hov, ← HNX.out]
     rintro e w2 ⟨rfl, hs2⟩
     have hs3 := CStep.then_ HO1.out HK1.out (CStep.after hal hs2)
     have HS3 := Lib.hid hs3
     clear hs2 hs3 hov hal
     go_wp2_with fail
     exact ⟨⟨k + 1, by omega, by go_num, HS3.out⟩, by simp [intOf]; omega⟩
   · obtain rfl : k = m := by omega
     rw [show D.take k = D by rw [← hm2]; exact List.take_length] at hst
     have HSTE := Lib.hid hst
     clear hst hm2
     have j1 : ¬ (k : Int) < (k : Int) := by omega
     obtain ⟨O2, hL, hO1, hK1'⟩ := HSTE.out
     obtain ⟨q2, gc2, gm2, l2, r2, Oq2, hB2, hO2⟩ := hL.cells
     have c23 := hB2.c23
     have f23 := hB2.head.free 23
     have HL2 := Lib.hid hL
     have HO1 := Lib.hid hO1
     have HK1 := Lib.hid hK1'
     clear hL hO1 hK1' hB2 hO2
     go_wp2_with fail
     have hop := HL2.out.own_p
     have hL3 := HL2.out.ph9 (ph := 2) (by omega)
     have hfin : CStep w p O (phS (settleAll S 6 (allT S.q.L S.N)) 2) (wr.setCell ⟨p, 23, none⟩ (.int .u8 2)) := by
       rw [HDD.out]
       refine CStep.after HB1.out ⟨O2, hL3, HO1.out, kept_step (O' := O2) HK1.out HO1.out ((Kept.refl O2 wr).set_ (p := ⟨p, 23, none⟩) (.inl hop) _)⟩
     exact bodyPost_end (results_none rfl _ _ _) rfl ⟨rfl, hfin⟩
theorem end_ok (S : Cor) (hK : S.K ≤ 1000) : EndOk endS S := fun w p O h => by
 unfold endS
 by_cases h1 : S.ph ≠ 1
 · rw [if_pos (.inl h1)]
   exact (co_end_idle h h1).mono fun _ _ e => ⟨e.1, CStep.refl_ h e.2⟩
 · have hp : S.ph = 1 := by omega
   by_cases h2 : S.clk < S.lim
   · by_cases h3 : S.q.m < S.n
     · rw [if_pos (.inr ⟨h2, h3⟩)]
       exact (co_end_wait h hp h2 h3).mono fun _ _ e => ⟨e.1, CStep.refl_ h e.2⟩
     · rw [if_neg (fun e => by rcases e with e | e; exact h1 e; exact h3 e.2)]
       exact co_end_a h hK hp h2 h3
   · rw [if_neg (fun e => by rcases e with e | e; exact h1 e; exact h2 e.1)]
     exact co_end_b h hK hp (by omega)
end
end Go.Proofs.YtcffeokbipjaoaaGreat
