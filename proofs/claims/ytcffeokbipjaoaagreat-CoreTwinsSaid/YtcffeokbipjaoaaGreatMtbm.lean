/- Texts of this claim, one behind the other: Cos Coh. -/
import Derived.Test.YtcffeokbipjaoaaGreatMtbj
import Derived.Test.YtcffeokbipjaoaaGreatMtbl
namespace Go.Proofs.YtcffeokbipjaoaaGreat
open Go.ChangeShapes Go.WideShapes Go.RowKit Kn
set_option linter.unusedVariables false
set_option linter.unusedSimpArgs false
def restC (S : Cor) (k t : Nat) : Cst := if t < k ∧ (S.q.L t).length = 0 then emptyC (S.cod t) else S.cod t
def restK (S : Cor) (k : Nat) : Cor := { S with cod := restC S k }
theorem empty_ok {s : Cst} (h : s.ok) : (emptyC s).ok := by
 obtain ⟨h1, h2, h3, h4, h5, h6, h7, h8⟩ := h
 exact ⟨by simp [emptyC], by simp [emptyC], h3, h4, h5, h6, h7, h8⟩
theorem restK_zero (S : Cor) : restK S 0 = S := by
 unfold restK
 have : restC S 0 = S.cod := by funext t; unfold restC; rw [if_neg (by omega)]
 rw [this]
theorem restC_yes {S : Cor} {k : Nat} (h : (S.q.L k).length = 0) : restC S (k + 1) = fun j => if j = k then emptyC (S.cod k) else restC S k j := by
 funext t
 unfold restC
 by_cases ht : t = k
 · subst ht; rw [if_pos rfl, if_pos ⟨by omega, h⟩]
 · rw [if_neg ht]
   by_cases h1 : t < k ∧ (S.q.L t).length = 0
   · rw [if_pos h1, if_pos ⟨by omega, h1.2⟩]
   · rw [if_neg h1, if_neg (fun h2 => h1 ⟨by omega, h2.2⟩)]
theorem restC_no {S : Cor} {k : Nat} (h : ¬ (S.q.L k).length = 0) : restC S (k + 1) = restC S k := by
 funext t
 unfold restC
 by_cases ht : t = k
 · subst ht; rw [if_neg (fun h2 => h h2.2), if_neg (by omega)]
 · by_cases h1 : t < k ∧ (S.q.L t).length = 0
   · rw [if_pos h1, if_pos ⟨by omega, h1.2⟩]
   · rw [if_neg h1, if_neg (fun h2 => h1 ⟨by omega, h2.2⟩)]
section
variable {w w' w'' : World} {p q gc gm l : Nat} {r r' : Option Nat} {O Oq Oq' : Nat → Prop} {S S' : Cor}
set_option maxRecDepth 100000 in
set_option maxHeartbeats 8000000 in
theorem co_rest (h : CoreL w p O S) (hK : S.K ≤ 1000) :
   Calls Tryz.prog 125 #[.pointer (some ⟨p, 0, none⟩)] w fun e w' => (∃ v, e = .returned v) ∧ CStep w p O (restK S S.N) w' := by
 obtain ⟨q, gc, gm, l, r, Oq, h1, hO⟩ := h.cells
 have hN8 : S.N ≤ 8 := h1.ok.N8
 have c17 := h1.c17
 have hgc : O gc := (hO gc).2 (.inr (.inl rfl))
 have H1 := Lib.hid h1
 have HO := Lib.hid hO
 clear h h1 hO
 go_enter Tryz.func125, Tryz.ntmps125
 go_wp2_with fail
 go_loopw [8] (fun s8 wr => ∃ k : Nat, k ≤ S.N ∧ s8 = .int .i64 (k : Int) ∧ CoreB wr p q gc gm l r Oq (restK S k) ∧ Kept O w wr) (fun i _ => S.N - (intOf i).toNat)
 case atStart => exact ⟨0, Nat.zero_le _, rfl, by rw [restK_zero]; exact H1.out, Kept.refl _ _⟩
 case round =>
   clear H1 c17
   obtain ⟨k, hk, rfl, h1, h2⟩ := hrel
   have H1 := Lib.hid h1
   have H2 := Lib.hid h2
   have c16 := h1.c16
   clear h1 h2
   by_cases hlt : k < S.N
   · have k0 : (0 : Int) ≤ (k : Int) := by omega
     have k1 : (k : Int) < (S.N : Int) := by omega
     have hr : rowE S.N S.q.L (k : Int) = S.q.L k := rowE_at hlt
     have HR := Lib.hid hr
     obtain ⟨n, hn⟩ : ∃ n, (S.q.L k).length = n := ⟨_, rfl⟩
     have HN := Lib.hid hn
     clear hr hn
     go_wp2_with fail
     refine (tqo_count (k : Int) H1.out.que).mono ?_
     rw [show rowE (restK S k).N (restK S k).q.L (k : Int) = S.q.L k from HR.out, HN.out]
     rintro e w1 ⟨rfl, rfl⟩
     by_cases hz : n = 0
     · have hz' : (n : Int) = 0 := by omega
       obtain ⟨⟨ab, fi, dr, ne, co, la⟩, hco⟩ : ∃ m, (restK S k).cod k = m := ⟨_, rfl⟩
       have hco' : S.cod k = ⟨ab, fi, dr, ne, co, la⟩ := by
         have : (restK S k).cod k = S.cod k := by show restC S k k = _; unfold restC; rw [if_neg (by omega)]
         rw [← this]; exact hco
       have HCO := Lib.hid hco
       have HCO' := Lib.hid hco'
       clear hco hco'
       go_upto_region 4 with fail
       refine wp_region_noPanic ?_
       refine wp_region_U (fun w' => CoreB w' p q gc gm l r Oq (restK S k) ∧ Below wr.heap.size wr w') [] [14] (by kernel_rfl) (⟨H1.out.below ((Below.refl _ _).drew), (Below.refl _ _).drew⟩) ?_
       intro hsh0
       skip
       refine anyU_tk 60 (i := 0) (v := ?_) rfl (fun _ _ _ h => h) (YieldsS.of_if (Or.inl ⟨by rfl, ?_⟩)) ?_
       rotate_left
       · (intro wS hSw; (try dsimp only at hSw); (first | (go_simp; done) | (go_simp; with_reducible rfl)))
       intro hsh1
       clear hsh0
       try simp only [Act.put, List.getElem_toArray, List.getElem_cons_zero, List.getElem_cons_succ, List.setIfInBounds_toArray, List.set_cons_zero, List.set_cons_succ]
       refine anyU_tk 60 (i := 1) (v := ?_) rfl (fun _ _ _ h => h) (YieldsS.of_if (Or.inl ⟨by rfl, ?_⟩)) ?_
       rotate_left
       · (intro wS hSw; (try dsimp only at hSw); (first | (go_simp; done) | (go_simp; with_reducible rfl)))
       intro hsh2
       clear hsh1
       try simp only [Act.put, List.getElem_toArray, List.getElem_cons_zero, List.getElem_cons_succ, List.setIfInBounds_toArray, List.set_cons_zero, List.set_cons_succ]
       refine anyU_tk 60 (i := 2) (v := ?_) rfl (fun _ _ _ h => h) (YieldsS.of_if (Or.inl ⟨by rfl, ?_⟩)) ?_
       rotate_left
       · (intro wS hSw; (try dsimp only at hSw); (first | (go_simp; done) | (go_simp; with_reducible rfl)))
       intro hsh3
       clear hsh2
       try simp only [Act.put, List.getElem_toArray, List.getElem_cons_zero, List.getElem_cons_succ, List.setIfInBounds_toArray, List.set_cons_zero, List.set_cons_succ]
       refine anyU_tk 60 (i := 3) (v := ?_) rfl (fun _ _ _ h => h) (YieldsS.of_if (Or.inl ⟨by rfl, ?_⟩)) ?_
       rotate_left
       · (intro wS hSw; (try dsimp only at hSw); have c17 : wS.cell? ⟨p, 17, none⟩ = some (.slice (some ⟨gc, 0, none⟩) S.N S.N) := hSw.1.c17; clear hSw; (first | (go_simp; done) | (go_simp; with_reducible rfl)))
       intro hsh4
       clear hsh3
       try simp only [Act.put, List.getElem_toArray, List.getElem_cons_zero, List.getElem_cons_succ, List.setIfInBounds_toArray, List.set_cons_zero, List.set_cons_succ]
       refine anyU_tk 60 (i := 4) (v := ?_) rfl (fun _ _ _ h => h) (YieldsS.of_if (Or.inl ⟨by rfl, ?_⟩)) ?_
       rotate_left
       · (intro wS hSw; (try dsimp only at hSw); (first | (go_simp; done) | (go_simp; with_reducible rfl)))
       intro hsh5
       clear hsh4
       try simp only [Act.put, List.getElem_toArray, List.getElem_cons_zero, List.getElem_cons_succ, List.setIfInBounds_toArray, List.set_cons_zero, List.set_cons_succ]
       refine anyU_tk 60 (i := 5) (v := ?_) rfl (fun _ _ _ h => h) (YieldsS.of_if (Or.inl ⟨by rfl, ?_⟩)) ?_
       rotate_left
       · (intro wS hSw; (try dsimp only at hSw); (first | (go_simp; done) | (go_simp; with_reducible rfl)))
       intro hsh6
       clear hsh5
       try simp only [Act.put, List.getElem_toArray, List.getElem_cons_zero, List.getElem_cons_succ, List.setIfInBounds_toArray, List.set_cons_zero, List.set_cons_succ]
       refine anyU_tk 60 (i := 6) (v := ?_) rfl (fun _ _ _ h => h) (YieldsS.of_if (Or.inl ⟨by rfl, ?_⟩)) ?_
       rotate_left
       · (intro wS hSw; (try dsimp only at hSw); (first | (go_simp; done) | (go_simp; with_reducible rfl)))
       intro hsh7
       clear hsh6
       try simp only [Act.put, List.getElem_toArray, List.getElem_cons_zero, List.getElem_cons_succ, List.setIfInBounds_toArray, List.set_cons_zero, List.set_cons_succ]
       refine anyU_tk 60 (i := 7) (v := ?_) rfl (fun _ _ _ h => h) (YieldsS.of_if (Or.inl ⟨by rfl, ?_⟩)) ?_
       rotate_left
       · (intro wS hSw; (try dsimp only at hSw); (first | (go_simp; done) | (go_simp; with_reducible rfl)))
       intro hsh8
       clear hsh7
       try simp only [Act.put, List.getElem_toArray, List.getElem_cons_zero, List.getElem_cons_succ, List.setIfInBounds_toArray, List.set_cons_zero, List.set_cons_succ]
       refine anyU_tk 60 (i := 8) (v := ?_) rfl (fun _ _ _ h => h) (YieldsS.of_if (Or.inl ⟨by rfl, ?_⟩)) ?_
       rotate_left
       · (intro wS hSw; (try dsimp only at hSw); have c17 : wS.cell? ⟨p, 17, none⟩ = some (.slice (some ⟨gc, 0, none⟩) S.N S.N) := hSw.1.c17; clear hSw; (first | (go_simp; done) | (go_simp; with_reducible rfl)))
       intro hsh9
       clear hsh8
       try simp only [Act.put, List.getElem_toArray, List.getElem_cons_zero, List.getElem_cons_succ, List.setIfInBounds_toArray, List.set_cons_zero, List.set_cons_succ]
       refine anyU_tk 60 (i := 9) (v := ?_) rfl (fun _ _ _ h => h) (YieldsS.of_if (Or.inl ⟨by rfl, ?_⟩)) ?_
       rotate_left
       · (intro wS hSw; (try dsimp only at hSw); (first | (go_simp; done) | (go_simp; with_reducible rfl)))
       intro hsh10
       clear hsh9
       try simp only [Act.put, List.getElem_toArray, List.getElem_cons_zero, List.getElem_cons_succ, List.setIfInBounds_toArray, List.set_cons_zero, List.set_cons_succ]
       refine anyU_tk 60 (i := 10) (v := ?_) rfl (fun _ _ _ h => h) (YieldsS.of_if (Or.inl ⟨by rfl, ?_⟩)) ?_
       rotate_left
       · (intro wS hSw; (try dsimp only at hSw); (first | (go_simp; done) | (go_simp; with_reducible rfl)))
       intro hsh11
       clear hsh10
       try simp only [Act.put, List.getElem_toArray, List.getElem_cons_zero, List.getElem_cons_succ, List.setIfInBounds_toArray, List.set_cons_zero, List.set_cons_succ]
       refine anyU_tk 60 (i := 11) (v := ?_) rfl (fun _ _ _ h => h) (YieldsS.of_if (Or.inl ⟨by rfl, ?_⟩)) ?_
       rotate_left
       · (intro wS hSw; (try dsimp only at hSw); have m0 : wS.cell? ⟨gc, k * 6 + 0, none⟩ = some (.bool ab) := hSw.1.cod.at_ hlt (by omega) (by rw [HCO.out]; rfl); have m1 : wS.cell? ⟨gc, k * 6 + 1, none⟩ = some (.int .i64 fi) := hSw.1.cod.at_ hlt (by omega) (by rw [HCO.out]; rfl); have m2 : wS.cell? ⟨gc, k * 6 + 2, none⟩ = some (.bool dr) := hSw.1.cod.at_ hlt (by omega) (by rw [HCO.out]; rfl); have m3 : wS.cell? ⟨gc, k * 6 + 3, none⟩ = some (.int .i64 ne) := hSw.1.cod.at_ hlt (by omega) (by rw [HCO.out]; rfl); have m4 : wS.cell? ⟨gc, k * 6 + 4, none⟩ = some (.int .u64 co) := hSw.1.cod.at_ hlt (by omega) (by rw [HCO.out]; rfl); have m5 : wS.cell? ⟨gc, k * 6 + 5, none⟩ = some (.int .u64 la) := hSw.1.cod.at_ hlt (by omega) (by rw [HCO.out]; rfl); (try simp only [Nat.add_zero] at m0 m1 m2 m3 m4 m5); clear hSw; (first | (go_simp; done) | (go_simp; with_reducible rfl)))
       intro hsh12
       clear hsh11
       try simp only [Act.put, List.getElem_toArray, List.getElem_cons_zero, List.getElem_cons_succ, List.setIfInBounds_toArray, List.set_cons_zero, List.set_cons_succ]
       refine anyU_tk 60 (i := 12) (v := (emptyC ⟨ab, fi, dr, ne, co, la⟩).v) rfl (fun _ _ _ h => h) (YieldsS.of_call (by rfl) (f := 174) (args := #[.agg #[.bool ab, .int .i64 fi, .bool dr, .int .i64 ne, .int .u64 co, .int .u64 la]]) (fun wS hSw => by first | rfl | (go_simp; done)) (fun wS hSw => ?_)) ?_
       · refine (cempty_any ⟨ab, fi, dr, ne, co, la⟩ wS).mono ?_; rintro e wn ⟨rfl, hb⟩; exact ⟨rfl, ⟨hSw.1.below hb, hSw.2.trans (hb.mono hSw.2.size)⟩, hb⟩
       intro hsh13
       clear hsh12
       try simp only [Act.put, List.getElem_toArray, List.getElem_cons_zero, List.getElem_cons_succ, List.setIfInBounds_toArray, List.set_cons_zero, List.set_cons_succ]
       refine anyU_tk 60 (i := 13) (v := ?_) rfl (fun _ _ _ h => h) (YieldsS.of_if (Or.inl ⟨by rfl, ?_⟩)) ?_
       rotate_left
       · (intro wS hSw; (try dsimp only at hSw); (first | (go_simp; done) | (go_simp; with_reducible rfl)))
       intro hsh14
       clear hsh13
       try simp only [Act.put, List.getElem_toArray, List.getElem_cons_zero, List.getElem_cons_succ, List.setIfInBounds_toArray, List.set_cons_zero, List.set_cons_succ]
       refine anyU_last (i := 14) (by kernel_rfl) (by kernel_rfl) (fun wS hSw _ => ?_)
       refine last_op rfl (by rfl) (by kernel_rfl) ?_
       have m0 : wS.cell? ⟨gc, k * 6 + 0, none⟩ = some (.bool ab) := hSw.1.cod.at_ hlt (by omega) (by rw [HCO.out]; rfl)
       have m1 : wS.cell? ⟨gc, k * 6 + 1, none⟩ = some (.int .i64 fi) := hSw.1.cod.at_ hlt (by omega) (by rw [HCO.out]; rfl)
       have m2 : wS.cell? ⟨gc, k * 6 + 2, none⟩ = some (.bool dr) := hSw.1.cod.at_ hlt (by omega) (by rw [HCO.out]; rfl)
       have m3 : wS.cell? ⟨gc, k * 6 + 3, none⟩ = some (.int .i64 ne) := hSw.1.cod.at_ hlt (by omega) (by rw [HCO.out]; rfl)
       have m4 : wS.cell? ⟨gc, k * 6 + 4, none⟩ = some (.int .u64 co) := hSw.1.cod.at_ hlt (by omega) (by rw [HCO.out]; rfl)
       have m5 : wS.cell? ⟨gc, k * 6 + 5, none⟩ = some (.int .u64 la) := hSw.1.cod.at_ hlt (by omega) (by rw [HCO.out]; rfl)
       (try simp only [Nat.add_zero] at m0 m1 m2 m3 m4 m5)
       have zf := hSw.1.cod.free
       have HS := Lib.hid hSw
       clear hSw
       unfold Oper.wp
       go_simp
       have so := HS.out.1.ok.cod k hlt
       rw [HCO.out] at so
       have hB := HS.out.1.cod_ hlt _ (empty_ok so)
       have hK2 : Kept O w _ := H2.out.trans (Kept.set_ (own := O) (Kept.set_ (own := O) (Kept.set_ (own := O) (Kept.set_ (own := O) (Kept.set_ (own := O) (Kept.set_ (own := O) (Kept.of_below HS.out.2) (p := ⟨gc, k * 6, none⟩) (.inl hgc) (.bool (emptyC ⟨ab, fi, dr, ne, co, la⟩).ab)) (p := ⟨gc, k * 6 + 1, none⟩) (.inl hgc) (.int .i64 (emptyC ⟨ab, fi, dr, ne, co, la⟩).fi)) (p := ⟨gc, k * 6 + 2, none⟩) (.inl hgc) (.bool (emptyC ⟨ab, fi, dr, ne, co, la⟩).dr)) (p := ⟨gc, k * 6 + 3, none⟩) (.inl hgc) (.int .i64 (emptyC ⟨ab, fi, dr, ne, co, la⟩).ne)) (p := ⟨gc, k * 6 + 4, none⟩) (.inl hgc) (.int .u64 (emptyC ⟨ab, fi, dr, ne, co, la⟩).co)) (p := ⟨gc, k * 6 + 5, none⟩) (.inl hgc) (.int .u64 (emptyC ⟨ab, fi, dr, ne, co, la⟩).la))
       have hE : ({ restK S k with cod := fun j => if j = k then emptyC ⟨ab, fi, dr, ne, co, la⟩ else (restK S k).cod j } : Cor) = restK S (k + 1) := by
         unfold restK
         rw [restC_yes (by rw [HN.out]; exact hz), HCO'.out]
       rw [hE] at hB
       have HB := Lib.hid hB
       have HK2 := Lib.hid hK2
       clear so hB hK2 hE m0 m1 m2 m3 m4 m5 zf
       refine NoPanic.normal ?_
       go_wp2
       exact ⟨⟨k + 1, by omega, by simp, HB.out, HK2.out⟩, by simp [intOf]; omega⟩
     · have hz' : ¬ (n : Int) = 0 := by omega
       go_wp2_with fail
       exact ⟨⟨k + 1, by omega, by simp, by unfold restK; rw [restC_no (by rw [HN.out]; exact hz)]; exact H1.out, H2.out⟩, by simp [intOf]; omega⟩
   · obtain rfl : k = S.N := by omega
     go_wp2
     exact bodyPost_end (results_none rfl _ _ _) rfl ⟨⟨_, rfl⟩, O, ⟨⟨q, gc, gm, l, r, Oq, H1.out, HO.out⟩⟩, fun k hk => .inl hk, H2.out⟩
end
end Go.Proofs.YtcffeokbipjaoaaGreat
namespace Go.Proofs.YtcffeokbipjaoaaGreat
open Go.ChangeShapes Go.WideShapes Go.RowKit Kn
set_option linter.unusedVariables false
set_option linter.unusedSimpArgs false
abbrev opT : TypeId := 33
def opv (a b c d : Int) : Value := .agg #[.int .u8 a, .int .i64 b, .int .i64 c, .int .i64 d]
section
variable {w w' w'' : World} {p q gc gm l : Nat} {r r' : Option Nat} {O Oq Oq' : Nat → Prop} {S S' : Cor}
def CfAt (w : World) (p : Nat) (c : Cf) : Prop := ∀ i, i < 16 → w.cell? ⟨p, i, none⟩ = c.l[i]?
theorem CoreB.cfat (h : CoreB w p q gc gm l r Oq S) : CfAt w p S.cf := by
 intro i hi
 have hl : S.cf.l.length = 16 := rfl
 have h1 : (coreCells S q gc gm l)[i]? = S.cf.l[i]? := by unfold coreCells; rw [List.getElem?_append_left (by omega)]
 rw [List.getElem?_eq_getElem (show i < S.cf.l.length by omega)] at h1 ⊢
 exact h.head.val (by simpa using h1)
theorem CfAt.below {c : Cf} (h : CfAt w p c) (hp : p < w.heap.size) (hb : Below w.heap.size w w') : CfAt w' p c := fun i hi => by
 have := h i hi
 rw [List.getElem?_eq_getElem (by show i < c.l.length; exact hi)] at this ⊢
 exact (hb.cell hp).trans this
theorem CfAt.drew {c : Cf} (h : CfAt w p c) : CfAt w.drew p c := fun i hi => h i hi
theorem CfAt.all {c : Cf} (h : CfAt w p c) : w.cell? ⟨p, 0, none⟩ = some (.int .i64 c.ti) ∧ w.cell? ⟨p, 1, none⟩ = some (.int .i64 c.ro) ∧ w.cell? ⟨p, 2, none⟩ = some (.int .i64 c.ta) ∧ w.cell? ⟨p, 3, none⟩ = some (.int .i64 c.iv) ∧ w.cell? ⟨p, 4, none⟩ = some (.int .i64 c.hg) ∧ w.cell? ⟨p, 5, none⟩ = some (.int .i64 c.lo) ∧ w.cell? ⟨p, 6, none⟩ = some (.int .i64 c.dw) ∧ w.cell? ⟨p, 7, none⟩ = some (.int .i64 c.ho) ∧ w.cell? ⟨p, 8, none⟩ = some (.int .i64 c.sp) ∧ w.cell? ⟨p, 9, none⟩ = some (.int .i64 c.kp) ∧ w.cell? ⟨p, 10, none⟩ = some (.int .i64 c.ki) ∧ w.cell? ⟨p, 11, none⟩ = some (.int .i64 c.kd) ∧ w.cell? ⟨p, 12, none⟩ = some (.int .i64 c.lm) ∧ w.cell? ⟨p, 13, none⟩ = some (.int .i64 c.st) ∧ w.cell? ⟨p, 14, none⟩ = some (.int .i64 c.th) ∧ w.cell? ⟨p, 15, none⟩ = some (.int .i64 c.rg) :=
 ⟨h 0 (by omega), h 1 (by omega), h 2 (by omega), h 3 (by omega), h 4 (by omega), h 5 (by omega), h 6 (by omega), h 7 (by omega), h 8 (by omega), h 9 (by omega), h 10 (by omega), h 11 (by omega), h 12 (by omega), h 13 (by omega), h 14 (by omega), h 15 (by omega)⟩
set_option maxRecDepth 100000 in
set_option maxHeartbeats 4000000 in
theorem co_judge (a b c d : Int) (h : CoreL w p O S) :
   Calls Tryz.prog 80 #[.pointer (some ⟨p, 0, none⟩), opv a b c d] w fun e w' => e = .returned (.int .u8 (judgeG S.cf.ti S.pid.le S.clk b c d)) ∧ Below w.heap.size w w' := by
 obtain ⟨q, gc, gm, l, r, Oq, h1, -⟩ := h.cells
 have hti : S.cf.ti ≤ 1000 := by have := h1.ok.hN; have := h1.ok.N8; omega
 obtain ⟨hle0, hle1⟩ : I64_ S.pid.le := by
   have := h1.ok.pid
   unfold I64_
   obtain ⟨x1, x2⟩ := this
   constructor <;> omega
 unfold opv
 have HC := Lib.hid h
 have HB := Lib.hid h1
 have hp : p < w.heap.size := h1.head.size
 clear h h1
 go_enter Tryz.func80, Tryz.ntmps80
 go_upto_region 1 with fail
 obtain ⟨W0, hW0⟩ : ∃ W, w.alloc (.cells #[.int .u8 a, .int .i64 b, .int .i64 c, .int .i64 d] opT) = W := ⟨_, rfl⟩
 have hb0 : Below w.heap.size w W0 := by rw [← hW0]; exact (Below.refl _ _).alloc (Nat.le_refl _) _
 have hx0 : Blk W0 w.heap.size opT #[.int .u8 a, .int .i64 b, .int .i64 c, .int .i64 d] := by rw [← hW0]; exact Blk.made _ _ _
 rw [hW0]
 clear hW0
 have hB0 := HB.out.below hb0
 have hL0 := HC.out.below hb0
 obtain ⟨k0, k1, k2, k3, k4, k5, k6, k7, k8, k9, k10, k11, k12, k13, k14, k15⟩ := hB0.cfat.all
 have k25 := hB0.c25
 have b1 : W0.cell? ⟨w.heap.size, 1, none⟩ = some (.int .i64 b) := hx0.val rfl
 have b2 : W0.cell? ⟨w.heap.size, 2, none⟩ = some (.int .i64 c) := hx0.val rfl
 have b3 : W0.cell? ⟨w.heap.size, 3, none⟩ = some (.int .i64 d) := hx0.val rfl
 have hg : w.heap.size < W0.heap.size := klt b1
 have hp0 : p < W0.heap.size := Nat.lt_of_lt_of_le hp hb0.size
 have HB0 := Lib.hid hb0
 have HL0 := Lib.hid hL0
 obtain ⟨g, hgg⟩ : ∃ g, w.heap.size = g := ⟨_, rfl⟩
 rw [hgg] at b1 b2 b3 hg ⊢
 have HG := Lib.hid hgg
 clear hb0 hx0 hB0 hL0 hgg
 go_region_held3 (fun w' => w'.cell? ⟨p, 0, none⟩ = some (.int .i64 S.cf.ti) ∧ w'.cell? ⟨p, 1, none⟩ = some (.int .i64 S.cf.ro) ∧ w'.cell? ⟨p, 2, none⟩ = some (.int .i64 S.cf.ta) ∧ w'.cell? ⟨p, 3, none⟩ = some (.int .i64 S.cf.iv) ∧ w'.cell? ⟨p, 4, none⟩ = some (.int .i64 S.cf.hg) ∧ w'.cell? ⟨p, 5, none⟩ = some (.int .i64 S.cf.lo) ∧ w'.cell? ⟨p, 6, none⟩ = some (.int .i64 S.cf.dw) ∧ w'.cell? ⟨p, 7, none⟩ = some (.int .i64 S.cf.ho) ∧ w'.cell? ⟨p, 8, none⟩ = some (.int .i64 S.cf.sp) ∧ w'.cell? ⟨p, 9, none⟩ = some (.int .i64 S.cf.kp) ∧ w'.cell? ⟨p, 10, none⟩ = some (.int .i64 S.cf.ki) ∧ w'.cell? ⟨p, 11, none⟩ = some (.int .i64 S.cf.kd) ∧ w'.cell? ⟨p, 12, none⟩ = some (.int .i64 S.cf.lm) ∧ w'.cell? ⟨p, 13, none⟩ = some (.int .i64 S.cf.st) ∧ w'.cell? ⟨p, 14, none⟩ = some (.int .i64 S.cf.th) ∧ w'.cell? ⟨p, 15, none⟩ = some (.int .i64 S.cf.rg) ∧ w'.cell? ⟨p, 25, none⟩ = some (.int .i64 S.clk) ∧ w'.cell? ⟨g, 1, none⟩ = some (.int .i64 b) ∧ w'.cell? ⟨g, 2, none⟩ = some (.int .i64 c) ∧ w'.cell? ⟨g, 3, none⟩ = some (.int .i64 d)) (repeat (first | with_reducible assumption | refine ⟨?_, ?_⟩ | with_reducible refine kdrew ?_ | with_reducible refine kalloc ?_ _)) (first | (go_at_call 117; refine (co_level (HL0.out.below (Below.drew (Below.refl _ _)))).mono ?_; rintro e w1 ⟨rfl, hb⟩; have hp1 : p < w1.heap.size := Nat.lt_of_lt_of_le hp0 hb.size; have hg1 : g < w1.heap.size := Nat.lt_of_lt_of_le hg hb.size; have d0 : w1.cell? ⟨p, 0, none⟩ = some (.int .i64 S.cf.ti) := (hb.cell hp0).trans k0; have d1 : w1.cell? ⟨p, 1, none⟩ = some (.int .i64 S.cf.ro) := (hb.cell hp0).trans k1; have d2 : w1.cell? ⟨p, 2, none⟩ = some (.int .i64 S.cf.ta) := (hb.cell hp0).trans k2; have d3 : w1.cell? ⟨p, 3, none⟩ = some (.int .i64 S.cf.iv) := (hb.cell hp0).trans k3; have d4 : w1.cell? ⟨p, 4, none⟩ = some (.int .i64 S.cf.hg) := (hb.cell hp0).trans k4; have d5 : w1.cell? ⟨p, 5, none⟩ = some (.int .i64 S.cf.lo) := (hb.cell hp0).trans k5; have d6 : w1.cell? ⟨p, 6, none⟩ = some (.int .i64 S.cf.dw) := (hb.cell hp0).trans k6; have d7 : w1.cell? ⟨p, 7, none⟩ = some (.int .i64 S.cf.ho) := (hb.cell hp0).trans k7; have d8 : w1.cell? ⟨p, 8, none⟩ = some (.int .i64 S.cf.sp) := (hb.cell hp0).trans k8; have d9 : w1.cell? ⟨p, 9, none⟩ = some (.int .i64 S.cf.kp) := (hb.cell hp0).trans k9; have d10 : w1.cell? ⟨p, 10, none⟩ = some (.int .i64 S.cf.ki) := (hb.cell hp0).trans k10; have d11 : w1.cell? ⟨p, 11, none⟩ = some (.int .i64 S.cf.kd) := (hb.cell hp0).trans k11; have d12 : w1.cell? ⟨p, 12, none⟩ = some (.int .i64 S.cf.lm) := (hb.cell hp0).trans k12; have d13 : w1.cell? ⟨p, 13, none⟩ = some (.int .i64 S.cf.st) := (hb.cell hp0).trans k13; have d14 : w1.cell? ⟨p, 14, none⟩ = some (.int .i64 S.cf.th) := (hb.cell hp0).trans k14; have d15 : w1.cell? ⟨p, 15, none⟩ = some (.int .i64 S.cf.rg) := (hb.cell hp0).trans k15; have d25 : w1.cell? ⟨p, 25, none⟩ = some (.int .i64 S.clk) := (hb.cell hp0).trans k25; have e1 : w1.cell? ⟨g, 1, none⟩ = some (.int .i64 b) := (hb.cell hg).trans b1; have e2 : w1.cell? ⟨g, 2, none⟩ = some (.int .i64 c) := (hb.cell hg).trans b2; have e3 : w1.cell? ⟨g, 3, none⟩ = some (.int .i64 d) := (hb.cell hg).trans b3; have HB1 := Lib.hid hb; clear hb) | (go_at_call 116; refine (gjudge_any S.cf _ _ _ _ _ hti hle0 hle1 _).mono ?_; rintro e w2 ⟨rfl, hb⟩; have f0 : w2.cell? ⟨p, 0, none⟩ = some (.int .i64 S.cf.ti) := (hb.cell hp1).trans d0; have f1 : w2.cell? ⟨p, 1, none⟩ = some (.int .i64 S.cf.ro) := (hb.cell hp1).trans d1; have f2 : w2.cell? ⟨p, 2, none⟩ = some (.int .i64 S.cf.ta) := (hb.cell hp1).trans d2; have f3 : w2.cell? ⟨p, 3, none⟩ = some (.int .i64 S.cf.iv) := (hb.cell hp1).trans d3; have f4 : w2.cell? ⟨p, 4, none⟩ = some (.int .i64 S.cf.hg) := (hb.cell hp1).trans d4; have f5 : w2.cell? ⟨p, 5, none⟩ = some (.int .i64 S.cf.lo) := (hb.cell hp1).trans d5; have f6 : w2.cell? ⟨p, 6, none⟩ = some (.int .i64 S.cf.dw) := (hb.cell hp1).trans d6; have f7 : w2.cell? ⟨p, 7, none⟩ = some (.int .i64 S.cf.ho) := (hb.cell hp1).trans d7; have f8 : w2.cell? ⟨p, 8, none⟩ = some (.int .i64 S.cf.sp) := (hb.cell hp1).trans d8; have f9 : w2.cell? ⟨p, 9, none⟩ = some (.int .i64 S.cf.kp) := (hb.cell hp1).trans d9; have f10 : w2.cell? ⟨p, 10, none⟩ = some (.int .i64 S.cf.ki) := (hb.cell hp1).trans d10; have f11 : w2.cell? ⟨p, 11, none⟩ = some (.int .i64 S.cf.kd) := (hb.cell hp1).trans d11; have f12 : w2.cell? ⟨p, 12, none⟩ = some (.int .i64 S.cf.lm) := (hb.cell hp1).trans d12; have f13 : w2.cell? ⟨p, 13, none⟩ = some (.int .i64 S.cf.st) := (hb.cell hp1).trans d13; have f14 : w2.cell? ⟨p, 14, none⟩ = some (.int .i64 S.cf.th) := (hb.cell hp1).trans d14; have f15 : w2.cell? ⟨p, 15, none⟩ = some (.int .i64 S.cf.rg) := (hb.cell hp1).trans d15; have f25 : w2.cell? ⟨p, 25, none⟩ = some (.int .i64 S.clk) := (hb.cell hp1).trans d25; have j1 : w2.cell? ⟨g, 1, none⟩ = some (.int .i64 b) := (hb.cell hg1).trans e1; have j2 : w2.cell? ⟨g, 2, none⟩ = some (.int .i64 c) := (hb.cell hg1).trans e2; have j3 : w2.cell? ⟨g, 3, none⟩ = some (.int .i64 d) := (hb.cell hg1).trans e3; have HB2 := Lib.hid hb; clear hb))
 go_wp2
 go_ret
 exact ⟨rfl, (HB0.out.trans ((Below.drew (Below.refl _ _)).mono HB0.out.size)).trans ((HB1.out.mono (by simpa using HB0.out.size)).trans (HB2.out.mono (by have := HB1.out.size; have := HB0.out.size; simp at *; omega)))⟩
def refuseE (S : Cor) (a b c d : Int) : Int := if a = 0 ∧ S.ph = 0 then (if judgeG S.cf.ti S.pid.le S.clk b c d = 4 then 0 else judgeG S.cf.ti S.pid.le S.clk b c d) else 0
set_option maxRecDepth 100000 in
set_option maxHeartbeats 4000000 in
theorem co_refusal (a b c d : Int) (h : CoreL w p O S) :
   Calls Tryz.prog 44 #[.pointer (some ⟨p, 0, none⟩), opv a b c d] w fun e w' => e = .returned (.int .u8 (refuseE S a b c d)) ∧ Below w.heap.size w w' := by
 obtain ⟨q, gc, gm, l, r, Oq, h1, -⟩ := h.cells
 have c23 := h1.c23
 have hp : p < w.heap.size := h1.head.size
 obtain ⟨z, hz⟩ : ∃ z, refuseE S a b c d = z := ⟨_, rfl⟩
 rw [hz]
 obtain ⟨v, hv⟩ : ∃ v, judgeG S.cf.ti S.pid.le S.clk b c d = v := ⟨_, rfl⟩
 unfold refuseE at hz
 rw [hv] at hz
 have HC := Lib.hid h
 have HV := Lib.hid hv
 have HZ := Lib.hid hz
 unfold opv
 have hpn : ¬ w.heap.size = p := by omega
 have hpn2 : ¬ p = w.heap.size := by omega
 clear h h1 hv hz
 by_cases ha : a = 0
 · subst ha
   by_cases hph : S.ph = 0
   · rw [hph] at c23
     have hjd := co_judge (w := w.alloc (.cells #[.int .u8 0, .int .i64 b, .int .i64 c, .int .i64 d] opT)) 0 b c d (HC.out.below ((Below.refl _ _).alloc (Nat.le_refl _) _))
     rw [HV.out] at hjd
     unfold opv at hjd
     have HJ := Lib.hid hjd
     have hzz := HZ.out
     rw [if_pos (And.intro rfl hph)] at hzz
     clear hjd hph HZ
     by_cases hv4 : v = 4
     · rw [if_pos hv4] at hzz
       subst hv4
       subst hzz
       go_enter Tryz.func44, Tryz.ntmps44
       go_wp2_with fail
       refine HJ.out.mono ?_
       rintro e w1 ⟨rfl, hb⟩
       have HB := Lib.hid hb
       clear hb
       go_wp2
       go_ret
       exact ⟨rfl, ((Below.refl _ _).alloc (Nat.le_refl _) _).trans (HB.out.mono (by simp))⟩
     · have hv5 : (v == 4) = false := by rw [beq_eq_false_iff_ne]; exact hv4
       rw [if_neg hv4] at hzz
       subst hzz
       go_enter Tryz.func44, Tryz.ntmps44
       go_wp2_with fail
       refine HJ.out.mono ?_
       rintro e w1 ⟨rfl, hb⟩
       have HB := Lib.hid hb
       clear hb
       go_wp2
       go_ret
       exact ⟨rfl, ((Below.refl _ _).alloc (Nat.le_refl _) _).trans (HB.out.mono (by simp))⟩
   · have hph2 : (S.ph == 0) = false := by rw [beq_eq_false_iff_ne]; exact hph
     have hph3 : (S.ph != 0) = true := by rw [bne, hph2]; rfl
     have hz0 : z = 0 := by rw [← HZ.out, if_neg (fun e => hph e.2)]
     subst hz0
     go_enter Tryz.func44, Tryz.ntmps44
     go_wp2
     go_ret
     exact ⟨rfl, (Below.refl _ _).alloc (Nat.le_refl _) _⟩
 · have ha2 : (a == 0) = false := by rw [beq_eq_false_iff_ne]; exact ha
   have ha3 : (a != 0) = true := by rw [bne, ha2]; rfl
   have hz0 : z = 0 := by rw [← HZ.out, if_neg (fun e => ha e.1)]
   subst hz0
   go_enter Tryz.func44, Tryz.ntmps44
   go_wp2
   go_ret
   exact ⟨rfl, (Below.refl _ _).alloc (Nat.le_refl _) _⟩
end
end Go.Proofs.YtcffeokbipjaoaaGreat
