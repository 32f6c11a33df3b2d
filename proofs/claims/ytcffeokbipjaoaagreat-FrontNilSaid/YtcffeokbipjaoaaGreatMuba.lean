/- Texts of this claim, one behind the other: Cok Cov Cow Cox Coy Crd Cre Crf Crg. -/
import Derived.LoopTactic
import Derived.Deep.LoopGhost
import Derived.RangeFuncBox
import Derived.Test.YtcffeokbipjaoaaGreatMuaj
import Derived.Test.YtcffeokbipjaoaaGreatMuap
import Derived.Test.YtcffeokbipjaoaaGreatMuau
import Derived.Test.YtcffeokbipjaoaaGreatMuax
import Derived.Test.YtcffeokbipjaoaaGreatMuaz
namespace Go.Proofs.YtcffeokbipjaoaaGreat
open Go.ChangeShapes Go.WideShapes Go.RowKit Kn
set_option linter.unusedVariables false
set_option linter.unusedSimpArgs false
noncomputable def settleAll (S : Cor) (why : Int) (l : List Nat) : Cor := l.foldl (fun S i => settleS S i why) S
structure Cor.like (S S' : Cor) : Prop where
 cf : S'.cf = S.cf
 N : S'.N = S.N
 n : S'.n = S.n
 K : S'.K = S.K
 cod : S'.cod = S.cod
 mod : S'.mod = S.mod
 pid : S'.pid = S.pid
 ph : S'.ph = S.ph
 lim : S'.lim = S.lim
 clk : S'.clk = S.clk
 tk : S'.tk = S.tk
 H : S'.q.H = S.q.H
 V : S'.q.V = S.q.V
theorem Cor.like.refl_ (S : Cor) : S.like S := ⟨rfl, rfl, rfl, rfl, rfl, rfl, rfl, rfl, rfl, rfl, rfl, rfl, rfl⟩
theorem settleS_like (S : Cor) (i : Nat) (why : Int) : S.like (settleS S i why) := ⟨rfl, rfl, rfl, rfl, rfl, rfl, rfl, rfl, rfl, rfl, rfl, rfl, rfl⟩
theorem Cor.like.trans {S S' S'' : Cor} (h : S.like S') (k : S'.like S'') : S.like S'' :=
 ⟨k.cf.trans h.cf, k.N.trans h.N, k.n.trans h.n, k.K.trans h.K, k.cod.trans h.cod, k.mod.trans h.mod, k.pid.trans h.pid, k.ph.trans h.ph, k.lim.trans h.lim, k.clk.trans h.clk, k.tk.trans h.tk, k.H.trans h.H, k.V.trans h.V⟩
theorem settleAll_like (why : Int) : ∀ (l : List Nat) (S : Cor), S.like (settleAll S why l)
 | [], S => Cor.like.refl_ S
 | i :: l, S => (settleS_like S i why).trans (settleAll_like why l (settleS S i why))
theorem settleAll_T (why : Int) (j : Nat) : ∀ (l : List Nat) (S : Cor), j ∉ l → S.q.T j = true → (settleAll S why l).q.T j = true
 | [], S, _, h => h
 | i :: l, S, hj, h => by
   rw [List.mem_cons, not_or] at hj
   refine settleAll_T why j l (settleS S i why) hj.2 ?_
   show (if j = i then false else S.q.T j) = true
   rw [if_neg hj.1]; exact h
theorem settleAll_next (S : Cor) (why : Int) (l : List Nat) (k : Nat) (hk : k < l.length) : settleAll S why (l.take (k + 1)) = settleS (settleAll S why (l.take k)) l[k] why := by
 unfold settleAll
 rw [List.take_add_one, List.getElem?_eq_getElem hk, Option.toList_some, List.foldl_append]
 rfl
theorem nodup_at {l : List Nat} (h : l.Nodup) {k : Nat} (hk : k < l.length) : l[k] ∉ l.take k := by
 intro hc
 obtain ⟨j, hj, he⟩ := List.mem_take_iff_getElem.1 hc
 exact (List.pairwise_iff_getElem.1 h) j k (by omega) hk (by omega) he
noncomputable def dueL (S : Cor) : List Nat := (dueE S.clk S.q.D).map fun e => e.m.toNat
section
variable {w w' w'' : World} {p q gc gm l g b : Nat} {r r' : Option Nat} {O Oq Oq' O1 : Nat → Prop} {S S' : Cor} {T : TypeId} {cs : Array Value}
theorem CStep.then_ (hO : ∀ k, O1 k → O k ∨ w.heap.size ≤ k) (hk : Kept O w w') (h : CStep w' p O1 S' w'') : CStep w p O S' w'' := by
 obtain ⟨O2, h4, h5, h6⟩ := h
 refine ⟨O2, h4, fun k hk2 => ?_, kept_step hk hO h6⟩
 rcases h5 k hk2 with h7 | h7
 · exact hO k h7
 · right; have := hk.size; omega
theorem TqO.sorted {N n K : Nat} {s : Ts} (h : TqO w q N n K s O) : s.D.Pairwise ltE ∧ s.D.length ≤ n := by
 obtain ⟨⟨hs, sp, sc, sf, rp, ra, rb, hp, hb', A, h1, h2⟩, h3⟩ := h
 exact ⟨by obtain ⟨b, A, m, c, E, F, _, _, ha, _⟩ := h1.heap.heapL.ex; exact ha.up, h1.heap.heapL.len.1⟩
theorem CoreL.due (h : CoreL w p O S) : (dueL S).Nodup ∧ (∀ i, i ∈ dueL S → i < S.n ∧ S.q.T i = true) ∧ (dueL S).length = (dueE S.clk S.q.D).length ∧ (dueL S).length ≤ S.n ∧ ∀ k (hk : k < (dueL S).length), S.q.V (memE (dueE S.clk S.q.D) k) = S.q.H (dueL S)[k] := by
 obtain ⟨q, gc, gm, l, r, Oq, h1, -⟩ := h.cells
 have hs := h1.que.sorted
 have hi := h1.que.inv
 have hl : (dueL S).length = (dueE S.clk S.q.D).length := by unfold dueL; rw [List.length_map]
 have at_ : ∀ k (hk : k < (dueE S.clk S.q.D).length) (hk2 : k < (dueL S).length), ∃ i : Nat, (dueL S)[k] = i ∧ memE (dueE S.clk S.q.D) k = i ∧ i < S.n ∧ S.q.T i = true ∧ (dueE S.clk S.q.D)[k] = ⟨(S.q.R i).d, (S.q.R i).a, (i : Int)⟩ := by
   intro k hk hk2
   obtain ⟨i, hm, hin, ht, he, _⟩ := hi.due_at hk
   refine ⟨i, ?_, hm, hin, ht, he⟩
   refine (List.getElem_eq_iff hk2).2 ?_
   show ((dueE S.clk S.q.D).map fun e => e.m.toNat)[k]? = some i
   rw [List.getElem?_map, List.getElem?_eq_getElem hk, he]
   simp
 refine ⟨?_, ?_, hl, ?_, ?_⟩
 · refine List.pairwise_iff_getElem.2 fun a b ha hb hab he => ?_
   obtain ⟨i, e1, _, _, _, e2⟩ := at_ a (by omega) ha
   obtain ⟨j, e3, _, _, _, e4⟩ := at_ b (by omega) hb
   have hij : i = j := by rw [← e1, ← e3]; exact he
   subst hij
   have := (List.pairwise_iff_getElem.1 (due_up S.clk hs.1)) a b (by omega) (by omega) hab
   rw [e2, e4] at this
   exact ltE_irrefl _ this
 · intro i hi2
   obtain ⟨k, hk, he⟩ := List.getElem_of_mem hi2
   obtain ⟨j, e1, _, e2, e3, _⟩ := at_ k (by omega) hk
   rw [← he, e1]; exact ⟨e2, e3⟩
 · rw [hl]; exact Nat.le_trans (List.length_filter_le _ _) hs.2
 · intro k hk
   obtain ⟨j, e1, e0, e2, e3, _⟩ := at_ k (by omega) hk
   rw [e0, e1]; exact hi.vh j e2 e3
set_option maxRecDepth 100000 in
set_option maxHeartbeats 4000000 in
theorem co_sweep {E : Cor → Cor} (h : CoreL w p O S) (hK : S.K ≤ 1000) (hend : ∀ (wq : World) (Oq : Nat → Prop), CoreL wq p Oq (settleAll S 2 (dueL S)) → Calls Tryz.prog 47 #[.pointer (some ⟨p, 0, none⟩)] wq fun e w' => e = .returned (.tuple #[]) ∧ CStep wq p Oq (E (settleAll S 2 (dueL S))) w') :
   Calls Tryz.prog 45 #[.pointer (some ⟨p, 0, none⟩)] w fun e w' => e = .returned (.tuple #[]) ∧ CStep w p O (E (settleAll S 2 (dueL S))) w' := by
 obtain ⟨q, gc, gm, l, r, Oq, h1, -⟩ := h.cells
 obtain ⟨d1, d2, d3, d4, d5⟩ := h.due
 have hOs : ∀ k, O k → k < w.heap.size := fun k hk => h.lt hk
 have c16 := h1.c16
 have c25 := h1.c25
 have hp : p < w.heap.size := h1.head.size
 have hnm := h1.ok.nm
 obtain ⟨D, hD⟩ : ∃ D, dueL S = D := ⟨_, rfl⟩
 obtain ⟨m, hm⟩ : ∃ m, D.length = m := ⟨_, rfl⟩
 rw [hD] at d1 d2 d3 d4 d5 hend ⊢
 have hm1 : m ≤ 1024 := by omega
 have hm0 : (0 : Int) ≤ (m : Int) := by omega
 have hdue := fun (wq : World) (hq : TqL wq 0 q S.N S.n S.K S.q) => tq_due S.clk hq
 have d3' : (dueE S.clk S.q.D).length = m := by rw [← d3, hm]
 rw [d3'] at hdue
 have HDU := Lib.hid hdue
 have HD := Lib.hid (And.intro d1 (And.intro d2 (And.intro d4 d5)))
 have HM := Lib.hid hm
 have HC := Lib.hid h
 have HB := Lib.hid h1
 have HOS := Lib.hid hOs
 have HE := Lib.hid hend
 clear hdue d1 d2 d3 d3' d4 d5 hm h h1 hOs hend hD
 go_enter Tryz.func45, Tryz.ntmps45
 go_upto_region 0 with fail
 go_region_held3 (fun w' => w'.cell? ⟨p, 16, none⟩ = some (.pointer (some ⟨q, 0, none⟩)) ∧ w'.cell? ⟨p, 25, none⟩ = some (.int .i64 S.clk)) (repeat (first | with_reducible assumption | refine ⟨?_, ?_⟩ | with_reducible refine kdrew ?_)) (first | (go_at_call 81; refine (HDU.out _ (HB.out.que.below (Below.drew (Below.refl _ _))).toL).mono ?_; rintro e w1 ⟨gd, rfl, how, hb⟩; have e1 : w1.cell? ⟨p, 16, none⟩ = some (.pointer (some ⟨q, 0, none⟩)) := (hb.cell hp).trans c16; have e2 : w1.cell? ⟨p, 25, none⟩ = some (.int .i64 S.clk) := (hb.cell hp).trans c25; have HW := Lib.hid how; have HBL := Lib.hid ((Below.drew (Below.refl w.heap.size w)).trans hb); clear how hb))
 obtain ⟨G, hG⟩ : ∃ G : Nat → Int, (fun i => S.q.V (memE (dueE S.clk S.q.D) i)) = G := ⟨_, rfl⟩
 have how := HW.out
 rw [hG] at how
 have hbl := HBL.out
 have hL1 := HC.out.below hbl
 have hrow : ∀ k, k < m → w1.cell? ⟨gd, k, none⟩ = some (.int .u64 (G k)) := fun k hk => how.at_ hk
 have hgd : w.heap.size ≤ gd ∧ gd < w1.heap.size := how.lo
 have hgo : ¬ O gd := fun hc => by have := HOS.out gd hc; omega
 have hst0 : CStep w1 p O (settleAll S 2 (D.take 0)) w1 := CStep.refl_ hL1 (Below.refl _ _)
 have HRW := Lib.hid hrow
 have HGD := Lib.hid (And.intro hgd.2 hgo)
 have HST := Lib.hid hst0
 have HGG := Lib.hid hG
 clear how hbl hL1 hrow hgd hgo hst0 hG c16 c25 e1 e2 HW
 go_wp2_with fail
 go_loopw [14] (fun s14 wr => ∃ k : Nat, k ≤ m ∧ s14 = .int .i64 (k : Int) ∧ CStep w1 p O (settleAll S 2 (D.take k)) wr) (fun i _ => m - (intOf i).toNat)
 case atStart => exact ⟨0, Nat.zero_le _, rfl, HST.out⟩
 case round =>
   obtain ⟨k, hk, rfl, hst⟩ := hrel
   have hm2 := HM.out
   by_cases hkm : k < m
   ·
     have hks : k < D.length := by omega
     obtain ⟨O1, hL, hO1, hK1⟩ := hst
     have hlk := settleAll_like 2 (D.take k) S
     obtain ⟨d1, d2, d3, d4⟩ := HD.out
     have hdi := d2 D[k] (List.getElem_mem hks)
     have hT := settleAll_T 2 D[k] (D.take k) S (nodup_at d1 hks) hdi.2
     have hg : (settleAll S 2 (D.take k)).q.H D[k] = G k := by rw [hlk.H, ← HGG.out]; exact (d4 k hks).symm
     have hxc : wr.cell? ⟨gd, k, none⟩ = some (.int .u64 (G k)) := (hK1.cell_ HGD.out.1 HGD.out.2).trans (HRW.out k hkm)
     have hnx := settleAll_next S 2 D k hks
     have hse := co_settle (why := 2) hL (by rw [hlk.n]; exact hdi.1) hT hg (by rw [hlk.K]; exact hK) (by omega) (by omega)
     obtain ⟨ov, hov⟩ : ∃ ov, (ocOf (settleAll S 2 (D.take k)) D[k] 2).v = ov := ⟨_, rfl⟩
     rw [hov, ← hnx] at hse
     obtain ⟨x, hx⟩ : ∃ x, G k = x := ⟨_, rfl⟩
     rw [hx] at hxc hse
     have HSE := Lib.hid hse
     have HO1 := Lib.hid hO1
     have HK1 := Lib.hid hK1
     have j1 : (k : Int) < (m : Int) := by omega
     have j2 : (0 : Int) ≤ (k : Int) := by omega
     clear hL hlk d1 d2 d3 d4 hdi hT hg hnx hse hov hx hO1 hK1 hks hm2
     go_wp2_with fail
     refine HSE.out.mono ?_
     rintro e w2 ⟨rfl, hs2⟩
     have hs3 := CStep.then_ HO1.out HK1.out hs2
     have HS3 := Lib.hid hs3
     clear hs2 hs3
     go_wp2_with fail
     first | (go_roundw; case rel => exact ⟨k + 1, by omega, by go_num, HS3.out⟩; case measure => simp [intOf]; omega) | exact ⟨⟨k + 1, by omega, by go_num, HS3.out⟩, by simp [intOf]; omega⟩
   ·
     obtain rfl : k = m := by omega
     rw [show D.take k = D by rw [← hm2]; exact List.take_length] at hst
     obtain ⟨O1, hL, hO1, hK1⟩ := hst
     have HEN := Lib.hid (HE.out wr O1 hL)
     have HO1 := Lib.hid hO1
     have HK1 := Lib.hid hK1
     clear hL hO1 hK1 hm2
     have j1 : ¬ (k : Int) < (k : Int) := by omega
     go_wp2_with fail
     refine HEN.out.mono ?_
     rintro e w2 ⟨rfl, hs2⟩
     have hs3 := CStep.after HBL.out (CStep.then_ HO1.out HK1.out hs2)
     have HS3 := Lib.hid hs3
     clear hs2 hs3
     go_wp2
     exact bodyPost_end (results_none rfl _ _ _) rfl ⟨rfl, HS3.out⟩
end
end Go.Proofs.YtcffeokbipjaoaaGreat
namespace Go.Proofs.YtcffeokbipjaoaaGreat
open Go.ChangeShapes Go.WideShapes Go.RowKit Kn
set_option linter.unusedVariables false
set_option linter.unusedSimpArgs false
def hbOf (S : Cor) (t : Nat) : Bool := highB S.cf.ta (sat (S.clk - (S.q.R (canI S t)).e)) ((S.q.L t).length : Int)
noncomputable def thinGo (t : Nat) : Nat → Cor → Cst → Int → Cor × Cst
 | 0, S, st, _ => (S, st)
 | f + 1, S, st, d => if d = 0 then (S, st) else if lastE S = t then
     (if d = 2 then (settleS S (canI S t) 5, noteC st S.cf.iv S.clk (hbOf (settleS S (canI S t) 5) t))
      else thinGo t f (settleS S (canI S t) 5) (moreC st S.cf.iv S.clk (hbOf (settleS S (canI S t) 5) t)).1 (moreC st S.cf.iv S.clk (hbOf (settleS S (canI S t) 5) t)).2)
   else (settleS S (hdE (S.q.L (lastE S))) 5, st)
def codS (S : Cor) (t : Nat) (st : Cst) : Cor := { S with cod := fun j => if j = t then st else S.cod j }
noncomputable def thinZ (S : Cor) (t : Nat) : Cor × Cst := thinGo t ((S.q.L t).length) S (lookC (S.cod t) S.cf.iv S.clk (hbOf S t)).1 (lookC (S.cod t) S.cf.iv S.clk (hbOf S t)).2
noncomputable def thinS (S : Cor) (t : Nat) : Cor := codS (thinZ S t).1 t (thinZ S t).2
section
variable {w w' : World} {p q gc gm l : Nat} {r : Option Nat} {O Oq : Nat → Prop} {S S' : Cor}
theorem CoreB.lists (h : CoreB w p q gc gm l r Oq S) : Lists S.N S.n S.q.L := by
 obtain ⟨⟨hs, sp, sc, sf, rp, ra, rb, hp, hb, A, h1, h2⟩, h3⟩ := h.que
 exact h1.rows.lists
theorem CoreL.lists (h : CoreL w p O S) : Lists S.N S.n S.q.L := by
 obtain ⟨q, gc, gm, l, r, Oq, h1, -⟩ := h.cells
 exact h1.lists
end
end Go.Proofs.YtcffeokbipjaoaaGreat
namespace Go.Proofs.YtcffeokbipjaoaaGreat
open Go.ChangeShapes Go.WideShapes Go.RowKit Kn
set_option linter.unusedVariables false
set_option linter.unusedSimpArgs false
abbrev cpT : TypeId := 286
theorem one_op {P : Program} {ops : Array Oper} {Q : Exit → Act → World → Prop} {K : Act → World → Prop} {i : Nat} {o : Oper} {a : Act} {w : World} (hi : ops[i]? = some o) (hw : Region.wanted o (yielded ops a.tmps) = true) (h : o.wp P a w K Q) : wpOp P ops Q i K a w := by
 unfold Go.wpOp
 simp only [hi, hw, if_true]
 exact .inl h
def cpRow (a b : Int) : List Value := [.int .i64 a, .int .i64 b]
def put6 (w : World) (g o : Nat) (m : Cst) : World := (((((w.setCell ⟨g, o, none⟩ (.bool m.ab)).setCell ⟨g, o + 1, none⟩ (.int .i64 m.fi)).setCell ⟨g, o + 2, none⟩ (.bool m.dr)).setCell ⟨g, o + 3, none⟩ (.int .i64 m.ne)).setCell ⟨g, o + 4, none⟩ (.int .u64 m.co)).setCell ⟨g, o + 5, none⟩ (.int .u64 m.la)
section
variable {w w' w'' : World} {p q gc gm l g : Nat} {r r' : Option Nat} {O Oq Oq' : Nat → Prop} {S S' : Cor}
theorem put6_blk {T : TypeId} {m0 m : Cst} (h : Blk w g T (cRow m0).toArray) : Blk (put6 w g 0 m) g T (cRow m).toArray := by
 have := (((((h.set_ 0 (.bool m.ab)).set_ 1 (.int .i64 m.fi)).set_ 2 (.bool m.dr)).set_ 3 (.int .i64 m.ne)).set_ 4 (.int .u64 m.co)).set_ 5 (.int .u64 m.la)
 simpa [put6, cRow] using this
theorem put6_kept {o : Nat} {m : Cst} : Kept (fun k => k = g) w (put6 w g o m) :=
 ((((((Kept.refl (fun k => k = g) w).set_ (p := ⟨g, o, none⟩) (.inl rfl) _).set_ (p := ⟨g, o + 1, none⟩) (.inl rfl) _).set_ (p := ⟨g, o + 2, none⟩) (.inl rfl) _).set_ (p := ⟨g, o + 3, none⟩) (.inl rfl) _).set_ (p := ⟨g, o + 4, none⟩) (.inl rfl) _).set_ (p := ⟨g, o + 5, none⟩) (.inl rfl) _
structure Thin (w0 wr : World) (p g4 g5 : Nat) (O : Nat → Prop) (S : Cor) (ta iv : Int) (st : Cst) (O1 : Nat → Prop) : Prop where
 co : CoreL wr p O1 S
 sub : ∀ k, O1 k → O k ∨ w0.heap.size ≤ k
 kp : Kept O w0 wr
 b4 : Blk wr g4 cpT (cpRow ta iv).toArray
 b5 : Blk wr g5 csT (cRow st).toArray
 n4 : ¬ O1 g4
 n5 : ¬ O1 g5
 l4 : w0.heap.size ≤ g4
 l5 : w0.heap.size ≤ g5
theorem Thin.step {w0 wr w' : World} {g4 g5 : Nat} {O1 : Nat → Prop} {ta iv : Int} {st : Cst} (h : Thin w0 wr p g4 g5 O S ta iv st O1) (hc : CStep wr p O1 S' w') : ∃ O2, Thin w0 w' p g4 g5 O S' ta iv st O2 := by
 obtain ⟨h1, h2, h3, h4, h5, h6, h7, h8, h9⟩ := h
 have hs := h3.size
 have hc' := hc
 obtain ⟨O2, c1, c2, c3⟩ := hc
 refine ⟨O2, c1, fun k hk => ?_, kept_step h3 h2 c3, h4.kept c3 h6, h5.kept c3 h7, fun e => ?_, fun e => ?_, h8, h9⟩
 · rcases c2 k hk with e | e
   · exact h2 k e
   · right; omega
 · rcases c2 _ e with d | d
   · exact h6 d
   · have := h4.size; omega
 · rcases c2 _ e with d | d
   · exact h7 d
   · have := h5.size; omega
theorem Thin.below {w0 wr w' : World} {g4 g5 : Nat} {O1 : Nat → Prop} {ta iv : Int} {st : Cst} (h : Thin w0 wr p g4 g5 O S ta iv st O1) (hb : Below wr.heap.size wr w') : Thin w0 w' p g4 g5 O S ta iv st O1 :=
 ⟨h.co.below hb, h.sub, kept_step h.kp h.sub (Kept.of_below hb), h.b4.below_ hb h.b4.size, h.b5.below_ hb h.b5.size, h.n4, h.n5, h.l4, h.l5⟩
theorem Thin.put {w0 wr : World} {g4 g5 : Nat} {O1 : Nat → Prop} {ta iv : Int} {st : Cst} (m : Cst) (h : Thin w0 wr p g4 g5 O S ta iv st O1) : Thin w0 (put6 wr g5 0 m) p g4 g5 O S ta iv m O1 := by
 have hk : Kept (fun k => k = g5) wr (put6 wr g5 0 m) := put6_kept
 exact ⟨h.co.box_ h.b5 csT_not h.n5 hk, h.sub, kept_step (O' := fun k => k = g5) h.kp (fun k hk => .inr (by have := h.l5; omega)) hk, h.b4.kept hk (h.b4.other h.b5 (by decide)), put6_blk h.b5, h.n4, h.n5, h.l4, h.l5⟩
theorem Thin.out {w0 wr : World} {g4 g5 : Nat} {O1 : Nat → Prop} {ta iv : Int} {st : Cst} {t : Nat} (h : Thin w0 wr p g4 g5 O S ta iv st O1) (hB : CoreB wr p q gc gm l r Oq S) (hO : ∀ k, O1 k ↔ (k = p ∨ k = gc ∨ k = gm ∨ k = l ∨ r = some k ∨ Oq k)) (ht : t < S.N) (hok : st.ok) :
   CStep w0 p O (codS S t st) (put6 wr gc (t * 6) st) := by
 refine ⟨O1, ⟨⟨q, gc, gm, l, r, Oq, hB.cod_ ht st hok, hO⟩⟩, h.sub, kept_step (O' := fun k => k = gc) h.kp (fun k hk => ?_) put6_kept⟩
 rw [hk]
 exact h.sub gc ((hO gc).2 (.inr (.inl rfl)))
end
end Go.Proofs.YtcffeokbipjaoaaGreat
namespace Go.Proofs.YtcffeokbipjaoaaGreat
open Go.ChangeShapes Go.WideShapes Go.RowKit Kn
set_option linter.unusedVariables false
set_option linter.unusedSimpArgs false
theorem thin_like (t : Nat) : ∀ (f : Nat) (S : Cor) (st : Cst) (d : Int), S.like (thinGo t f S st d).1
 | 0, S, _, _ => Cor.like.refl_ S
 | f + 1, S, st, d => by
   unfold thinGo
   split
   · exact Cor.like.refl_ S
   · split
     · split
       · exact settleS_like S _ 5
       · exact (settleS_like S _ 5).trans (thin_like t f _ _ _)
     · exact settleS_like S _ 5
open Classical in
noncomputable def firstE (S : Cor) : Nat := if h : ∃ u, FirstIs S u then Classical.choose h else 0
noncomputable def pollM (S : Cor) : Cor := thinS (turnS (restK S S.N) (firstE S)) (firstE S)
open Classical in
noncomputable def pollS (S : Cor) : Cor := if S.ph = 2 then S else if ∃ u, FirstIs S u then settleS (pollM S) (canI (pollM S) (firstE S)) 1 else restK S S.N
open Classical in
noncomputable def pollR (S : Cor) : Int × Int × Int × Int × Int := if S.ph = 2 then (9, 0, 0, 0, 0) else if ∃ u, FirstIs S u then
   (7, ((pollM S).q.R (canI (pollM S) (firstE S))).a, ((pollM S).q.R (canI (pollM S) (firstE S))).b, ((pollM S).q.R (canI (pollM S) (firstE S))).c, sat ((pollM S).clk - ((pollM S).q.R (canI (pollM S) (firstE S))).e)) else (8, 0, 0, 0, 0)
section
variable {w w' w'' : World} {p q gc gm l g b : Nat} {r r' : Option Nat} {O Oq Oq' O1 : Nat → Prop} {S S' : Cor} {T : TypeId} {cs : Array Value}
structure One (w0 wr : World) (p b : Nat) (T : TypeId) (cs : Array Value) (O : Nat → Prop) (S : Cor) (O1 : Nat → Prop) : Prop where
 co : CoreL wr p O1 S
 sub : ∀ k, O1 k → O k ∨ w0.heap.size ≤ k
 kp : Kept O w0 wr
 bb : Blk wr b T cs
 nb : ¬ O1 b
 lb : w0.heap.size ≤ b
theorem One.step {w0 wr w' : World} (h : One w0 wr p b T cs O S O1) (hc : CStep wr p O1 S' w') : ∃ O2, One w0 w' p b T cs O S' O2 := by
 obtain ⟨h1, h2, h3, h4, h5, h6⟩ := h
 have hs := h3.size
 obtain ⟨O2, c1, c2, c3⟩ := hc
 refine ⟨O2, c1, fun k hk => ?_, kept_step h3 h2 c3, h4.kept c3 h5, fun e => ?_, h6⟩
 · rcases c2 k hk with e | e
   · exact h2 k e
   · right; omega
 · rcases c2 _ e with d | d
   · exact h5 d
   · have := h4.size; omega
theorem One.below {w0 wr w' : World} (h : One w0 wr p b T cs O S O1) (hb : Below wr.heap.size wr w') : One w0 w' p b T cs O S O1 :=
 ⟨h.co.below hb, h.sub, kept_step h.kp h.sub (Kept.of_below hb), h.bb.below_ hb h.bb.size, h.nb, h.lb⟩
theorem One.fin {w0 wr : World} {x0 x1 x2 x3 x4 y0 y1 y2 y3 y4 : Value} (h : One w0 wr p b T #[x0, x1, x2, x3, x4] O S O1) (hT : T ∉ tqTypes) : CStep w0 p O S (put5 wr b y0 y1 y2 y3 y4) ∧ Blk (put5 wr b y0 y1 y2 y3 y4) b T #[y0, y1, y2, y3, y4] :=
 ⟨⟨O1, h.co.box_ h.bb hT h.nb put5_kept, h.sub, kept_step (O' := fun k => k = b) h.kp (fun k hk => .inr (by have := h.lb; omega)) put5_kept⟩, put5_blk h.bb⟩
def z5 : Array Value := #[.int .u8 0, .int .u64 0, .int .i64 0, .int .i64 0, .int .i64 0]
end
end Go.Proofs.YtcffeokbipjaoaaGreat
namespace Go.Proofs.YtcffeokbipjaoaaGreat
open Go.ChangeShapes Go.WideShapes Go.RowKit Kn
set_option linter.unusedVariables false
set_option linter.unusedSimpArgs false
abbrev rqT : TypeId := 107
abbrev quT : TypeId := 170
abbrev sqT : TypeId := 167
def rRow (r : Rq) : List Value := [.int .u64 r.a, .int .i64 r.b, .int .i64 r.c, .int .i64 r.d, .int .i64 r.e]
def qRow (h : Int) (r : Rq) : List Value := [.int .u64 h, .int .u64 r.a, .int .i64 r.b, .int .i64 r.c, .int .i64 r.d, .int .i64 r.e]
def flatQ (V : Nat → Int) (R : Nat → Rq) (xs : List Nat) : List Value := xs.flatMap fun i => qRow (V i) (R i)
theorem flatQ_app (V : Nat → Int) (R : Nat → Rq) (xs : List Nat) (i : Nat) : flatQ V R (xs ++ [i]) = flatQ V R xs ++ qRow (V i) (R i) := by simp [flatQ]
theorem quinfo : (Tryz.prog.info? quT).map (fun i => (i.zero, i.size, i.bytes)) = some (some (.agg #[.int .u64 0, .int .u64 0, .int .i64 0, .int .i64 0, .int .i64 0, .int .i64 0]), 6, 48) := by kernel_rfl
theorem q_one {h : Int} {r : Rq} : ∀ u ∈ qRow h r, u.oneCell' = true := by
 intro u hu
 unfold qRow at hu
 simp only [List.mem_cons, List.not_mem_nil, or_false] at hu
 rcases hu with rfl | rfl | rfl | rfl | rfl | rfl <;> rfl
theorem KpQ.app {B k n0 sz n : Nat} {e : TypeId} {v : Value} {xs : List Value} {X Y : World} (ho : X.ownsRow n0 e sz v n xs) (hB : B ≤ n0) (hBX : B ≤ X.heap.size) (hg : X.grownBy Y v.ownBlock) (hne : e ≠ tyQ ∧ e ≠ tyY ∧ e ≠ tyR ∧ e ≠ tyI) : KpQ B k X Y := by
 refine ⟨(Below.refl B X).grown hg hBX (fun r hr => ?_), fun g t cs hk ht hb => hb.grown_ hg ho (fun h => ?_)⟩
 · rcases ho.2 with ⟨rfl, _⟩ | ⟨g, cap, cur, rfl, h1, _⟩
   · simp [Value.ownBlock] at hr
   · have : g = r := by simpa [Value.ownBlock] using hr
     omega
 · obtain ⟨h1, h2, h3, h4⟩ := hne
   rcases ht with e1 | e1 | e1 | e1
   · exact h1 (h.trans e1)
   · exact h2 (h.trans e1)
   · exact h3 (h.trans e1)
   · exact h4 (h.trans e1)
theorem allT_mem {L : Nat → List Nat} {t x : Nat} : x ∈ allT L t ↔ ∃ r, r < t ∧ x ∈ L r := by
 unfold allT; rw [List.mem_flatMap]
 constructor
 · rintro ⟨r, hr, hx⟩; exact ⟨r, List.mem_range.1 hr, hx⟩
 · rintro ⟨r, hr, hx⟩; exact ⟨r, List.mem_range.2 hr, hx⟩
theorem Lists.all_nd {N M : Nat} {L : Nat → List Nat} (h : Lists N M L) : ∀ t, t ≤ N → (allT L t).Nodup
 | 0, _ => List.nodup_nil
 | t + 1, ht => by
   rw [allT_succ, List.nodup_append]
   refine ⟨h.all_nd t (by omega), h.nd t (by omega), fun x hx y hy e => ?_⟩
   subst e
   obtain ⟨r, hr, hxr⟩ := allT_mem.1 hx
   have := h.ap r t (by omega) (by omega) x hxr hy
   omega
theorem Lists.all_len {N M : Nat} {L : Nat → List Nat} (h : Lists N M L) : (allT L N).length ≤ M :=
 nodup_le M _ (h.all_nd N (Nat.le_refl _)) (fun x hx => by obtain ⟨r, hr, hxr⟩ := allT_mem.1 hx; exact h.lt r hr x hxr)
theorem galloc (w : World) (o : Obj) (row : Option Nat) : w.grownBy (w.alloc o) row := ⟨rfl, rfl, rfl, by simp, fun k hk _ => Below.heap_alloc w o k hk⟩
theorem ax_blk {B : Nat} {a' : Act} {T : TypeId} {cs : Array Value} (fa : Nat → Act) : OwnFrom B (fun (_ : Unit) W => ∃ b, a' = fa b ∧ Blk W b T cs) := fun _ X Y row hs hg hr => by
 obtain ⟨b, h1, h2⟩ := hs
 exact ⟨b, h1, blk_stay h2 hg hr⟩
attribute [local go_sem] Oper.semAt_some
section
variable {w w' w'' : World} {p q gc gm l g b : Nat} {r r' : Option Nat} {O Oq Oq' O1 : Nat → Prop} {S S' : Cor} {T : TypeId} {cs : Array Value}
set_option maxRecDepth 100000 in
set_option maxHeartbeats 8000000 in
theorem co_allq (h : CoreL w p O S) (hK0 : S.K ≤ 1000) :
   Calls Tryz.prog 88 #[.pointer (some ⟨p, 0, none⟩)] w fun e w' => ∃ v, e = .returned v ∧ w'.ownsRow w.heap.size quT 6 v (allT S.q.L S.N).length (flatQ S.q.V S.q.R (allT S.q.L S.N)) ∧ Below w.heap.size w w' := by
 obtain ⟨q, gc, gm, l, r, Oq, h1, hO⟩ := h.cells
 have hN8 : S.N ≤ 8 := h1.ok.N8
 have hK : S.K ≤ 1000000 := by omega
 have c16 := h1.c16
 have hp := h1.head.size
 have hQ := h1.que.toL
 have hlen : (allT S.q.L S.N).length ≤ 10000 := by have := h1.lists.all_len; have := h1.ok.nm; omega
 have HQ := Lib.hid hQ
 have HL := Lib.hid hlen
 clear h h1 hO hQ hlen
 obtain ⟨i0, hi, hz0, hz1, hz2⟩ := inf_of quinfo
 refine (callsIn_wide (n := 9)).1 ?_
 refine callsIn_of_wp_marks Tryz.func88 rfl trivial ?_ rfl
 simp only [Tryz.ntmps88, List.size_toArray, List.length_cons, List.length_nil, Nat.reduceAdd, Nat.reduceSub, Array.replicate_succ, Array.replicate_zero, List.push_toArray, List.append_toArray, List.nil_append, List.cons_append]
 gi_wp2
 refine ⟨trivial, ?_⟩
 gi_at_call 48
 refine (callsIn_wide.2 (tqall_made (some ⟨q, 0, none⟩) _)).mono ?_
 rintro x W1 ⟨rfl, hk, hb⟩
 have hk0 : (w.alloc (.cells #[.slice none 0 0] sqT)).heap.size = w.heap.size + 1 := by simp
 have bO : Boxed W1 w.heap.size sqT (.slice none 0 0) := Blk.below_ (Blk.made w sqT #[.slice none 0 0]) hb (by simp)
 have hB1 : Below w.heap.size w W1 := ((Below.refl w.heap.size w).alloc (Nat.le_refl _) _).trans (hb.mono (by simp))
 rw [hk0] at hk ⊢
 have hsq := tq_way (m := 8) (k := w.heap.size + 1) w W1 HQ.out hN8 hK (by omega) hB1 (by omega) hk
 clear hb hk0 hk c16
 gi_wp2
 refine wpIn_rangeP rfl (by omega) (gf := 89) (lb := #[.pointer (some ⟨w.heap.size + 1, 0, none⟩)]) rfl trivial (enters_of Tryz.func89 (by kernel_rfl) rfl)
   hsq KpQ.trans (fun X l o o' hl ho hc _ => KpQ.put X l o o' (Nat.le_trans hB1.size hl) ho hc) (Below.refl _ _) (fun _ => rfl)
   (fun pre W => (∃ v, Boxed W w.heap.size sqT v ∧ W.ownsRow w.heap.size quT 6 v pre.length (flatQ S.q.V S.q.R pre) ∧ True) ∧ Below w.heap.size w W)
   (fun _ _ _ => False)
   (OwnFrom.and (Own.from (holdsRow_own w.heap.size w.heap.size sqT quT 6 (fun pre => pre.length) (fun pre => flatQ S.q.V S.q.R pre) (fun _ _ => True)) _) (ownFrom_below (Nat.le_refl _) hB1.size))
   (fun _ _ _ _ _ hs _ _ => hs)
   ⟨⟨_, bO, World.ownsRow_nil _ _ _ _, trivial⟩, hB1⟩
   (fun x a' W => ∃ b, a' = ({ tmps := #[.pointer (some ⟨p, 0, none⟩), undef, .slice none 0 0, .pointer (some ⟨w.heap.size, 0, none⟩), .int .u64 (S.q.V x), .pointer (some ⟨b, 0, none⟩), .pointer (some ⟨p, 0, none⟩), .pointer (some ⟨p, 0, none⟩), .pointer (some ⟨p, 16, none⟩), .pointer (some ⟨q, 0, none⟩), .func (.func 89) #[] #[.pointer (some ⟨w.heap.size + 1, 0, none⟩)], .int .u64 (S.q.V x), .agg #[.int .u64 (S.q.R x).a, .int .i64 (S.q.R x).b, .int .i64 (S.q.R x).c, .int .i64 (S.q.R x).d, .int .i64 (S.q.R x).e], undef, undef, undef, undef, undef, undef, undef], defers := [] } : Act) ∧ Blk W b rqT (rRow (S.q.R x)).toArray)
   (fun x a' => ax_blk (fun b => ({ tmps := #[.pointer (some ⟨p, 0, none⟩), undef, .slice none 0 0, .pointer (some ⟨w.heap.size, 0, none⟩), .int .u64 (S.q.V x), .pointer (some ⟨b, 0, none⟩), .pointer (some ⟨p, 0, none⟩), .pointer (some ⟨p, 0, none⟩), .pointer (some ⟨p, 16, none⟩), .pointer (some ⟨q, 0, none⟩), .func (.func 89) #[] #[.pointer (some ⟨w.heap.size + 1, 0, none⟩)], .int .u64 (S.q.V x), .agg #[.int .u64 (S.q.R x).a, .int .i64 (S.q.R x).b, .int .i64 (S.q.R x).c, .int .i64 (S.q.R x).d, .int .i64 (S.q.R x).e], undef, undef, undef, undef, undef, undef, undef], defers := [] } : Act))) ?assign ?body ?done ?stop
 case assign =>
   rintro lz pre x W K ⟨⟨v, hv, hrow, -⟩, hB⟩ hlt hK
   have hre : rqv (S.q.R x) = .agg #[.int .u64 (S.q.R x).a, .int .i64 (S.q.R x).b, .int .i64 (S.q.R x).c, .int .i64 (S.q.R x).d, .int .i64 (S.q.R x).e] := rfl
   gi_wp2
   refine hK _ _ (KeepsFrom.of_grownBy (galloc W _ none) (fun j e => by cases e)) (KpQ.of_below ((Below.refl _ W).alloc (Nat.le_refl _) _) hB.size) ⟨⟨v, hv.alloc _, hrow.alloc _, trivial⟩, hB.alloc hB.size _⟩ ⟨_, rfl, Blk.made _ _ _⟩
 case body =>
   rintro lz pre x a' W hl hr ⟨⟨v, hv, hrow, -⟩, hB⟩ ⟨b, rfl, hb⟩ hlt
   have hc := hv.cell
   obtain ⟨⟨ya, yb, yc, yd, ye⟩, hy⟩ : ∃ y, S.q.R x = y := ⟨_, rfl⟩
   rw [hy] at hb
   have n0 : W.cell? ⟨b, 0, none⟩ = some (.int .u64 ya) := hb.val (i := 0) rfl
   have n1 : W.cell? ⟨b, 1, none⟩ = some (.int .i64 yb) := hb.val (i := 1) rfl
   have n2 : W.cell? ⟨b, 2, none⟩ = some (.int .i64 yc) := hb.val (i := 2) rfl
   have n3 : W.cell? ⟨b, 3, none⟩ = some (.int .i64 yd) := hb.val (i := 3) rfl
   have n4 : W.cell? ⟨b, 4, none⟩ = some (.int .i64 ye) := hb.val (i := 4) rfl
   have HR := Lib.hid hrow
   have HV := Lib.hid hv
   have HBB := Lib.hid hB
   have HY := Lib.hid hy
   have hM : pre.length ≤ 10000 := by have h1 := hlt.length_le; have h2 := HL.out; rw [List.length_append] at h1; omega
   have hWs := hB.size
   have H1C := q_one (h := S.q.V x) (r := ⟨ya, yb, yc, yd, ye⟩)
   clear hb hr hrow hv hB hy hsq hlt
   gi_wp2_with (gi_at_builtin; refine wpListIn_append_own _ rfl _ _ sqT rfl w.heap.size quT i0 (.agg #[.int .u64 0, .int .u64 0, .int .i64 0, .int .i64 0, .int .i64 0, .int .i64 0]) 6 48 Tryz.underlying167 hi hz0 hz1 hz2 rfl (by decide) _ _ _ rfl (HR.out.alloc _) ⟨W.heap.size, 0, none⟩ 1 1 [.int .u64 (S.q.V x), .int .u64 ya, .int .i64 yb, .int .i64 yc, .int .i64 yd, .int .i64 ye] rfl rfl (World.news_of_block (cs := #[.int .u64 (S.q.V x), .int .u64 ya, .int .i64 yb, .int .i64 yc, .int .i64 yd, .int .i64 ye]) (t := quT) (fr := (0, 0)) (Blk.new_ (by simp))) H1C (by have := maxbig; omega) (by omega) (by simp; omega) ?_; intro v' w1 hown' hgrow _; obtain ⟨g', cap', rfl⟩ := ownsRow_succ hown'; obtain ⟨hv1, hv2, hr2, hk2, hb2⟩ := HV.out.appended (by decide) HR.out HBB.out.size (Nat.le_refl _) hown' hgrow; have hc1 := hv1.cell; have hf1 := hv1.frozen; have hKP := KpQ.trans (KpQ.of_below (k := w.heap.size + 1) ((Below.refl W.heap.size W).alloc (Nat.le_refl _) (.cells #[.int .u64 (S.q.V x), .int .u64 ya, .int .i64 yb, .int .i64 yc, .int .i64 yd, .int .i64 ye] quT)) hWs) (KpQ.app (k := w.heap.size + 1) (HR.out.alloc (.cells #[.int .u64 (S.q.V x), .int .u64 ya, .int .i64 yb, .int .i64 yc, .int .i64 yd, .int .i64 ye] quT)) (Nat.le_refl _) (by simp; omega) hgrow (by decide)))
   exact ⟨hk2.from _, KpQ.trans hKP (KpQ.set_ _ (Nat.le_refl _) (by omega) _), ⟨_, hv2, by rw [flatQ_app, HY.out, List.length_append]; simpa [qRow] using hr2, trivial⟩, HBB.out.trans hb2⟩
 case done =>
   rintro D W hD ⟨⟨v, hv, hrow, -⟩, hB⟩ hK
   have hc := hv.cell
   gi_wp2
   refine ⟨by simp, .inl ⟨_, _, rfl, run_takeDeferred hK, ?_⟩⟩
   refine ⟨_, results_tmp rfl _ _ _, v, rfl, ?_, ?_⟩
   · exact ownsRow_putObj hrow (.deferred none) hK rfl
   · exact hB.trans ⟨rfl, rfl, rfl, by simp, fun i hi => World.putObj_heap_other (by have := hB1.size; omega)⟩
 case stop =>
   rintro D c pre W _ _ h _
   exact h.elim
end
end Go.Proofs.YtcffeokbipjaoaaGreat
namespace Go.Proofs.YtcffeokbipjaoaaGreat
open Go.ChangeShapes Go.WideShapes Go.RowKit Go.Sort Kn
set_option linter.unusedVariables false
set_option linter.unusedSimpArgs false
theorem Grew.trans {a b c : World} (h : Grew a b) (k : Grew b c) : Grew a c := by
 obtain ⟨q, os, rfl⟩ := h
 obtain ⟨r, ps, rfl⟩ := k
 exact ⟨q + r, os ++ ps, (grow_grow ((a.drewN q).drewN r) os ps).trans (by simp [World.drewN, Nat.add_assoc])⟩
theorem Grew.below {w w' : World} (h : Grew w w') : Below w.heap.size w w' := by
 obtain ⟨q, os, rfl⟩ := h
 exact ⟨rfl, rfl, rfl, by rw [size_grow]; exact Nat.le_add_right _ _, fun k hk => heap_grow_old _ _ hk⟩
def keyW (b c : Int) : Int := wrap64 (wrap64 (b * 128) + c)
def cmpI (a b : Int) : Int := if a < b then -1 else if b < a then 1 else 0
def orI (x y : Int) : Int := if x = 0 then y else x
end Go.Proofs.YtcffeokbipjaoaaGreat
namespace Go.Proofs.YtcffeokbipjaoaaGreat
open Go.ChangeShapes Go.WideShapes Go.RowKit Kn
set_option linter.unusedVariables false
set_option linter.unusedSimpArgs false
def leastI (a b c a' b' c' : Int) : Int := orI (cmpI (keyW b' c') (keyW b c)) (cmpI a a')
end Go.Proofs.YtcffeokbipjaoaaGreat
namespace Go.Proofs.YtcffeokbipjaoaaGreat
open Go.ChangeShapes Go.WideShapes Go.RowKit Go.Sort Go.Lib Kn
set_option linter.unusedVariables false
set_option linter.unusedSimpArgs false
structure Qu where
 h : Int
 r : Rq
 i : Nat
instance : Inhabited Qu := ⟨⟨0, ⟨0, 0, 0, 0, 0⟩, 0⟩⟩
def keyQ (x : Qu) : Int := keyW x.r.b x.r.c
def cmpQ (x y : Qu) : Int := leastI x.r.a x.r.b x.r.c y.r.a y.r.b y.r.c
def cutSort (L : List Qu) : List Qu := (pdq (ltOf cmpQ) L.toArray 0 L.length (Lib.bitLen L.length) true true).toList
section
variable {w w' : World} {B k : Nat} {v : Value} {L : List Qu}
end
end Go.Proofs.YtcffeokbipjaoaaGreat
namespace Go.Proofs.YtcffeokbipjaoaaGreat
open Go.ChangeShapes Go.WideShapes Go.RowKit Go.Sort Kn
set_option linter.unusedVariables false
set_option linter.unusedSimpArgs false
def loQ (E : Int) (x : Qu) : Prop := keyQ x < E
end Go.Proofs.YtcffeokbipjaoaaGreat
