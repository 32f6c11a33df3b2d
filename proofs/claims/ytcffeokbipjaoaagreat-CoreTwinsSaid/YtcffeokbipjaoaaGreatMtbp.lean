/- Texts of this claim, one behind the other: Cok Cov. -/
import Derived.LoopTactic
import Derived.Deep.LoopGhost
import Derived.Test.YtcffeokbipjaoaaGreatMtbm
import Derived.Test.YtcffeokbipjaoaaGreatMtbo
namespace Go.Proofs.YtcffeokbipjaoaaGreat
open Go.ChangeShapes Go.WideShapes Go.RowKit Kn
set_option linter.unusedVariables false
set_option linter.unusedSimpArgs false
noncomputable def settleAll (S : Cor) (why : Int) (l : List Nat) : Cor := l.foldl (fun S i => settleS S i why) S
structure Cor.like (S S' : Cor) : Prop where
 cf : S'.cf = S.cf
 N : S'.N = S.N
 n : S'.n = S.n
 K : S'.K = S.K
 cod : S'.cod = S.cod
 mod : S'.mod = S.mod
 pid : S'.pid = S.pid
 ph : S'.ph = S.ph
 lim : S'.lim = S.lim
 clk : S'.clk = S.clk
 tk : S'.tk = S.tk
 H : S'.q.H = S.q.H
 V : S'.q.V = S.q.V
theorem Cor.like.refl_ (S : Cor) : S.like S := ⟨rfl, rfl, rfl, rfl, rfl, rfl, rfl, rfl, rfl, rfl, rfl, rfl, rfl⟩
theorem settleS_like (S : Cor) (i : Nat) (why : Int) : S.like (settleS S i why) := ⟨rfl, rfl, rfl, rfl, rfl, rfl, rfl, rfl, rfl, rfl, rfl, rfl, rfl⟩
theorem Cor.like.trans {S S' S'' : Cor} (h : S.like S') (k : S'.like S'') : S.like S'' :=
 ⟨k.cf.trans h.cf, k.N.trans h.N, k.n.trans h.n, k.K.trans h.K, k.cod.trans h.cod, k.mod.trans h.mod, k.pid.trans h.pid, k.ph.trans h.ph, k.lim.trans h.lim, k.clk.trans h.clk, k.tk.trans h.tk, k.H.trans h.H, k.V.trans h.V⟩
theorem settleAll_like (why : Int) : ∀ (l : List Nat) (S : Cor), S.like (settleAll S why l)
 | [], S => Cor.like.refl_ S
 | i :: l, S => (settleS_like S i why).trans (settleAll_like why l (settleS S i why))
theorem settleAll_T (why : Int) (j : Nat) : ∀ (l : List Nat) (S : Cor), j ∉ l → S.q.T j = true → (settleAll S why l).q.T j = true
 | [], S, _, h => h
 | i :: l, S, hj, h => by
   rw [List.mem_cons, not_or] at hj
   refine settleAll_T why j l (settleS S i why) hj.2 ?_
   show (if j = i then false else S.q.T j) = true
   rw [if_neg hj.1]; exact h
theorem settleAll_next (S : Cor) (why : Int) (l : List Nat) (k : Nat) (hk : k < l.length) : settleAll S why (l.take (k + 1)) = settleS (settleAll S why (l.take k)) l[k] why := by
 unfold settleAll
 rw [List.take_add_one, List.getElem?_eq_getElem hk, Option.toList_some, List.foldl_append]
 rfl
theorem nodup_at {l : List Nat} (h : l.Nodup) {k : Nat} (hk : k < l.length) : l[k] ∉ l.take k := by
 intro hc
 obtain ⟨j, hj, he⟩ := List.mem_take_iff_getElem.1 hc
 exact (List.pairwise_iff_getElem.1 h) j k (by omega) hk (by omega) he
noncomputable def dueL (S : Cor) : List Nat := (dueE S.clk S.q.D).map fun e => e.m.toNat
section
variable {w w' w'' : World} {p q gc gm l g b : Nat} {r r' : Option Nat} {O Oq Oq' O1 : Nat → Prop} {S S' : Cor} {T : TypeId} {cs : Array Value}
theorem CStep.then_ (hO : ∀ k, O1 k → O k ∨ w.heap.size ≤ k) (hk : Kept O w w') (h : CStep w' p O1 S' w'') : CStep w p O S' w'' := by
 obtain ⟨O2, h4, h5, h6⟩ := h
 refine ⟨O2, h4, fun k hk2 => ?_, kept_step hk hO h6⟩
 rcases h5 k hk2 with h7 | h7
 · exact hO k h7
 · right; have := hk.size; omega
theorem TqO.sorted {N n K : Nat} {s : Ts} (h : TqO w q N n K s O) : s.D.Pairwise ltE ∧ s.D.length ≤ n := by
 obtain ⟨⟨hs, sp, sc, sf, rp, ra, rb, hp, hb', A, h1, h2⟩, h3⟩ := h
 exact ⟨by obtain ⟨b, A, m, c, E, F, _, _, ha, _⟩ := h1.heap.heapL.ex; exact ha.up, h1.heap.heapL.len.1⟩
theorem CoreL.due (h : CoreL w p O S) : (dueL S).Nodup ∧ (∀ i, i ∈ dueL S → i < S.n ∧ S.q.T i = true) ∧ (dueL S).length = (dueE S.clk S.q.D).length ∧ (dueL S).length ≤ S.n ∧ ∀ k (hk : k < (dueL S).length), S.q.V (memE (dueE S.clk S.q.D) k) = S.q.H (dueL S)[k] := by
 obtain ⟨q, gc, gm, l, r, Oq, h1, -⟩ := h.cells
 have hs := h1.que.sorted
 have hi := h1.que.inv
 have hl : (dueL S).length = (dueE S.clk S.q.D).length := by unfold dueL; rw [List.length_map]
 have at_ : ∀ k (hk : k < (dueE S.clk S.q.D).length) (hk2 : k < (dueL S).length), ∃ i : Nat, (dueL S)[k] = i ∧ memE (dueE S.clk S.q.D) k = i ∧ i < S.n ∧ S.q.T i = true ∧ (dueE S.clk S.q.D)[k] = ⟨(S.q.R i).d, (S.q.R i).a, (i : Int)⟩ := by
   intro k hk hk2
   obtain ⟨i, hm, hin, ht, he, _⟩ := hi.due_at hk
   refine ⟨i, ?_, hm, hin, ht, he⟩
   refine (List.getElem_eq_iff hk2).2 ?_
   show ((dueE S.clk S.q.D).map fun e => e.m.toNat)[k]? = some i
   rw [List.getElem?_map, List.getElem?_eq_getElem hk, he]
   simp
 refine ⟨?_, ?_, hl, ?_, ?_⟩
 · refine List.pairwise_iff_getElem.2 fun a b ha hb hab he => ?_
   obtain ⟨i, e1, _, _, _, e2⟩ := at_ a (by omega) ha
   obtain ⟨j, e3, _, _, _, e4⟩ := at_ b (by omega) hb
   have hij : i = j := by rw [← e1, ← e3]; exact he
   subst hij
   have := (List.pairwise_iff_getElem.1 (due_up S.clk hs.1)) a b (by omega) (by omega) hab
   rw [e2, e4] at this
   exact ltE_irrefl _ this
 · intro i hi2
   obtain ⟨k, hk, he⟩ := List.getElem_of_mem hi2
   obtain ⟨j, e1, _, e2, e3, _⟩ := at_ k (by omega) hk
   rw [← he, e1]; exact ⟨e2, e3⟩
 · rw [hl]; exact Nat.le_trans (List.length_filter_le _ _) hs.2
 · intro k hk
   obtain ⟨j, e1, e0, e2, e3, _⟩ := at_ k (by omega) hk
   rw [e0, e1]; exact hi.vh j e2 e3
set_option maxRecDepth 100000 in
set_option maxHeartbeats 4000000 in
theorem co_sweep {E : Cor → Cor} (h : CoreL w p O S) (hK : S.K ≤ 1000) (hend : ∀ (wq : World) (Oq : Nat → Prop), CoreL wq p Oq (settleAll S 2 (dueL S)) → Calls Tryz.prog 47 #[.pointer (some ⟨p, 0, none⟩)] wq fun e w' => e = .returned (.tuple #[]) ∧ CStep wq p Oq (E (settleAll S 2 (dueL S))) w') :
   Calls Tryz.prog 45 #[.pointer (some ⟨p, 0, none⟩)] w fun e w' => e = .returned (.tuple #[]) ∧ CStep w p O (E (settleAll S 2 (dueL S))) w' := by
 obtain ⟨q, gc, gm, l, r, Oq, h1, -⟩ := h.cells
 obtain ⟨d1, d2, d3, d4, d5⟩ := h.due
 have hOs : ∀ k, O k → k < w.heap.size := fun k hk => h.lt hk
 have c16 := h1.c16
 have c25 := h1.c25
 have hp : p < w.heap.size := h1.head.size
 have hnm := h1.ok.nm
 obtain ⟨D, hD⟩ : ∃ D, dueL S = D := ⟨_, rfl⟩
 obtain ⟨m, hm⟩ : ∃ m, D.length = m := ⟨_, rfl⟩
 rw [hD] at d1 d2 d3 d4 d5 hend ⊢
 have hm1 : m ≤ 1024 := by omega
 have hm0 : (0 : Int) ≤ (m : Int) := by omega
 have hdue := fun (wq : World) (hq : TqL wq 0 q S.N S.n S.K S.q) => tq_due S.clk hq
 have d3' : (dueE S.clk S.q.D).length = m := by rw [← d3, hm]
 rw [d3'] at hdue
 have HDU := Lib.hid hdue
 have HD := Lib.hid (And.intro d1 (And.intro d2 (And.intro d4 d5)))
 have HM := Lib.hid hm
 have HC := Lib.hid h
 have HB := Lib.hid h1
 have HOS := Lib.hid hOs
 have HE := Lib.hid hend
 clear hdue d1 d2 d3 d3' d4 d5 hm h h1 hOs hend hD
 go_enter Tryz.func45, Tryz.ntmps45
 go_upto_region 0 with fail
 go_region_held3 (fun w' => w'.cell? ⟨p, 16, none⟩ = some (.pointer (some ⟨q, 0, none⟩)) ∧ w'.cell? ⟨p, 25, none⟩ = some (.int .i64 S.clk)) (repeat (first | with_reducible assumption | refine ⟨?_, ?_⟩ | with_reducible refine kdrew ?_)) (first | (go_at_call 81; refine (HDU.out _ (HB.out.que.below (Below.drew (Below.refl _ _))).toL).mono ?_; rintro e w1 ⟨gd, rfl, how, hb⟩; have e1 : w1.cell? ⟨p, 16, none⟩ = some (.pointer (some ⟨q, 0, none⟩)) := (hb.cell hp).trans c16; have e2 : w1.cell? ⟨p, 25, none⟩ = some (.int .i64 S.clk) := (hb.cell hp).trans c25; have HW := Lib.hid how; have HBL := Lib.hid ((Below.drew (Below.refl w.heap.size w)).trans hb); clear how hb))
 obtain ⟨G, hG⟩ : ∃ G : Nat → Int, (fun i => S.q.V (memE (dueE S.clk S.q.D) i)) = G := ⟨_, rfl⟩
 have how := HW.out
 rw [hG] at how
 have hbl := HBL.out
 have hL1 := HC.out.below hbl
 have hrow : ∀ k, k < m → w1.cell? ⟨gd, k, none⟩ = some (.int .u64 (G k)) := fun k hk => how.at_ hk
 have hgd : w.heap.size ≤ gd ∧ gd < w1.heap.size := how.lo
 have hgo : ¬ O gd := fun hc => by have := HOS.out gd hc; omega
 have hst0 : CStep w1 p O (settleAll S 2 (D.take 0)) w1 := CStep.refl_ hL1 (Below.refl _ _)
 have HRW := Lib.hid hrow
 have HGD := Lib.hid (And.intro hgd.2 hgo)
 have HST := Lib.hid hst0
 have HGG := Lib.hid hG
 clear how hbl hL1 hrow hgd hgo hst0 hG c16 c25 e1 e2 HW
 go_wp2_with fail
 go_loopw [14] (fun s14 wr => ∃ k : Nat, k ≤ m ∧ s14 = .int .i64 (k : Int) ∧ CStep w1 p O (settleAll S 2 (D.take k)) wr) (fun i _ => m - (intOf i).toNat)
 case atStart => exact ⟨0, Nat.zero_le _, rfl, HST.out⟩
 case round =>
   obtain ⟨k, hk, rfl, hst⟩ := hrel
   have hm2 := HM.out
   by_cases hkm : k < m
   ·
     have hks : k < D.length := by omega
     obtain ⟨O1, hL, hO1, hK1⟩ := hst
     have hlk := settleAll_like 2 (D.take k) S
     obtain ⟨d1, d2, d3, d4⟩ := HD.out
     have hdi := d2 D[k] (List.getElem_mem hks)
     have hT := settleAll_T 2 D[k] (D.take k) S (nodup_at d1 hks) hdi.2
     have hg : (settleAll S 2 (D.take k)).q.H D[k] = G k := by rw [hlk.H, ← HGG.out]; exact (d4 k hks).symm
     have hxc : wr.cell? ⟨gd, k, none⟩ = some (.int .u64 (G k)) := (hK1.cell_ HGD.out.1 HGD.out.2).trans (HRW.out k hkm)
     have hnx := settleAll_next S 2 D k hks
     have hse := co_settle (why := 2) hL (by rw [hlk.n]; exact hdi.1) hT hg (by rw [hlk.K]; exact hK) (by omega) (by omega)
     obtain ⟨ov, hov⟩ : ∃ ov, (ocOf (settleAll S 2 (D.take k)) D[k] 2).v = ov := ⟨_, rfl⟩
     rw [hov, ← hnx] at hse
     obtain ⟨x, hx⟩ : ∃ x, G k = x := ⟨_, rfl⟩
     rw [hx] at hxc hse
     have HSE := Lib.hid hse
     have HO1 := Lib.hid hO1
     have HK1 := Lib.hid hK1
     have j1 : (k : Int) < (m : Int) := by omega
     have j2 : (0 : Int) ≤ (k : Int) := by omega
     clear hL hlk d1 d2 d3 d4 hdi hT hg hnx hse hov hx hO1 hK1 hks hm2
     go_wp2_with fail
     refine HSE.out.mono ?_
     rintro e w2 ⟨rfl, hs2⟩
     have hs3 := CStep.then_ HO1.out HK1.out hs2
     have HS3 := Lib.hid hs3
     clear hs2 hs3
     go_wp2_with fail
     first | (go_roundw; case rel => exact ⟨k + 1, by omega, by go_num, HS3.out⟩; case measure => simp [intOf]; omega) | exact ⟨⟨k + 1, by omega, by go_num, HS3.out⟩, by simp [intOf]; omega⟩
   ·
     obtain rfl : k = m := by omega
     rw [show D.take k = D by rw [← hm2]; exact List.take_length] at hst
     obtain ⟨O1, hL, hO1, hK1⟩ := hst
     have HEN := Lib.hid (HE.out wr O1 hL)
     have HO1 := Lib.hid hO1
     have HK1 := Lib.hid hK1
     clear hL hO1 hK1 hm2
     have j1 : ¬ (k : Int) < (k : Int) := by omega
     go_wp2_with fail
     refine HEN.out.mono ?_
     rintro e w2 ⟨rfl, hs2⟩
     have hs3 := CStep.after HBL.out (CStep.then_ HO1.out HK1.out hs2)
     have HS3 := Lib.hid hs3
     clear hs2 hs3
     go_wp2
     exact bodyPost_end (results_none rfl _ _ _) rfl ⟨rfl, HS3.out⟩
end
end Go.Proofs.YtcffeokbipjaoaaGreat
namespace Go.Proofs.YtcffeokbipjaoaaGreat
open Go.ChangeShapes Go.WideShapes Go.RowKit Kn
set_option linter.unusedVariables false
set_option linter.unusedSimpArgs false
def hbOf (S : Cor) (t : Nat) : Bool := highB S.cf.ta (sat (S.clk - (S.q.R (canI S t)).e)) ((S.q.L t).length : Int)
noncomputable def thinGo (t : Nat) : Nat → Cor → Cst → Int → Cor × Cst
 | 0, S, st, _ => (S, st)
 | f + 1, S, st, d => if d = 0 then (S, st) else if lastE S = t then
     (if d = 2 then (settleS S (canI S t) 5, noteC st S.cf.iv S.clk (hbOf (settleS S (canI S t) 5) t))
      else thinGo t f (settleS S (canI S t) 5) (moreC st S.cf.iv S.clk (hbOf (settleS S (canI S t) 5) t)).1 (moreC st S.cf.iv S.clk (hbOf (settleS S (canI S t) 5) t)).2)
   else (settleS S (hdE (S.q.L (lastE S))) 5, st)
def codS (S : Cor) (t : Nat) (st : Cst) : Cor := { S with cod := fun j => if j = t then st else S.cod j }
noncomputable def thinZ (S : Cor) (t : Nat) : Cor × Cst := thinGo t ((S.q.L t).length) S (lookC (S.cod t) S.cf.iv S.clk (hbOf S t)).1 (lookC (S.cod t) S.cf.iv S.clk (hbOf S t)).2
noncomputable def thinS (S : Cor) (t : Nat) : Cor := codS (thinZ S t).1 t (thinZ S t).2
theorem highB_two {t j : Int} {n : Nat} (h : highB t j (n : Int) = true) : 1 < n := by unfold highB at h; simp at h; omega
theorem look_dec (s : Cst) (i now : Int) (hb : Bool) : (lookC s i now hb).2 = 0 ∨ hb = true ∧ ((lookC s i now hb).2 = 1 ∨ (lookC s i now hb).2 = 2) := by
 unfold lookC mayC timeC
 cases hb
 · left; simp
 · cases h1 : (s.ab && decide (s.fi ≤ now)) <;> simp
   cases s.dr <;> simp
   split <;> simp
theorem more_dec (s : Cst) (i now : Int) (hb : Bool) : (moreC s i now hb).2 = 0 ∨ hb = true ∧ (moreC s i now hb).2 = 1 := by
 unfold moreC mayC timeC
 cases hb
 · left; simp
 · cases h1 : (s.ab && decide (s.fi ≤ now)) <;> simp
   split <;> simp
section
variable {w w' : World} {p q gc gm l : Nat} {r : Option Nat} {O Oq : Nat → Prop} {S S' : Cor}
theorem CoreB.lists (h : CoreB w p q gc gm l r Oq S) : Lists S.N S.n S.q.L := by
 obtain ⟨⟨hs, sp, sc, sf, rp, ra, rb, hp, hb, A, h1, h2⟩, h3⟩ := h.que
 exact h1.rows.lists
theorem CoreL.lists (h : CoreL w p O S) : Lists S.N S.n S.q.L := by
 obtain ⟨q, gc, gm, l, r, Oq, h1, -⟩ := h.cells
 exact h1.lists
theorem settle_len {i t : Nat} {why : Int} (h : Lists S.N S.n S.q.L) (ht : t < S.N) (hi : i ∈ S.q.L t) : ((settleS S i why).q.L t).length = (S.q.L t).length - 1 := by
 obtain ⟨k, hk, e⟩ := mem_getL hi
 show (remL S.N S.q.L i t).length = _
 rw [h.rem_row ht hk e, List.length_eraseIdx, if_pos (show k < (S.q.L t).length from hk)]
theorem CoreL.last_of (h : CoreL w p O S) {t : Nat} (ht : t < S.N) (h0 : 0 < (S.q.L t).length) : LastIs S (lastE S) := by
 obtain ⟨u, hu, hp, hr⟩ := last_ge (fun u => 0 < (S.q.L u).length) S.N ⟨t, ht, h0⟩
 exact lastE_is ⟨u, hu, hp, fun r h1 h2 => by have := hr r h1 h2; omega⟩
end
end Go.Proofs.YtcffeokbipjaoaaGreat
