/- Texts of this claim, one behind the other: Crb Crj Crl Unj Crm. -/
import Derived.Test.YtcffeokbipjaoaaGreatMtak
import Derived.Test.YtcffeokbipjaoaaGreatMtba
import Derived.Test.YtcffeokbipjaoaaGreatMtbk
import Derived.Test.YtcffeokbipjaoaaGreatMtbw
import Derived.Test.YtcffeokbipjaoaaGreatMtbx
import Derived.Test.YtcffeokbipjaoaaGreatMtby
namespace Go.Proofs.YtcffeokbipjaoaaGreat
open Go.ChangeShapes Go.WideShapes Go.RowKit Kn
set_option linter.unusedVariables false
set_option linter.unusedSimpArgs false
theorem endS_run {S : Cor} (h : S.ph = 0) : endS S = S := if_pos (.inl (by omega))
theorem endS_K (S : Cor) : (endS S).K = S.K ∧ (endS S).cf = S.cf ∧ (endS S).N = S.N ∧ (endS S).n = S.n ∧ (endS S).clk = S.clk := by
 unfold endS
 split
 · exact ⟨rfl, rfl, rfl, rfl, rfl⟩
 · have h := settleAll_like 6 (allT S.q.L S.N) S
   exact ⟨h.K, h.cf, h.N, h.n, h.clk⟩
noncomputable def sweptS (S : Cor) (now : Int) : Cor := endS (settleAll (clkS S now) 2 (dueL (clkS S now)))
theorem sweptS_K (S : Cor) (now : Int) : (sweptS S now).K = S.K ∧ (sweptS S now).cf = S.cf ∧ (sweptS S now).N = S.N := by
 have h1 := endS_K (settleAll (clkS S now) 2 (dueL (clkS S now)))
 have h2 := settleAll_like 2 (dueL (clkS S now)) (clkS S now)
 exact ⟨h1.1.trans h2.K, h1.2.1.trans h2.cf, h1.2.2.1.trans h2.N⟩
theorem submitV_resv (S : Cor) (b c d : Int) : ∃ r0 r1 r2 r3 r4, submitV S b c d = resv r0 r1 r2 r3 r4 := by
 unfold submitV
 split
 · split
   · split
     · exact ⟨_, _, _, _, _, rfl⟩
     · exact ⟨_, _, _, _, _, rfl⟩
   · exact ⟨_, _, _, _, _, rfl⟩
 · exact ⟨_, _, _, _, _, rfl⟩
theorem submitS_K (S : Cor) (b c d : Int) : (submitS S b c d).K ≤ S.K + 1 := by
 have h := roomS_same S b
 unfold submitS
 split
 · split
   · split
     · show (roomS S b).K + 1 ≤ _; rw [h.2.2.2.1]; omega
     · rw [h.2.2.2.1]; omega
   · omega
 · omega
theorem pollS_K (S : Cor) : (pollS S).K = S.K := by
 unfold pollS
 split
 · rfl
 · split
   · show (pollM S).K = S.K
     unfold pollM
     have h1 := thin_like (firstE S) (((turnS (restK S S.N) (firstE S)).q.L (firstE S)).length) (turnS (restK S S.N) (firstE S)) (lookC ((turnS (restK S S.N) (firstE S)).cod (firstE S)) (turnS (restK S S.N) (firstE S)).cf.iv (turnS (restK S S.N) (firstE S)).clk (hbOf (turnS (restK S S.N) (firstE S)) (firstE S))).1 (lookC ((turnS (restK S S.N) (firstE S)).cod (firstE S)) (turnS (restK S S.N) (firstE S)).cf.iv (turnS (restK S S.N) (firstE S)).clk (hbOf (turnS (restK S S.N) (firstE S)) (firstE S))).2
     exact h1.K
   · rfl
section
variable {w w' w'' : World} {p q gc gm l g b : Nat} {r r' : Option Nat} {O Oq Oq' O1 : Nat → Prop} {S S' : Cor}
theorem do_submit (now b c d : Int) (h : CoreL w p O S) (hn : I64_ now) (hK : S.K ≤ 800) (hb : I64_ b) (hc : I64_ c) (hd : I64_ d) (hr : refuseE (clkS S now) 0 b c d = 0) :
   Calls Tryz.prog 15 #[.pointer (some ⟨p, 0, none⟩), .int .i64 now, opv 0 b c d] w fun e w' => e = .returned (submitV (sweptS S now) b c d) ∧ CStep w p O (endS (submitS (sweptS S now) b c d)) w' := by
 obtain ⟨r0, r1, r2, r3, r4, hv⟩ := submitV_resv (sweptS S now) b c d
 have hk := (sweptS_K S now).1
 have hk2 := submitS_K (sweptS S now) b c d
 have hk3 := (settleAll_like 2 (dueL (clkS S now)) (clkS S now)).K
 rw [hv]
 refine co_do_submit (E := endS) (S3 := submitS (sweptS S now) b c d) now b c d h hn (by omega) hr (end_ok _ (by rw [hk3]; show S.K ≤ 1000; omega)) (fun wq Oq hq => ?_) (end_ok _ (by omega))
 have := co_submit 0 b c d hq (by show (sweptS S now).K ≤ 900; omega) hc hd hb
 rw [show submitV (endS (settleAll (clkS S now) 2 (dueL (clkS S now)))) b c d = resv r0 r1 r2 r3 r4 from hv] at this
 exact this
theorem do_poll (now b c d : Int) (h : CoreL w p O S) (hn : I64_ now) (hK : S.K ≤ 800) :
   Calls Tryz.prog 15 #[.pointer (some ⟨p, 0, none⟩), .int .i64 now, opv 1 b c d] w fun e w' => e = .returned (resv (pollR (sweptS S now)).1 (pollR (sweptS S now)).2.1 (pollR (sweptS S now)).2.2.1 (pollR (sweptS S now)).2.2.2.1 (pollR (sweptS S now)).2.2.2.2) ∧ CStep w p O (endS (pollS (sweptS S now))) w' := by
 have hk := (sweptS_K S now).1
 have hk2 := pollS_K (sweptS S now)
 have hk3 := (settleAll_like 2 (dueL (clkS S now)) (clkS S now)).K
 refine co_do_poll (E := endS) (S3 := pollS (sweptS S now)) now b c d h hn (by omega) (if_neg (fun e => by omega)) (end_ok _ (by rw [hk3]; show S.K ≤ 1000; omega)) (fun wq Oq hq => ?_) (end_ok _ (by omega))
 exact co_poll 1 b c d hq (by show (sweptS S now).K ≤ 1000; omega)
noncomputable def A0 (b c d : Int) : Cor := admitS (newC Cf.dflt 4 64) b c d
theorem new_swept : sweptS (newC Cf.dflt 4 64) 0 = newC Cf.dflt 4 64 := by
 have e0 : clkS (newC Cf.dflt 4 64) 0 = newC Cf.dflt 4 64 := rfl
 have e1 : dueL (newC Cf.dflt 4 64) = [] := rfl
 unfold sweptS
 rw [e0, e1]
 exact endS_run rfl
theorem new_judge {b c d : Int} (hb : 0 ≤ b ∧ b < 4) (hc : 0 ≤ c ∧ c < 128) (hd : 0 < d) : judgeG 4 0 0 b c d = 0 := by
 obtain ⟨b0, b1⟩ := hb
 obtain ⟨c0, c1⟩ := hc
 unfold judgeG rightG edgeG
 simp [b0, b1, c0, c1]
 rw [if_neg (by omega), if_neg (by rw [sat_is _ (by omega) (by omega)]; omega)]
theorem first_submit {b c d : Int} (hb : 0 ≤ b ∧ b < 4) (hc : 0 ≤ c ∧ c < 128) (hd : 0 < d) (hd2 : I64_ d) (h : CoreL w p O (newC Cf.dflt 4 64)) :
   Calls Tryz.prog 15 #[.pointer (some ⟨p, 0, none⟩), .int .i64 0, opv 0 b c d] w fun e w' => e = .returned (resv 1 1 b c 0) ∧ CStep w p O (A0 b c d) w' := by
 have hj := new_judge hb hc hd
 have hr : refuseE (clkS (newC Cf.dflt 4 64) 0) 0 b c d = 0 := by
   show (if (0 : Int) = 0 ∧ (0 : Int) = 0 then (if judgeG 4 0 0 b c d = 4 then 0 else judgeG 4 0 0 b c d) else 0) = 0
   rw [if_pos ⟨rfl, rfl⟩, hj, if_neg (by omega)]
 have h1 := do_submit 0 b c d h ⟨by omega, by omega⟩ (by show (0 : Nat) ≤ 800; omega) ⟨by omega, by omega⟩ ⟨by omega, by omega⟩ hd2 hr
 have hrb : roomB (newC Cf.dflt 4 64) b = true := decide_eq_true (.inl (by show (0 : Nat) < 64; omega))
 have hrs : roomS (newC Cf.dflt 4 64) b = newC Cf.dflt 4 64 := if_pos (by show (0 : Nat) < 64; omega)
 have hv : submitV (newC Cf.dflt 4 64) b c d = resv 1 1 b c 0 := by
   unfold submitV
   rw [if_pos (show (newC Cf.dflt 4 64).ph = 0 from rfl), if_pos (show judgeG (newC Cf.dflt 4 64).cf.ti (newC Cf.dflt 4 64).pid.le (newC Cf.dflt 4 64).clk b c d = 0 from hj), if_pos hrb]
   rfl
 have hs : submitS (newC Cf.dflt 4 64) b c d = A0 b c d := by
   unfold submitS
   rw [if_pos (show (newC Cf.dflt 4 64).ph = 0 from rfl), if_pos (show judgeG (newC Cf.dflt 4 64).cf.ti (newC Cf.dflt 4 64).pid.le (newC Cf.dflt 4 64).clk b c d = 0 from hj), if_pos hrb, hrs]
   rfl
 rw [new_swept, hv, hs, endS_run (show (A0 b c d).ph = 0 from rfl)] at h1
 exact h1
theorem a0_L (t : Nat) (b c d : Int) : (A0 b c d).q.L t = if t = b.toNat then [0] else [] := by
 show pushL (fun _ => []) b.toNat 0 t = _
 unfold pushL
 split <;> simp_all
theorem a0_swept {b c d : Int} (hd : 0 < d) (hd2 : d ≤ 1000) : sweptS (A0 b c d) 0 = A0 b c d := by
 have hdg : deadG 1000 0 d = d := by unfold deadG; rw [sat_is _ (by omega) (by omega), if_neg (by omega)]
 have e0 : clkS (A0 b c d) 0 = A0 b c d := rfl
 have e1 : dueL (A0 b c d) = [] := by
   show ((dueE 0 (insE ⟨deadG 1000 0 d, 1, ((0 : Nat) : Int)⟩ [])).map fun e => e.m.toNat) = []
   rw [hdg]
   simp [insE, dueE]
   omega
 unfold sweptS
 rw [e0, e1]
 exact endS_run rfl
theorem a0_first : FirstIs (A0 0 0 9) 0 := ⟨by show (0 : Nat) < 4; omega, by rw [a0_L]; simp, fun r hr => by omega⟩
theorem pollR_first {S : Cor} (h2 : ¬ S.ph = 2) (hf : ∃ u, FirstIs S u) : (pollR S).1 = 7 ∧ (pollR S).2.1 = ((pollM S).q.R (canI (pollM S) (firstE S))).a := by
 unfold pollR
 rw [if_neg h2, if_pos hf]
 exact ⟨rfl, rfl⟩
theorem a0_poll : (pollR (A0 0 0 9)).1 = 7 ∧ (pollR (A0 0 0 9)).2.1 = 1 := by
 have hf : ∃ u, FirstIs (A0 0 0 9) u := ⟨0, a0_first⟩
 have he : firstE (A0 0 0 9) = 0 := (firstE_is hf).uni a0_first
 have hr := pollR_first (show ¬ (A0 0 0 9).ph = 2 from by show ¬ (0 : Int) = 2; omega) hf
 rw [he] at hr
 refine ⟨hr.1, hr.2.trans ?_⟩
 obtain ⟨X, hX⟩ : ∃ X, turnS (restK (A0 0 0 9) 4) 0 = X := ⟨_, rfl⟩
 have hXq : X.q = (A0 0 0 9).q := by rw [← hX]; rfl
 have hm : (pollM (A0 0 0 9)).q = (A0 0 0 9).q := by
   unfold pollM
   rw [he]
   show (thinS (turnS (restK (A0 0 0 9) 4) 0) 0).q = _
   rw [hX]
   have hb : hbOf X 0 = false := by
     unfold hbOf highB
     rw [hXq, a0_L]
     simp
   have hd : (lookC (X.cod 0) X.cf.iv X.clk false).2 = 0 := by
     rcases look_dec (X.cod 0) X.cf.iv X.clk false with e | ⟨e, _⟩
     · exact e
     · cases e
   show (thinZ X 0).1.q = _
   unfold thinZ
   rw [hb, hd, hXq, a0_L]
   show (thinGo 0 1 X _ 0).1.q = _
   unfold thinGo
   rw [if_pos rfl]
   exact hXq
 have hc : canI (pollM (A0 0 0 9)) 0 = 0 := by
   unfold canI
   rw [hm, a0_L]
   split <;> rfl
 show ((pollM (A0 0 0 9)).q.R (canI (pollM (A0 0 0 9)) 0)).a = 1
 rw [hc, hm]
 rfl
end
end Go.Proofs.YtcffeokbipjaoaaGreat
namespace Go.Proofs.YtcffeokbipjaoaaGreat
open Go.ChangeShapes Go.WideShapes Go.RowKit Kn
set_option linter.unusedVariables false
set_option linter.unusedSimpArgs false
noncomputable def doS (S : Cor) (now a b c d : Int) : Cor :=
 if 3 < a then clkS S now else if refuseE (clkS S now) a b c d ≠ 0 then clkS S now else
 if a = 0 then endS (submitS (sweptS S now) b c d) else if a = 1 then endS (pollS (sweptS S now)) else if a = 2 then endS (sampleS (sweptS S now) d) else endS (drainS (sweptS S now) d)
noncomputable def doV (S : Cor) (now a b c d : Int) : Value :=
 if 3 < a then resv 2 0 0 0 0 else if refuseE (clkS S now) a b c d ≠ 0 then resv (refuseE (clkS S now) a b c d) 0 0 0 0 else
 if a = 0 then submitV (sweptS S now) b c d else if a = 1 then resv (pollR (sweptS S now)).1 (pollR (sweptS S now)).2.1 (pollR (sweptS S now)).2.2.1 (pollR (sweptS S now)).2.2.2.1 (pollR (sweptS S now)).2.2.2.2 else resv 10 0 0 0 0
theorem sampleS_like (S : Cor) (u : Int) : (sampleS S u).K = S.K ∧ (sampleS S u).N = S.N ∧ (sampleS S u).cf = S.cf := by
 have h := settleAll_like 3 ((cutQ (pidS S (sampP S.pid (pprS S) u))).map (·.i)) (pidS S (sampP S.pid (pprS S) u))
 exact ⟨h.K, h.N, h.cf⟩
theorem drainS_K (S : Cor) (d : Int) : (drainS S d).K = S.K ∧ (drainS S d).N = S.N ∧ (drainS S d).cf = S.cf := by
 unfold drainS
 split
 · exact ⟨rfl, rfl, rfl⟩
 · split
   · exact ⟨rfl, rfl, rfl⟩
   · exact ⟨rfl, rfl, rfl⟩
section
variable {w w' w'' : World} {p q gc gm l g b : Nat} {r r' : Option Nat} {O Oq Oq' O1 : Nat → Prop} {S S' : Cor}
theorem do_sample (now b c d : Int) (h : CoreL w p O S) (hn : I64_ now) (hK : S.K ≤ 800) (hd : I64_ d) :
   Calls Tryz.prog 15 #[.pointer (some ⟨p, 0, none⟩), .int .i64 now, opv 2 b c d] w fun e w' => e = .returned (resv 10 0 0 0 0) ∧ CStep w p O (endS (sampleS (sweptS S now) d)) w' := by
 have hk := (sweptS_K S now).1
 have hk2 := (sampleS_like (sweptS S now) d).1
 have hk3 := (settleAll_like 2 (dueL (clkS S now)) (clkS S now)).K
 refine co_do_sample (E := endS) (S3 := sampleS (sweptS S now) d) now b c d h hn (by omega) (if_neg (fun e => by omega)) (end_ok _ (by rw [hk3]; show S.K ≤ 1000; omega)) (fun wq Oq hq => ?_) (end_ok _ (by omega))
 exact co_sample 2 b c d hq (by show (sweptS S now).K ≤ 1000; omega) hd
theorem do_drain (now b c d : Int) (h : CoreL w p O S) (hn : I64_ now) (hK : S.K ≤ 800) (hd : I64_ d) :
   Calls Tryz.prog 15 #[.pointer (some ⟨p, 0, none⟩), .int .i64 now, opv 3 b c d] w fun e w' => e = .returned (resv 10 0 0 0 0) ∧ CStep w p O (endS (drainS (sweptS S now) d)) w' := by
 have hk := (sweptS_K S now).1
 have hk2 := (drainS_K (sweptS S now) d).1
 have hk3 := (settleAll_like 2 (dueL (clkS S now)) (clkS S now)).K
 refine co_do_drain (E := endS) (S3 := drainS (sweptS S now) d) now b c d h hn (by omega) (if_neg (fun e => by omega)) (end_ok _ (by rw [hk3]; show S.K ≤ 1000; omega)) (fun wq Oq hq => ?_) (end_ok _ (by omega))
 exact co_drain 3 b c d hq hd
theorem do_any (now a b c d : Int) (h : CoreL w p O S) (hn : I64_ now) (hK : S.K ≤ 800) (ha : 0 ≤ a) (hb : I64_ b) (hc : I64_ c) (hd : I64_ d) :
   Calls Tryz.prog 15 #[.pointer (some ⟨p, 0, none⟩), .int .i64 now, opv a b c d] w fun e w' => e = .returned (doV S now a b c d) ∧ CStep w p O (doS S now a b c d) w' := by
 unfold doV doS
 by_cases h3 : 3 < a
 · rw [if_pos h3, if_pos h3]
   exact co_do_bad now a b c d h hn h3
 · rw [if_neg h3, if_neg h3]
   by_cases hr : refuseE (clkS S now) a b c d ≠ 0
   · rw [if_pos hr, if_pos hr]
     exact co_do_no now a b c d h hn (by omega) hr
   · rw [if_neg hr, if_neg hr]
     have hr' : refuseE (clkS S now) a b c d = 0 := Decidable.not_not.1 hr
     by_cases e0 : a = 0
     · subst e0
       rw [if_pos rfl, if_pos rfl]
       exact do_submit now b c d h hn hK hb hc hd hr'
     · rw [if_neg e0, if_neg e0]
       by_cases e1 : a = 1
       · subst e1
         rw [if_pos rfl, if_pos rfl]
         exact do_poll now b c d h hn hK
       · rw [if_neg e1, if_neg e1]
         by_cases e2 : a = 2
         · subst e2
           rw [if_pos rfl]
           exact do_sample now b c d h hn hK hd
         · rw [if_neg e2]
           obtain rfl : a = 3 := by omega
           exact do_drain now b c d h hn hK hd
theorem doS_K (S : Cor) (now a b c d : Int) : (doS S now a b c d).K ≤ S.K + 1 := by
 have h0 := (sweptS_K S now).1
 unfold doS
 split
 · show S.K ≤ _; omega
 · split
   · show S.K ≤ _; omega
   · split
     · rw [(endS_K _).1]; have := submitS_K (sweptS S now) b c d; omega
     · split
       · rw [(endS_K _).1, pollS_K]; omega
       · split
         · rw [(endS_K _).1, (sampleS_like _ _).1]; omega
         · rw [(endS_K _).1, (drainS_K _ _).1]; omega
end
end Go.Proofs.YtcffeokbipjaoaaGreat
namespace Go.Proofs.YtcffeokbipjaoaaGreat
open Go.ChangeShapes Go.WideShapes Go.RowKit Kn
set_option linter.unusedVariables false
set_option linter.unusedSimpArgs false
section
variable {w w' w'' : World} {p q gc gm l n K N : Nat} {r : Option Nat} {O Oq O2 : Nat → Prop} {S S' : Cor} {own : Nat → Prop} {s : Ts}
theorem HeapB.far {b : Nat} {A : Option Addr} {L : List En} (h : HeapB w p b n A L) (hk : Kept own w w') (h1 : ¬ own p) (h2 : ¬ own b) (h3 : ∀ x, A = some x → ¬ own x.block) : HeapB w' p b n A L := by
 obtain ⟨m, c, E, F, g1, g2⟩ := h.ex
 exact ⟨m, c, E, F, g1.kept2 hk h1 h2 h3, g2⟩
theorem TqO.far (h : TqO w q N n K s O) (hk : Kept own w w') (hn : ∀ k, O k → ¬ own k) (hq : ∀ k cs, Blk w k 159 cs → ¬ own k) (hr : ∀ k cs, Blk w k 213 cs → ¬ own k) : TqO w' q N n K s O := by
 obtain ⟨⟨hs, sp, sc, sf, rp, ra, rb, hp, hb', A, h1, h2⟩, h3⟩ := h
 refine ⟨⟨hs, sp, sc, sf, rp, ra, rb, hp, hb', A, ?_, h2⟩, h3⟩
 obtain ⟨hd, k1, k2, k3, ⟨cs', bc, cz, cc⟩, k5⟩ := h1
 obtain ⟨⟨c1, t1⟩, _, _⟩ := k2.types
 have hn' : ∀ k, tOwn hs sp sc sf ra rb hp hb' A k → ¬ own k := fun k ho => hn k ((h2 k).2 ho)
 exact ⟨hd.kept hk (hq _ _ hd), k1.kept hk (hn' _ (.inr (.inl (.inl rfl)))) (hn' _ (.inr (.inl (.inr (.inl rfl))))) (hn' _ (.inr (.inl (.inr (.inr rfl))))),
   RowsAt.kept k2 hk (hr _ _ t1) (hn' _ (.inr (.inr (.inl (.inl rfl))))) (hn' _ (.inr (.inr (.inl (.inr rfl))))),
   k3.far hk (hn' _ (.inr (.inr (.inr (.inl rfl))))) (hn' _ (.inr (.inr (.inr (.inr (.inl rfl)))))) (fun x hx => hn' _ (.inr (.inr (.inr (.inr (.inr ⟨x, hx, rfl⟩)))))), ⟨cs', bc.kept hk (hn' _ (.inl rfl)), cz, cc⟩, k5⟩
theorem CoreL.not_q (h : CoreL w p O S) {k : Nat} {cs : Array Value} (hb : Blk w k 159 cs) : ¬ O k := fun ho => by
 obtain ⟨q, gc, gm, l, r, Oq, h1, h2⟩ := h.cells
 obtain ⟨c1, b1⟩ := h1.cod.blk
 obtain ⟨c2, b2⟩ := h1.mod.blk
 obtain ⟨c3, b3⟩ := h1.log.head
 rcases (h2 k).1 ho with e | e | e | e | e | e
 · exact hb.other h1.head (by decide) e
 · exact hb.other b1 (by decide) e
 · exact hb.other b2 (by decide) e
 · exact hb.other b3 (by decide) e
 · obtain ⟨_, c4, b4⟩ := h1.log.row e; exact hb.other b4 (by decide) rfl
 · obtain ⟨⟨hs, sp, sc, sf, rp, ra, rb, hp, hb', A, h5, h6⟩, h7⟩ := h1.que
   obtain ⟨cs0, b0, _⟩ := h5.hand
   exact h5.apart hb (hb.other b0 (by decide)) (by decide) (by decide) (by decide) (by decide) (by decide) (by decide) (by decide) ((h6 k).1 e)
theorem CoreL.not_r (h : CoreL w p O S) {k : Nat} {cs : Array Value} (hb : Blk w k 213 cs) : ¬ O k := fun ho => by
 obtain ⟨q, gc, gm, l, r, Oq, h1, h2⟩ := h.cells
 obtain ⟨c1, b1⟩ := h1.cod.blk
 obtain ⟨c2, b2⟩ := h1.mod.blk
 obtain ⟨c3, b3⟩ := h1.log.head
 rcases (h2 k).1 ho with e | e | e | e | e | e
 · exact hb.other h1.head (by decide) e
 · exact hb.other b1 (by decide) e
 · exact hb.other b2 (by decide) e
 · exact hb.other b3 (by decide) e
 · obtain ⟨_, c4, b4⟩ := h1.log.row e; exact hb.other b4 (by decide) rfl
 · obtain ⟨⟨hs, sp, sc, sf, rp, ra, rb, hp, hb', A, h5, h6⟩, h7⟩ := h1.que
   obtain ⟨cs0, b0, _⟩ := h5.hand
   exact h5.apart hb (hb.other b0 (by decide)) (by decide) (by decide) (by decide) (by decide) (by decide) (by decide) (by decide) ((h6 k).1 e)
def coTypes : List TypeId := coT :: csT :: msT :: 110 :: 164 :: tqTypes
theorem CoreL.not_t (h : CoreL w p O S) {k : Nat} {T : TypeId} {cs : Array Value} (hb : Blk w k T cs) (hT : T ∉ coTypes) : ¬ O k := fun ho => by
 obtain ⟨q, gc, gm, l, r, Oq, h1, h2⟩ := h.cells
 obtain ⟨c1, b1⟩ := h1.cod.blk
 obtain ⟨c2, b2⟩ := h1.mod.blk
 obtain ⟨c3, b3⟩ := h1.log.head
 unfold coTypes at hT
 simp only [List.mem_cons, not_or] at hT
 obtain ⟨t1, t2, t3, t4, t5, t6⟩ := hT
 rcases (h2 k).1 ho with e | e | e | e | e | e
 · exact hb.other h1.head t1 e
 · exact hb.other b1 t2 e
 · exact hb.other b2 t3 e
 · exact hb.other b3 t4 e
 · obtain ⟨_, c4, b4⟩ := h1.log.row e; exact hb.other b4 t5 rfl
 · exact h1.que.apart hb t6 e
theorem CoreL.far (h : CoreL w p O S) (hk : Kept own w w') (hn : ∀ k, O k → ¬ own k) (hq : ∀ k cs, Blk w k 159 cs → ¬ own k) (hr : ∀ k cs, Blk w k 213 cs → ¬ own k) : CoreL w' p O S := by
 obtain ⟨q, gc, gm, l, r, Oq, h1, h2⟩ := h.cells
 have hn' : ∀ k, (k = p ∨ k = gc ∨ k = gm ∨ k = l ∨ r = some k ∨ Oq k) → ¬ own k := fun k ho => hn k ((h2 k).2 ho)
 exact ⟨⟨q, gc, gm, l, r, Oq, ⟨h1.head.kept hk (hn' _ (.inl rfl)), h1.que.far hk (fun k ho => hn' k (.inr (.inr (.inr (.inr (.inr ho)))))) hq hr, h1.cod.kept hk (hn' _ (.inr (.inl rfl))), h1.mod.kept hk (hn' _ (.inr (.inr (.inl rfl)))), h1.log.kept hk (hn' _ (.inr (.inr (.inr (.inl rfl))))) (fun g hg => hn' _ (.inr (.inr (.inr (.inr (.inl hg)))))), h1.ok⟩, h2⟩⟩
end
structure Two (n0 : Nat) (w : World) (a b : Nat) (S S' : Cor) : Prop where
 ex : ∃ A B : Nat → Prop, CoreL w a A S ∧ CoreL w b B S' ∧ (∀ k, A k → ¬ B k) ∧ (∀ k, A k → n0 ≤ k) ∧ (∀ k, B k → n0 ≤ k)
section
variable {n0 a b : Nat} {w w' : World} {S S' T : Cor}
theorem Two.below (h : Two n0 w a b S S') (hb : Below w.heap.size w w') : Two n0 w' a b S S' := by
 obtain ⟨⟨A, B, h1, h2, h3, h4, h5⟩⟩ := h
 exact ⟨⟨A, B, h1.below hb, h2.below hb, h3, h4, h5⟩⟩
theorem Two.swap (h : Two n0 w a b S S') : Two n0 w b a S' S := by
 obtain ⟨⟨A, B, h1, h2, h3, h4, h5⟩⟩ := h
 exact ⟨⟨B, A, h2, h1, fun k hb ha => h3 k ha hb, h5, h4⟩⟩
theorem Two.call (h : Two n0 w a b S S') {f : FuncId} {args : Array Value} {E : Ending → Prop} (hn : n0 ≤ w.heap.size) (hc : ∀ A : Nat → Prop, CoreL w a A S → Calls Tryz.prog f args w fun e w' => E e ∧ CStep w a A T w') :
   Calls Tryz.prog f args w fun e w' => E e ∧ Two n0 w' a b T S' ∧ Below n0 w w' ∧ ∀ (k : Nat) (X : TypeId) (cs : Array Value), X ∉ coTypes → Blk w k X cs → Blk w' k X cs := by
 obtain ⟨⟨A, B, h1, h2, h3, h4, h5⟩⟩ := h
 refine (hc A h1).mono ?_
 rintro e w' ⟨he, A', g1, g2, g3⟩
 refine ⟨he, ⟨⟨A', B, g1, h2.far g3 (fun k hb ha => h3 k ha hb) (fun k cs hq => h1.not_q hq) (fun k cs hr => h1.not_r hr), fun k ha hb => ?_, fun k ha => ?_, h5⟩⟩, ⟨g3.os, g3.tape, g3.output, g3.size, fun k hk => g3.block k (by omega) (fun ho => by have := h4 k ho; omega)⟩, fun k X cs hX hb => hb.kept g3 (h1.not_t hb hX)⟩
 · rcases g2 k ha with c | c
   · exact h3 k c hb
   · have := h2.lt hb; omega
 · rcases g2 k ha with c | c
   · exact h4 k c
   · omega
theorem Two.clock (h : Two n0 w a b S S') : Calls Tryz.prog 16 #[.pointer (some ⟨a, 0, none⟩)] w fun e w' => e = .returned (.int .i64 S.clk) ∧ w = w' := by
 obtain ⟨⟨A, B, h1, h2, h3, h4, h5⟩⟩ := h
 exact co_clock h1
theorem Two.clk64 (h : Two n0 w a b S S') : I64_ S.clk := by
 obtain ⟨⟨A, B, h1, h2, h3, h4, h5⟩⟩ := h
 exact h1.ok.clk
theorem Two.do_ (h : Two n0 w a b S S') (hn : n0 ≤ w.heap.size) {now k x y z : Int} (hnow : I64_ now) (hK : S.K ≤ 800) (hk : 0 ≤ k) (hx : I64_ x) (hy : I64_ y) (hz : I64_ z) :
   Calls Tryz.prog 15 #[.pointer (some ⟨a, 0, none⟩), .int .i64 now, opv k x y z] w fun e w' => e = .returned (doV S now k x y z) ∧ Two n0 w' a b (doS S now k x y z) S' ∧ Below n0 w w' ∧ ∀ (k : Nat) (X : TypeId) (cs : Array Value), X ∉ coTypes → Blk w k X cs → Blk w' k X cs :=
 h.call hn fun A hA => do_any now k x y z hA hnow hK hk hx hy hz
end
theorem doV_resv (S : Cor) (now a b c d : Int) : ∃ r0 r1 r2 r3 r4, doV S now a b c d = resv r0 r1 r2 r3 r4 := by
 unfold doV
 split
 · exact ⟨_, _, _, _, _, rfl⟩
 · split
   · exact ⟨_, _, _, _, _, rfl⟩
   · split
     · exact submitV_resv _ _ _ _
     · split
       · exact ⟨_, _, _, _, _, rfl⟩
       · exact ⟨_, _, _, _, _, rfl⟩
theorem sweptS_clk (S : Cor) (now : Int) : (sweptS S now).clk = max S.clk now := by
 unfold sweptS
 rw [(endS_K _).2.2.2.2, (settleAll_like 2 (dueL (clkS S now)) (clkS S now)).clk]
 rfl
theorem submitS_clk (S : Cor) (b c d : Int) : (submitS S b c d).clk = S.clk := by
 have h := roomS_same S b
 unfold submitS
 split
 · split
   · split
     · exact h.2.1
     · exact h.2.1
   · rfl
 · rfl
theorem pollS_clk (S : Cor) : (pollS S).clk = S.clk := by
 unfold pollS
 split
 · rfl
 · split
   · show (pollM S).clk = S.clk
     unfold pollM
     have h1 := thin_like (firstE S) (((turnS (restK S S.N) (firstE S)).q.L (firstE S)).length) (turnS (restK S S.N) (firstE S)) (lookC ((turnS (restK S S.N) (firstE S)).cod (firstE S)) (turnS (restK S S.N) (firstE S)).cf.iv (turnS (restK S S.N) (firstE S)).clk (hbOf (turnS (restK S S.N) (firstE S)) (firstE S))).1 (lookC ((turnS (restK S S.N) (firstE S)).cod (firstE S)) (turnS (restK S S.N) (firstE S)).cf.iv (turnS (restK S S.N) (firstE S)).clk (hbOf (turnS (restK S S.N) (firstE S)) (firstE S))).2
     exact h1.clk
   · rfl
theorem sampleS_clk (S : Cor) (u : Int) : (sampleS S u).clk = S.clk := (settleAll_like 3 _ _).clk
theorem drainS_clk (S : Cor) (d : Int) : (drainS S d).clk = S.clk := by
 unfold drainS
 split
 · rfl
 · split <;> rfl
theorem doS_now (S : Cor) (now a b c d : Int) : (doS S now a b c d).clk = max S.clk now := by
 unfold doS
 split
 · rfl
 · split
   · rfl
   · split
     · rw [(endS_K _).2.2.2.2, submitS_clk, sweptS_clk]
     · split
       · rw [(endS_K _).2.2.2.2, pollS_clk, sweptS_clk]
       · split
         · rw [(endS_K _).2.2.2.2, sampleS_clk, sweptS_clk]
         · rw [(endS_K _).2.2.2.2, drainS_clk, sweptS_clk]
theorem add_on (a b : Int) (ha : I64_ a) (hb : I64_ b) (h0 : 0 ≤ b) : ∃ n, I64_ n ∧ a ≤ n ∧ (b = 0 → n = a) ∧ ∀ W, Calls Tryz.prog 13 #[.int .i64 a, .int .i64 b] W fun e w' => e = .returned (.int .i64 n) ∧ Below W.heap.size W w' := by
 refine ⟨sat (a + b), sat_in _, ?_, fun h => ?_, fun W => radd02_any a b W ha.1 ha.2 hb.1 hb.2⟩
 · unfold I64_ at ha; unfold sat; omega
 · rw [h, Int.add_zero]; exact sat_is a ha.1 ha.2
theorem sub_back (a b : Int) (ha : I64_ a) (hb : I64_ b) (h0 : 0 ≤ b) : ∃ n, I64_ n ∧ n ≤ a ∧ ∀ W, Calls Tryz.prog 14 #[.int .i64 a, .int .i64 b] W fun e w' => e = .returned (.int .i64 n) ∧ Below W.heap.size W w' := by
 refine ⟨sat (a - b), sat_in _, ?_, fun W => rsub02_any a b W ha.1 ha.2 hb.1 hb.2⟩
 unfold I64_ at ha; unfold sat; omega
theorem clkS_back {S : Cor} {now then_ : Int} (h : S.clk ≤ now) (h0 : then_ ≤ now) (h1 : then_ = now ∨ S.clk = now) : clkS S then_ = clkS S now := by
 unfold clkS
 rcases h1 with e | e
 · rw [e]
 · rw [show max S.clk then_ = max S.clk now by omega]
theorem doS_clk {S : Cor} {x y a b c d : Int} (h : clkS S x = clkS S y) : doS S x a b c d = doS S y a b c d ∧ doV S x a b c d = doV S y a b c d := by
 unfold doS doV sweptS
 rw [h]
 exact ⟨rfl, rfl⟩
end Go.Proofs.YtcffeokbipjaoaaGreat
namespace Go.Proofs.YtcffeokbipjaoaaGreat
open Go Go.RowKit
set_option linter.unusedVariables false
section
variable {P : Program} {ops : Array Oper} {Q : Exit → Act → World → Prop} {md : Region.Mode} {S : World → Prop} {fs bs : List Nat}
theorem anyU_call {i f : Nat} {o : Oper} {l : Array Bool} {a : Act} {D : World → Prop} (g : FuncId) (args : Array Value) (v : Value) (D' : World → Prop) (hr : Region.ready md ops l = [i]) (hb : fs.contains i = true)
   (hi : ops[i]? = some o) (hw : Region.wanted o (yielded ops a.tmps) = true) (hrun : ∀ w, S w → D w → (execOp a.eval o).run P w = .ok (.enter g args) w)
   (hc : ∀ w, S w → D w → Calls P g args w fun e w' => e = .returned v ∧ S w' ∧ D' w') (hst : Still D') (hl : Shut md ops l)
   (h : Shut md ops (l.setIfInBounds i true) → anyU P md ops Q S fs bs f (l.setIfInBounds i true) (a.put o.dst v) D') : anyU P md ops Q S fs bs (f + 1) l a D :=
 anyU_make hr hb fun w hS hD => by
   unfold Go.wpOp
   simp only [hi, hw, if_true]
   refine .inl ?_
   unfold Oper.wp
   rw [hrun w hS hD]
   refine Calls.mono (hc w hS hD) fun e w' he => ?_
   obtain ⟨rfl, h1, h2⟩ := he
   exact ⟨h1, D', hst, h2, h (hl.step (by rw [hr]; exact List.mem_singleton.2 rfl))⟩
theorem anyU_oneS {i f : Nat} {oi : Oper} {v : Value} {l : Array Bool} {a : Act} {D : World → Prop} (hr : Region.ready md ops l = [i]) (hi : ops[i]? = some oi) (hy : YieldsS P ops S oi v a) (hl : Shut md ops l)
   (h : Shut md ops (l.setIfInBounds i true) → anyU P md ops Q S fs bs f (l.setIfInBounds i true) (a.put oi.dst v) D) : anyU P md ops Q S fs bs (f + 1) l a D :=
 anyU_one hr hi hy (h (hl.step (by rw [hr]; exact List.mem_singleton.2 rfl)))
theorem wp_region_UD (S D : World → Prop) (fs bs : List Nat) {id : Nat} {a : Act} {w : World} (hm : P.follows .mixedOrders = true) (hS : S w.drew) (hD : D w.drew) (hst : Still D)
   (h : Shut .any ops (Array.replicate ops.size false) → anyU P .any ops Q S fs bs ops.size (Array.replicate ops.size false) a D) : (Code.region id ops true).wp P Q a w :=
 wp_region_any hm (any_of_U _ _ _ _ (h (Shut.none _ rfl)) hst _ hS hD)
end
end Go.Proofs.YtcffeokbipjaoaaGreat
namespace Go.Proofs.YtcffeokbipjaoaaGreat
open Go.ChangeShapes Go.WideShapes Go.RowKit Kn
set_option linter.unusedVariables false
def DD (n0 : Nat) (wq : World) (a b : Nat) (X Y : Cor) (w' : World) : Prop := Two n0 w' a b X Y ∧ Below n0 wq w' ∧ n0 ≤ wq.heap.size
section
variable {n0 a b : Nat} {wq w' w'' : World} {X Y X' Y' : Cor}
theorem DD.size (h : DD n0 wq a b X Y w') : n0 ≤ w'.heap.size := Nat.le_trans h.2.2 h.2.1.size
theorem DD.next (h : DD n0 wq a b X Y w') (ht : Two n0 w'' a b X' Y') (hb : Below n0 w' w'') : DD n0 wq a b X' Y' w'' := ⟨ht, h.2.1.trans hb, h.2.2⟩
theorem DD.still : Still (DD n0 wq a b X Y) := fun w1 w2 h hb => ⟨h.1.below hb, h.2.1.trans (hb.mono h.size), h.2.2⟩
theorem DD.drew_ (h : DD n0 wq a b X Y w') : DD n0 wq a b X Y w'.drew := DD.still _ _ h (Below.drew (Below.refl _ _))
theorem Two.queue (h : Two n0 w' a b X Y) (hn : n0 ≤ w'.heap.size) (hK : X.K ≤ 1000) : Calls Tryz.prog 17 #[.pointer (some ⟨a, 0, none⟩)] w' fun e w'' => (∃ A c, e = .returned (.slice A (allT X.q.L X.N).length c)) ∧ Two n0 w'' a b X Y ∧ Below n0 w' w'' := by
 obtain ⟨⟨A, B, h1, h2, h3, h4, h5⟩⟩ := h
 refine (co_queue h1 hK).mono ?_
 rintro e w'' ⟨v, rfl, ho, hb⟩
 obtain ⟨A0, c0, rfl⟩ := own_form ho
 exact ⟨⟨_, _, rfl⟩, ⟨⟨A, B, h1.below hb, h2.below hb, h3, h4, h5⟩⟩, hb.mono hn⟩
theorem Two.log_ (h : Two n0 w' a b X Y) : ∃ l : Nat, (Calls Tryz.prog 18 #[.pointer (some ⟨a, 0, none⟩)] w' fun e w'' => e = .returned (.pointer (some ⟨l, 0, none⟩)) ∧ w' = w'') ∧ Calls Tryz.prog 19 #[.pointer (some ⟨l, 0, none⟩)] w' fun e w'' => e = .returned (.int .i64 (X.log.length : Int)) ∧ w' = w'' := by
 obtain ⟨⟨A, B, h1, h2, h3, h4, h5⟩⟩ := h
 obtain ⟨q, gc, gm, l, r, Oq, hB, -⟩ := h1.cells
 exact ⟨l, co_log hB, tlen_Tlb _ hB.log⟩
theorem Two.pid_ (h : Two n0 w' a b X Y) (hn : n0 ≤ w'.heap.size) : Calls Tryz.prog 20 #[.pointer (some ⟨a, 0, none⟩)] w' fun e w'' => e = .returned (.agg #[.int .i64 X.pid.su, .int .i64 X.pid.la, .int .i64 X.pid.le]) ∧ Two n0 w'' a b X Y ∧ Below n0 w' w'' := by
 have h0 := h
 obtain ⟨⟨A, B, h1, h2, h3, h4, h5⟩⟩ := h
 refine (co_pid h1).mono ?_
 rintro e w'' ⟨rfl, hb⟩
 exact ⟨rfl, h0.below hb, hb.mono hn⟩
end
end Go.Proofs.YtcffeokbipjaoaaGreat
