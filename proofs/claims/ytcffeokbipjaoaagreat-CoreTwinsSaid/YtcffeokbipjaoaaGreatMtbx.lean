/- Texts of this claim, one behind the other: Cri. -/
import Derived.Test.YtcffeokbipjaoaaGreatMtbd
import Derived.Test.YtcffeokbipjaoaaGreatMtbe
import Derived.Test.YtcffeokbipjaoaaGreatMtbg
import Derived.Test.YtcffeokbipjaoaaGreatMtbr
import Derived.Test.YtcffeokbipjaoaaGreatMtbu
import Derived.Test.YtcffeokbipjaoaaGreatMtbw
namespace Go.Proofs.YtcffeokbipjaoaaGreat
open Go.ChangeShapes Go.WideShapes Go.RowKit Go.Sort Kn
set_option linter.unusedVariables false
set_option linter.unusedSimpArgs false
def pidS (S : Cor) (m : Pst) : Cor := { S with pid := m }
def pprS (S : Cor) : Ppr := ⟨S.cf.sp, S.cf.kp, S.cf.ki, S.cf.kd, S.cf.lm, S.cf.st, mostW S.cf⟩
def allQ (S : Cor) : List Qu := (allT S.q.L S.N).map fun i => ⟨S.q.V i, S.q.R i, i⟩
noncomputable def cutQ (S : Cor) : List Qu := cutSort (keepQ (edgeG S.cf.ti S.pid.le) (allQ S))
noncomputable def sampleS (S : Cor) (u : Int) : Cor := settleAll (pidS S (sampP S.pid (pprS S) u)) 3 ((cutQ (pidS S (sampP S.pid (pprS S) u))).map (·.i))
theorem mostW_in (c : Cf) : -9223372036854775808 ≤ mostW c ∧ mostW c ≤ 9223372036854775807 := by unfold mostW wrap64; omega
section
variable {w w' w'' : World} {p q gc gm l g b : Nat} {r r' : Option Nat} {O Oq Oq' O1 : Nat → Prop} {S S' : Cor} {T : TypeId} {cs : Array Value}
theorem cutQ_mem {x : Qu} (h : x ∈ cutQ S) : x.i ∈ allT S.q.L S.N ∧ x = ⟨S.q.V x.i, S.q.R x.i, x.i⟩ := by
 have h1 := (cutSort_perm _).1.mem_iff.1 h
 have h2 := (List.mem_filter.1 h1).1
 obtain ⟨i, hi, rfl⟩ := List.mem_map.1 h2
 exact ⟨hi, rfl⟩
theorem cutQ_back : ((cutQ S).map (·.i)).map (fun i => (⟨S.q.V i, S.q.R i, i⟩ : Qu)) = cutQ S := by
 rw [List.map_map]
 conv => rhs; rw [← List.map_id (cutQ S)]
 exact List.map_congr_left fun x hx => (cutQ_mem hx).2.symm
theorem cutQ_nd (h : (allT S.q.L S.N).Nodup) : ((cutQ S).map (·.i)).Nodup := by
 have h1 : ((cutQ S).map (·.i)).Perm ((keepQ (edgeG S.cf.ti S.pid.le) (allQ S)).map (·.i)) := (cutSort_perm _).1.map _
 rw [h1.nodup_iff]
 have h2 : ((keepQ (edgeG S.cf.ti S.pid.le) (allQ S)).map (·.i)).Sublist ((allQ S).map (·.i)) := (List.filter_sublist).map _
 refine h2.nodup ?_
 have h3 : (allQ S).map (·.i) = allT S.q.L S.N := by unfold allQ; rw [List.map_map]; exact List.map_id _
 rw [h3]
 exact h
theorem Cor.ok.pid_ (h : S.ok) {m : Pst} (hm : m.ok) : (pidS S m).ok := by
 obtain ⟨b1, b2, b3, b4, b5, b6, b7, b8, b9, b10, b11, b12, b13, b14, b15, b16, b17⟩ := h
 exact ⟨b1, b2, b3, b4, b5, b6, b7, b8, b9, hm, b11, b12, b13, b14, b15, b16, b17⟩
theorem CoreB.pid3 (h : CoreB w p q gc gm l r Oq S) {m : Pst} (hm : m.ok) : CoreB (((w.setCell ⟨p, 19, none⟩ (.int .i64 m.su)).setCell ⟨p, 20, none⟩ (.int .i64 m.la)).setCell ⟨p, 21, none⟩ (.int .i64 m.le)) p q gc gm l r Oq (pidS S m) := by
 obtain ⟨o1, o2, o3, o4, o5, o6⟩ := h.ok.pid
 obtain ⟨m1, m2, m3, m4, m5, m6⟩ := hm
 have h1 : CoreB (w.setCell ⟨p, 19, none⟩ (.int .i64 m.su)) p q gc gm l r Oq (pidS S ⟨m.su, S.pid.la, S.pid.le⟩) := h.set_ 19 _ rfl (h.ok.pid_ ⟨m1, m2, o3, o4, o5, o6⟩) rfl rfl rfl rfl rfl rfl rfl
 have h2 : CoreB ((w.setCell ⟨p, 19, none⟩ (.int .i64 m.su)).setCell ⟨p, 20, none⟩ (.int .i64 m.la)) p q gc gm l r Oq (pidS S ⟨m.su, m.la, S.pid.le⟩) := h1.set_ 20 _ rfl (h.ok.pid_ ⟨m1, m2, m3, m4, o5, o6⟩) rfl rfl rfl rfl rfl rfl rfl
 exact h2.set_ 21 _ rfl (h.ok.pid_ ⟨m1, m2, m3, m4, m5, m6⟩) rfl rfl rfl rfl rfl rfl rfl
set_option maxRecDepth 100000 in
set_option maxHeartbeats 16000000 in
theorem co_sample (a b c d : Int) (h : CoreL w p O S) (hK : S.K ≤ 1000) (hd : I64_ d) :
   Calls Tryz.prog 85 #[.pointer (some ⟨p, 0, none⟩), opv a b c d] w fun e w' => e = .returned (resv 10 0 0 0 0) ∧ CStep w p O (sampleS S d) w' := by
 unfold opv resv
 have hlt := h.lt (k := p) (by obtain ⟨q, gc, gm, l, r, Oq, h1, h2⟩ := h.cells; exact (h2 p).2 (.inl rfl))
 have hOs : ∀ k, O k → k < w.heap.size := fun k hk => h.lt hk
 obtain ⟨q, gc, gm, l, r, Oq, h1, hO⟩ := h.cells
 obtain ⟨cf, hcf⟩ : ∃ cf, S.cf = cf := ⟨_, rfl⟩
 obtain ⟨ti, ro, ta, iv, hg, lo, dw, ho, sp, kp, ki, kd, lm, st, th, rg⟩ := cf
 obtain ⟨⟨su, la, le⟩, hpi⟩ : ∃ m, S.pid = m := ⟨_, rfl⟩
 obtain ⟨mo, hmo⟩ : ∃ mo, mostW ⟨ti, ro, ta, iv, hg, lo, dw, ho, sp, kp, ki, kd, lm, st, th, rg⟩ = mo := ⟨_, rfl⟩
 obtain ⟨⟨z1, z2, z3⟩, hz⟩ : ∃ m, sampP ⟨su, la, le⟩ ⟨sp, kp, ki, kd, lm, st, mo⟩ d = m := ⟨_, rfl⟩
 have hmi := mostW_in ⟨ti, ro, ta, iv, hg, lo, dw, ho, sp, kp, ki, kd, lm, st, th, rg⟩
 rw [hmo] at hmi
 have hpk : (⟨su, la, le⟩ : Pst).ok := hpi ▸ h1.ok.pid
 have hft : (⟨ti, ro, ta, iv, hg, lo, dw, ho, sp, kp, ki, kd, lm, st, th, rg⟩ : Cf).fits := hcf ▸ h1.ok.fits
 have hzk : (⟨z1, z2, z3⟩ : Pst).ok := hz ▸ sampP_ok _ _ _ hpk ⟨hft.sp.1, hft.sp.2, hft.kp.1, hft.kp.2, hft.ki.1, hft.ki.2, hft.kd.1, hft.kd.2, hft.lm.1, hft.lm.2, hft.st.1, hft.st.2, hmi.1, hmi.2⟩
 have hsam : ∀ W, Calls Tryz.prog 130 #[.agg #[.int .i64 su, .int .i64 la, .int .i64 le], .agg #[.int .i64 sp, .int .i64 kp, .int .i64 ki, .int .i64 kd, .int .i64 lm, .int .i64 st, .int .i64 mo], .int .i64 d] W fun e w' => e = .returned (.agg #[.int .i64 z1, .int .i64 z2, .int .i64 z3]) ∧ Below W.heap.size W w' := fun W =>
   psamp_lit su la le sp kp ki kd lm st mo d z1 z2 z3 (Lib.hid hz) W hpk.u0 hpk.u1 hpk.a0 hpk.a1 hpk.e0 hpk.e1 hft.sp.1 hft.sp.2 hft.kp.1 hft.kp.2 hft.ki.1 hft.ki.2 hft.kd.1 hft.kd.2 hft.lm.1 hft.lm.2 hft.st.1 hft.st.2 hmi.1 hmi.2 hd.1 hd.2
 have hN : ti = (S.N : Int) := by have := h1.ok.hN; rw [hcf] at this; exact this
 have hN8 := h1.ok.N8
 have hti0 : 0 ≤ ti := by omega
 have hti1 : ti ≤ 1000 := by omega
 obtain ⟨E, hE⟩ : ∃ E, edgeG ti z3 = E := ⟨_, rfl⟩
 have hedg : ∀ W, Calls Tryz.prog 131 #[.agg #[.int .i64 ti, .int .i64 ro, .int .i64 ta, .int .i64 iv, .int .i64 hg, .int .i64 lo, .int .i64 dw, .int .i64 ho, .int .i64 sp, .int .i64 kp, .int .i64 ki, .int .i64 kd, .int .i64 lm, .int .i64 st, .int .i64 th, .int .i64 rg], .int .i64 z3] W fun e w' => e = .returned (.int .i64 E) ∧ Below W.heap.size W w' := fun W => by
   have := gedge_any ⟨ti, ro, ta, iv, hg, lo, dw, ho, sp, kp, ki, kd, lm, st, th, rg⟩ z3 hti0 hti1 hzk.e0 hzk.e1 W
   rw [show (⟨ti, ro, ta, iv, hg, lo, dw, ho, sp, kp, ki, kd, lm, st, th, rg⟩ : Cf).ti = ti from rfl, hE] at this
   exact this
 have hpid : ∀ W, Calls Tryz.prog 68 #[.agg #[.int .i64 ti, .int .i64 ro, .int .i64 ta, .int .i64 iv, .int .i64 hg, .int .i64 lo, .int .i64 dw, .int .i64 ho, .int .i64 sp, .int .i64 kp, .int .i64 ki, .int .i64 kd, .int .i64 lm, .int .i64 st, .int .i64 th, .int .i64 rg]] W fun e w' => e = .returned (.agg #[.int .i64 sp, .int .i64 kp, .int .i64 ki, .int .i64 kd, .int .i64 lm, .int .i64 st, .int .i64 mo]) ∧ Below W.heap.size W w' := fun W => by
   have := cpid_any ⟨ti, ro, ta, iv, hg, lo, dw, ho, sp, kp, ki, kd, lm, st, th, rg⟩ W
   rw [hmo] at this
   exact this
 obtain ⟨S1, hS1⟩ : ∃ s, pidS S ⟨z1, z2, z3⟩ = s := ⟨_, rfl⟩
 have hsS : sampleS S d = settleAll S1 3 ((cutQ S1).map (·.i)) := by
   have : sampP S.pid (pprS S) d = ⟨z1, z2, z3⟩ := by unfold pprS; rw [hpi, hcf, hmo]; exact hz
   unfold sampleS; rw [this, hS1]
 have hE1 : edgeG S1.cf.ti S1.pid.le = E := by rw [← hS1]; show edgeG S.cf.ti z3 = E; rw [hcf]; exact hE
 have HSAM := Lib.hid hsam
 have HEDG := Lib.hid hedg
 have HPID := Lib.hid hpid
 have HCF := Lib.hid hcf
 have HPI := Lib.hid hpi
 have HZK := Lib.hid hzk
 have HS1 := Lib.hid hS1
 have HSS := Lib.hid hsS
 have HE1 := Lib.hid hE1
 have HOL := Lib.hid hOs
 have HB := Lib.hid h1
 have HO := Lib.hid hO
 clear hmi hpk hft hsam hedg hpid hN hti0 hti1 hE hcf hpi hzk hz hmo hS1 hsS hE1 h h1 hO hOs hlt
 go_enter Tryz.func85, Tryz.ntmps85
 go_upto_region 1 with fail
 obtain ⟨gb, hgb⟩ : ∃ g, w.heap.size = g := ⟨_, rfl⟩
 obtain ⟨g, hg1⟩ : ∃ g, w.heap.size + 1 = g := ⟨_, rfl⟩
 refine wp_worldx (fun wx => CoreB wx p q gc gm l r Oq S ∧ Blk wx gb opT #[.int .u8 a, .int .i64 b, .int .i64 c, .int .i64 d] ∧ Blk wx g resT #[.int .u8 0, .int .u64 0, .int .i64 0, .int .i64 0, .int .i64 0] ∧ Below w.heap.size w wx) ⟨HB.out.below (((Below.refl _ _).alloc (Nat.le_refl _) _).alloc (by simp) _), by rw [← hgb]; exact (Blk.made _ _ _).alloc_ _, by rw [← hg1]; exact Blk.new_ (by simp), ((Below.refl _ _).alloc (Nat.le_refl _) _).alloc (by simp) _⟩ ?_
 try rw [hg1]
 try rw [hgb]
 rintro x1 ⟨h1, h2, h3, h4⟩
 try rw [← hgb] at h4
 have hgn : ¬ O g := fun e => by have := HOL.out g e; omega
 have hlg : w.heap.size ≤ g := by omega
 have HA := Lib.hid h1
 have HX := Lib.hid h2
 have HR := Lib.hid h3
 have HC := Lib.hid h4
 have HGN := Lib.hid hgn
 have HLG := Lib.hid hlg
 clear h1 h2 h3 h4 hg1 hgb hgn hlg
 refine wp_region_noPanic ?_
 refine wp_region_U (fun w' => CoreB w' p q gc gm l r Oq S ∧ Blk w' gb opT #[.int .u8 a, .int .i64 b, .int .i64 c, .int .i64 d] ∧ Blk w' g resT #[.int .u8 0, .int .u64 0, .int .i64 0, .int .i64 0, .int .i64 0] ∧ Below x1.heap.size x1 w') [] [15] (by kernel_rfl) (⟨HA.out.below ((Below.refl _ _).drew), HX.out.drew_, HR.out.drew_, (Below.refl _ _).drew⟩) ?_
 intro hsh0
 skip
 refine anyU_tk 60 (i := 0) (v := ?_) rfl (fun _ _ _ h => h) (YieldsS.of_if (Or.inl ⟨by rfl, ?_⟩)) ?_
 rotate_left
 · (intro wS hSw; (try dsimp only at hSw); (first | (go_simp; done) | (go_simp; with_reducible rfl)))
 intro hsh1
 clear hsh0
 try simp only [Act.put, List.getElem_toArray, List.getElem_cons_zero, List.getElem_cons_succ, List.setIfInBounds_toArray, List.set_cons_zero, List.set_cons_succ]
 refine anyU_tk 60 (i := 1) (v := ?_) rfl (fun _ _ _ h => h) (YieldsS.of_if (Or.inl ⟨by rfl, ?_⟩)) ?_
 rotate_left
 · (intro wS hSw; (try dsimp only at hSw); (first | (go_simp; done) | (go_simp; with_reducible rfl)))
 intro hsh2
 clear hsh1
 try simp only [Act.put, List.getElem_toArray, List.getElem_cons_zero, List.getElem_cons_succ, List.setIfInBounds_toArray, List.set_cons_zero, List.set_cons_succ]
 refine anyU_tk 60 (i := 2) (v := ?_) rfl (fun _ _ _ h => h) (YieldsS.of_if (Or.inl ⟨by rfl, ?_⟩)) ?_
 rotate_left
 · (intro wS hSw; (try dsimp only at hSw); (first | (go_simp; done) | (go_simp; with_reducible rfl)))
 intro hsh3
 clear hsh2
 try simp only [Act.put, List.getElem_toArray, List.getElem_cons_zero, List.getElem_cons_succ, List.setIfInBounds_toArray, List.set_cons_zero, List.set_cons_succ]
 refine anyU_tk 60 (i := 3) (v := ?_) rfl (fun _ _ _ h => h) (YieldsS.of_if (Or.inl ⟨by rfl, ?_⟩)) ?_
 rotate_left
 · (intro wS hSw; (try dsimp only at hSw); (first | (go_simp; done) | (go_simp; with_reducible rfl)))
 intro hsh4
 clear hsh3
 try simp only [Act.put, List.getElem_toArray, List.getElem_cons_zero, List.getElem_cons_succ, List.setIfInBounds_toArray, List.set_cons_zero, List.set_cons_succ]
 refine anyU_tk 60 (i := 4) (v := ?_) rfl (fun _ _ _ h => h) (YieldsS.of_if (Or.inl ⟨by rfl, ?_⟩)) ?_
 rotate_left
 · (intro wS hSw; (try dsimp only at hSw); have c19 := hSw.1.c19; have c20 := hSw.1.c20; have c21 := hSw.1.c21; rw [HPI.out] at c19 c20 c21; clear hSw; (first | (go_simp; done) | (go_simp; with_reducible rfl)))
 intro hsh5
 clear hsh4
 try simp only [Act.put, List.getElem_toArray, List.getElem_cons_zero, List.getElem_cons_succ, List.setIfInBounds_toArray, List.set_cons_zero, List.set_cons_succ]
 refine anyU_tk 60 (i := 5) (v := ?_) rfl (fun _ _ _ h => h) (YieldsS.of_if (Or.inl ⟨by rfl, ?_⟩)) ?_
 rotate_left
 · (intro wS hSw; (try dsimp only at hSw); (first | (go_simp; done) | (go_simp; with_reducible rfl)))
 intro hsh6
 clear hsh5
 try simp only [Act.put, List.getElem_toArray, List.getElem_cons_zero, List.getElem_cons_succ, List.setIfInBounds_toArray, List.set_cons_zero, List.set_cons_succ]
 refine anyU_tk 60 (i := 6) (v := ?_) rfl (fun _ _ _ h => h) (YieldsS.of_if (Or.inl ⟨by rfl, ?_⟩)) ?_
 rotate_left
 · (intro wS hSw; (try dsimp only at hSw); (first | (go_simp; done) | (go_simp; with_reducible rfl)))
 intro hsh7
 clear hsh6
 try simp only [Act.put, List.getElem_toArray, List.getElem_cons_zero, List.getElem_cons_succ, List.setIfInBounds_toArray, List.set_cons_zero, List.set_cons_succ]
 refine anyU_tk 60 (i := 7) (v := ?_) rfl (fun _ _ _ h => h) (YieldsS.of_if (Or.inl ⟨by rfl, ?_⟩)) ?_
 rotate_left
 · (intro wS hSw; (try dsimp only at hSw); (first | (go_simp; done) | (go_simp; with_reducible rfl)))
 intro hsh8
 clear hsh7
 try simp only [Act.put, List.getElem_toArray, List.getElem_cons_zero, List.getElem_cons_succ, List.setIfInBounds_toArray, List.set_cons_zero, List.set_cons_succ]
 refine anyU_tk 60 (i := 8) (v := ?_) rfl (fun _ _ _ h => h) (YieldsS.of_if (Or.inl ⟨by rfl, ?_⟩)) ?_
 rotate_left
 · (intro wS hSw; (try dsimp only at hSw); have k0 := hSw.1.conf HCF.out (i := 0) rfl; have k1 := hSw.1.conf HCF.out (i := 1) rfl; have k2 := hSw.1.conf HCF.out (i := 2) rfl; have k3 := hSw.1.conf HCF.out (i := 3) rfl; have k4 := hSw.1.conf HCF.out (i := 4) rfl; have k5 := hSw.1.conf HCF.out (i := 5) rfl; have k6 := hSw.1.conf HCF.out (i := 6) rfl; have k7 := hSw.1.conf HCF.out (i := 7) rfl; have k8 := hSw.1.conf HCF.out (i := 8) rfl; have k9 := hSw.1.conf HCF.out (i := 9) rfl; have k10 := hSw.1.conf HCF.out (i := 10) rfl; have k11 := hSw.1.conf HCF.out (i := 11) rfl; have k12 := hSw.1.conf HCF.out (i := 12) rfl; have k13 := hSw.1.conf HCF.out (i := 13) rfl; have k14 := hSw.1.conf HCF.out (i := 14) rfl; have k15 := hSw.1.conf HCF.out (i := 15) rfl; clear hSw; (first | (go_simp; done) | (go_simp; with_reducible rfl)))
 intro hsh9
 clear hsh8
 try simp only [Act.put, List.getElem_toArray, List.getElem_cons_zero, List.getElem_cons_succ, List.setIfInBounds_toArray, List.set_cons_zero, List.set_cons_succ]
 refine anyU_tk 60 (i := 9) (v := .agg #[.int .i64 sp, .int .i64 kp, .int .i64 ki, .int .i64 kd, .int .i64 lm, .int .i64 st, .int .i64 mo]) rfl (fun _ _ _ h => h) (YieldsS.of_call (by rfl) (f := 68) (args := #[.agg #[.int .i64 ti, .int .i64 ro, .int .i64 ta, .int .i64 iv, .int .i64 hg, .int .i64 lo, .int .i64 dw, .int .i64 ho, .int .i64 sp, .int .i64 kp, .int .i64 ki, .int .i64 kd, .int .i64 lm, .int .i64 st, .int .i64 th, .int .i64 rg]]) (fun wS hSw => by first | rfl | (go_simp; done)) (fun wS hSw => ?_)) ?_
 · refine (HPID.out wS).mono ?_; rintro e wn ⟨rfl, hb⟩; exact ⟨rfl, ⟨hSw.1.below hb, hSw.2.1.below_ hb hSw.2.1.size, hSw.2.2.1.below_ hb hSw.2.2.1.size, hSw.2.2.2.trans (hb.mono hSw.2.2.2.size)⟩, hb⟩
 intro hsh10
 clear hsh9
 try simp only [Act.put, List.getElem_toArray, List.getElem_cons_zero, List.getElem_cons_succ, List.setIfInBounds_toArray, List.set_cons_zero, List.set_cons_succ]
 refine anyU_tk 60 (i := 10) (v := ?_) rfl (fun _ _ _ h => h) (YieldsS.of_if (Or.inl ⟨by rfl, ?_⟩)) ?_
 rotate_left
 · (intro wS hSw; (try dsimp only at hSw); (first | (go_simp; done) | (go_simp; with_reducible rfl)))
 intro hsh11
 clear hsh10
 try simp only [Act.put, List.getElem_toArray, List.getElem_cons_zero, List.getElem_cons_succ, List.setIfInBounds_toArray, List.set_cons_zero, List.set_cons_succ]
 refine anyU_tk 60 (i := 11) (v := ?_) rfl (fun _ _ _ h => h) (YieldsS.of_if (Or.inl ⟨by rfl, ?_⟩)) ?_
 rotate_left
 · (intro wS hSw; (try dsimp only at hSw); have a3 : wS.cell? ⟨gb, 3, none⟩ = some (.int .i64 d) := hSw.2.1.val rfl; clear hSw; (first | (go_simp; done) | (go_simp; with_reducible rfl)))
 intro hsh12
 clear hsh11
 try simp only [Act.put, List.getElem_toArray, List.getElem_cons_zero, List.getElem_cons_succ, List.setIfInBounds_toArray, List.set_cons_zero, List.set_cons_succ]
 refine anyU_tk 60 (i := 12) (v := .agg #[.int .i64 z1, .int .i64 z2, .int .i64 z3]) rfl (fun _ _ _ h => h) (YieldsS.of_call (by rfl) (f := 130) (args := #[.agg #[.int .i64 su, .int .i64 la, .int .i64 le], .agg #[.int .i64 sp, .int .i64 kp, .int .i64 ki, .int .i64 kd, .int .i64 lm, .int .i64 st, .int .i64 mo], .int .i64 d]) (fun wS hSw => by first | rfl | (go_simp; done)) (fun wS hSw => ?_)) ?_
 · refine (HSAM.out wS).mono ?_; rintro e wn ⟨rfl, hb⟩; exact ⟨rfl, ⟨hSw.1.below hb, hSw.2.1.below_ hb hSw.2.1.size, hSw.2.2.1.below_ hb hSw.2.2.1.size, hSw.2.2.2.trans (hb.mono hSw.2.2.2.size)⟩, hb⟩
 intro hsh13
 clear hsh12
 try simp only [Act.put, List.getElem_toArray, List.getElem_cons_zero, List.getElem_cons_succ, List.setIfInBounds_toArray, List.set_cons_zero, List.set_cons_succ]
 refine anyU_tk 60 (i := 13) (v := ?_) rfl (fun _ _ _ h => h) (YieldsS.of_if (Or.inl ⟨by rfl, ?_⟩)) ?_
 rotate_left
 · (intro wS hSw; (try dsimp only at hSw); (first | (go_simp; done) | (go_simp; with_reducible rfl)))
 intro hsh14
 clear hsh13
 try simp only [Act.put, List.getElem_toArray, List.getElem_cons_zero, List.getElem_cons_succ, List.setIfInBounds_toArray, List.set_cons_zero, List.set_cons_succ]
 refine anyU_tk 60 (i := 14) (v := ?_) rfl (fun _ _ _ h => h) (YieldsS.of_if (Or.inl ⟨by rfl, ?_⟩)) ?_
 rotate_left
 · (intro wS hSw; (try dsimp only at hSw); (first | (go_simp; done) | (go_simp; with_reducible rfl)))
 intro hsh15
 clear hsh14
 try simp only [Act.put, List.getElem_toArray, List.getElem_cons_zero, List.getElem_cons_succ, List.setIfInBounds_toArray, List.set_cons_zero, List.set_cons_succ]
 refine anyU_last (i := 15) (by kernel_rfl) (by kernel_rfl) (fun wS hSw _ => ?_)
 refine last_op rfl (by rfl) (by kernel_rfl) ?_
 have c19 := hSw.1.c19
 have c20 := hSw.1.c20
 have c21 := hSw.1.c21
 have zf := hSw.1.head.free
 have HS := Lib.hid hSw
 clear hSw
 unfold Oper.wp
 go_simp
 refine NoPanic.normal ?_
 have hop : O p := (HO.out p).2 (.inl rfl)
 have hkp : Kept O wS (((wS.setCell ⟨p, 19, none⟩ (.int .i64 z1)).setCell ⟨p, 20, none⟩ (.int .i64 z2)).setCell ⟨p, 21, none⟩ (.int .i64 z3)) := (((Kept.refl O wS).set_ (p := ⟨p, 19, none⟩) (.inl hop) _).set_ (p := ⟨p, 20, none⟩) (.inl hop) _).set_ (p := ⟨p, 21, none⟩) (.inl hop) _
 have hcb := HS.out.1.pid3 HZK.out
 rw [HS1.out] at hcb
 have hrb := HS.out.2.2.1.kept hkp HGN.out
 have hkw : Kept O w (((wS.setCell ⟨p, 19, none⟩ (.int .i64 z1)).setCell ⟨p, 20, none⟩ (.int .i64 z2)).setCell ⟨p, 21, none⟩ (.int .i64 z3)) := (Kept.of_below (HC.out.trans (HS.out.2.2.2.mono HC.out.size))).trans hkp
 obtain ⟨x2, hx2⟩ : ∃ x, (((wS.setCell ⟨p, 19, none⟩ (.int .i64 z1)).setCell ⟨p, 20, none⟩ (.int .i64 z2)).setCell ⟨p, 21, none⟩ (.int .i64 z3)) = x := ⟨_, rfl⟩
 rw [hx2] at hcb hrb hkw ⊢
 clear hx2 hkp HS HA HX HR HC c19 c20 c21 zf wS
 have HA := Lib.hid hcb
 have HR := Lib.hid hrb
 have HC := Lib.hid hkw
 have hcf1 : S1.cf = ⟨ti, ro, ta, iv, hg, lo, dw, ho, sp, kp, ki, kd, lm, st, th, rg⟩ := by rw [← HS1.out]; exact HCF.out
 have hle1 : S1.pid.le = z3 := by rw [← HS1.out]; rfl
 have HCF1 := Lib.hid hcf1
 have HLE1 := Lib.hid hle1
 clear hcb hrb hkw hcf1 hle1
 go_upto_region 2 with fail
 refine wp_region_noPanic ?_
 refine wp_region_U (fun w' => CoreB w' p q gc gm l r Oq S1 ∧ Blk w' g resT #[.int .u8 0, .int .u64 0, .int .i64 0, .int .i64 0, .int .i64 0] ∧ Below x2.heap.size x2 w') [7, 8] [] (by kernel_rfl) (⟨HA.out.below ((Below.refl _ _).drew), HR.out.drew_, (Below.refl _ _).drew⟩) ?_
 intro hsh0
 skip
 refine anyU_tk 60 (i := 0) (v := ?_) rfl (fun _ _ _ h => h) (YieldsS.of_if (Or.inl ⟨by rfl, ?_⟩)) ?_
 rotate_left
 · (intro wS hSw; (try dsimp only at hSw); (first | (go_simp; done) | (go_simp; with_reducible rfl)))
 intro hsh1
 clear hsh0
 try simp only [Act.put, List.getElem_toArray, List.getElem_cons_zero, List.getElem_cons_succ, List.setIfInBounds_toArray, List.set_cons_zero, List.set_cons_succ]
 refine anyU_tk 60 (i := 1) (v := ?_) rfl (fun _ _ _ h => h) (YieldsS.of_if (Or.inl ⟨by rfl, ?_⟩)) ?_
 rotate_left
 · (intro wS hSw; (try dsimp only at hSw); (first | (go_simp; done) | (go_simp; with_reducible rfl)))
 intro hsh2
 clear hsh1
 try simp only [Act.put, List.getElem_toArray, List.getElem_cons_zero, List.getElem_cons_succ, List.setIfInBounds_toArray, List.set_cons_zero, List.set_cons_succ]
 refine anyU_tk 60 (i := 2) (v := ?_) rfl (fun _ _ _ h => h) (YieldsS.of_if (Or.inl ⟨by rfl, ?_⟩)) ?_
 rotate_left
 · (intro wS hSw; (try dsimp only at hSw); (first | (go_simp; done) | (go_simp; with_reducible rfl)))
 intro hsh3
 clear hsh2
 try simp only [Act.put, List.getElem_toArray, List.getElem_cons_zero, List.getElem_cons_succ, List.setIfInBounds_toArray, List.set_cons_zero, List.set_cons_succ]
 refine anyU_tk 60 (i := 3) (v := ?_) rfl (fun _ _ _ h => h) (YieldsS.of_if (Or.inl ⟨by rfl, ?_⟩)) ?_
 rotate_left
 · (intro wS hSw; (try dsimp only at hSw); have k0 := hSw.1.conf HCF1.out (i := 0) rfl; have k1 := hSw.1.conf HCF1.out (i := 1) rfl; have k2 := hSw.1.conf HCF1.out (i := 2) rfl; have k3 := hSw.1.conf HCF1.out (i := 3) rfl; have k4 := hSw.1.conf HCF1.out (i := 4) rfl; have k5 := hSw.1.conf HCF1.out (i := 5) rfl; have k6 := hSw.1.conf HCF1.out (i := 6) rfl; have k7 := hSw.1.conf HCF1.out (i := 7) rfl; have k8 := hSw.1.conf HCF1.out (i := 8) rfl; have k9 := hSw.1.conf HCF1.out (i := 9) rfl; have k10 := hSw.1.conf HCF1.out (i := 10) rfl; have k11 := hSw.1.conf HCF1.out (i := 11) rfl; have k12 := hSw.1.conf HCF1.out (i := 12) rfl; have k13 := hSw.1.conf HCF1.out (i := 13) rfl; have k14 := hSw.1.conf HCF1.out (i := 14) rfl; have k15 := hSw.1.conf HCF1.out (i := 15) rfl; clear hSw; (first | (go_simp; done) | (go_simp; with_reducible rfl)))
 intro hsh4
 clear hsh3
 try simp only [Act.put, List.getElem_toArray, List.getElem_cons_zero, List.getElem_cons_succ, List.setIfInBounds_toArray, List.set_cons_zero, List.set_cons_succ]
 refine anyU_tk 60 (i := 4) (v := ?_) rfl (fun _ _ _ h => h) (YieldsS.of_if (Or.inl ⟨by rfl, ?_⟩)) ?_
 rotate_left
 · (intro wS hSw; (try dsimp only at hSw); (first | (go_simp; done) | (go_simp; with_reducible rfl)))
 intro hsh5
 clear hsh4
 try simp only [Act.put, List.getElem_toArray, List.getElem_cons_zero, List.getElem_cons_succ, List.setIfInBounds_toArray, List.set_cons_zero, List.set_cons_succ]
 refine anyU_tk 60 (i := 5) (v := .int .i64 z3) rfl (fun _ _ _ h => h) (YieldsS.of_call (by rfl) (f := 117) (args := #[.pointer (some ⟨p, 0, none⟩)]) (fun wS hSw => by first | rfl | (go_simp; done)) (fun wS hSw => ?_)) ?_
 · refine (co_level hSw.1.to).mono ?_; rw [HLE1.out]; rintro e wn ⟨rfl, hb⟩; exact ⟨rfl, ⟨hSw.1.below hb, hSw.2.1.below_ hb hSw.2.1.size, hSw.2.2.trans (hb.mono hSw.2.2.size)⟩, hb⟩
 intro hsh6
 clear hsh5
 try simp only [Act.put, List.getElem_toArray, List.getElem_cons_zero, List.getElem_cons_succ, List.setIfInBounds_toArray, List.set_cons_zero, List.set_cons_succ]
 refine anyU_tk 60 (i := 6) (v := .int .i64 E) rfl (fun _ _ _ h => h) (YieldsS.of_call (by rfl) (f := 131) (args := #[.agg #[.int .i64 ti, .int .i64 ro, .int .i64 ta, .int .i64 iv, .int .i64 hg, .int .i64 lo, .int .i64 dw, .int .i64 ho, .int .i64 sp, .int .i64 kp, .int .i64 ki, .int .i64 kd, .int .i64 lm, .int .i64 st, .int .i64 th, .int .i64 rg], .int .i64 z3]) (fun wS hSw => by first | rfl | (go_simp; done)) (fun wS hSw => ?_)) ?_
 · refine (HEDG.out wS).mono ?_; rintro e wn ⟨rfl, hb⟩; exact ⟨rfl, ⟨hSw.1.below hb, hSw.2.1.below_ hb hSw.2.1.size, hSw.2.2.trans (hb.mono hSw.2.2.size)⟩, hb⟩
 intro hsh7
 clear hsh6
 try simp only [Act.put, List.getElem_toArray, List.getElem_cons_zero, List.getElem_cons_succ, List.setIfInBounds_toArray, List.set_cons_zero, List.set_cons_succ]
 refine anyU_make (i := 7) (by kernel_rfl) (by kernel_rfl) (fun wS hSw _ => one_op rfl (by rfl) ?_)
 unfold Oper.wp
 go_simp
 obtain ⟨ga, hga⟩ : ∃ g, wS.heap.size = g := ⟨_, rfl⟩
 have hla : x2.heap.size ≤ ga := by have := hSw.2.2.size; omega
 refine ⟨⟨hSw.1.below ((Below.refl _ _).alloc (Nat.le_refl _) _), hSw.2.1.alloc_ _, hSw.2.2.alloc hSw.2.2.size _⟩, fun w' => Blk w' ga i8T #[.int .i64 0], fun a b h1 h2 => h1.below_ h2 h1.size, Blk.new_ hga.symm, ?_⟩
 rw [hga]
 clear hSw hga
 refine anyU_make (i := 8) (by kernel_rfl) (by kernel_rfl) (fun wS hSw hD => one_op rfl (by rfl) ?_)
 have e0 : wS.cell? ⟨ga, 0, none⟩ = some (.int .i64 0) := hD.val (i := 0) rfl
 have ef := hD.free
 have HS := Lib.hid hSw
 have HD := Lib.hid hD
 clear hSw hD
 unfold Oper.wp
 go_simp
 clear e0 ef
 have hkk : Kept (fun k => k = ga) wS (wS.setCell ⟨ga, 0, none⟩ (.int .i64 E)) := (Kept.refl (fun k => k = ga) wS).set_ (p := ⟨ga, 0, none⟩) (.inl rfl) _
 have hlt : ∀ {k : Nat}, (k = p ∨ k = gc ∨ k = gm ∨ k = l ∨ r = some k ∨ Oq k) → k ≠ ga := fun hk e => by have := HA.out.lt hk; omega
 have hgg : g < x2.heap.size := HR.out.size
 have hBx : CoreB (wS.setCell ⟨ga, 0, none⟩ (.int .i64 E)) p q gc gm l r Oq S1 := HS.out.1.box_ HD.out (by decide) ⟨fun e => hlt (.inl rfl) e.symm, fun e => hlt (.inr (.inl rfl)) e.symm, fun e => hlt (.inr (.inr (.inl rfl))) e.symm, fun e => hlt (.inr (.inr (.inr (.inl rfl)))) e.symm, fun e => hlt (.inr (.inr (.inr (.inr (.inl e))))) rfl⟩ hkk
 refine ⟨⟨hBx, HS.out.2.1.kept hkk (by omega), HS.out.2.2.trans (hkk.below (fun k hk => by omega) (by have := HS.out.2.2.size; omega))⟩, fun w' => Blk w' ga i8T #[.int .i64 E], fun a b h1 h2 => h1.below_ h2 h1.size, by have := HD.out.set_ 0 (.int .i64 E); simpa using this, ?_⟩
 clear hBx hkk hlt hgg HS HD
 refine anyU_done (by kernel_rfl) (fun x3 hS3 hD => ?_) _
 have hT : One w x3 p g resT #[.int .u8 0, .int .u64 0, .int .i64 0, .int .i64 0, .int .i64 0] O S1 O := ⟨⟨⟨q, gc, gm, l, r, Oq, hS3.1, HO.out⟩⟩, fun k hk => .inl hk, HC.out.trans (Kept.of_below (hS3.2.2)), hS3.2.1, HGN.out, HLG.out⟩
 have HT := Lib.hid hT
 have HEC := Lib.hid hD
 clear hT hS3 hD
 refine NoPanic.normal ?_
 clear HA HR HC
 have hK1 : S1.K ≤ 1000 := by rw [← HS1.out]; exact hK
 go_wp2_with fail
 refine (co_allq HT.out.co hK1).mono ?_
 rintro e x4 ⟨v, rfl, how, hb4⟩
 have hel := HT.out.co.all_
 have hlen : (allQ S1).length = (allT S1.q.L S1.N).length := List.length_map ..
 rw [flatU_Q, ← hlen] at how
 have HHOW := Lib.hid how
 have HB4 := Lib.hid hb4
 have HLEN := Lib.hid hlen
 have HEL := Lib.hid hel
 clear how hb4 hlen hel
 go_wp2_with fail
 refine (cut_own x3.heap.size E ga x4 v (allQ S1) HB4.out.size (HEC.out.below_ HB4.out HEC.out.size) (by have := HEL.out.2.2; rw [HLEN.out]; omega) HHOW.out).mono ?_
 rintro e x5 ⟨v2, rfl, how2, hb5⟩
 have HB5 := Lib.hid (HB4.out.trans hb5)
 have HHOW2 := Lib.hid how2
 clear how2 hb5 HB4 HHOW
 go_wp2_with fail
 refine (qsort_own (B := x3.heap.size) (L0 := keepQ E (allQ S1)) x5 HB5.out.size rfl (by have := HEL.out.2.2; have h2 : (keepQ E (allQ S1)).length ≤ (allQ S1).length := List.length_filter_le _ _; rw [HLEN.out] at h2; omega) HHOW2.out).mono ?_
 rintro e w1 ⟨rfl, how3, hb6⟩
 obtain ⟨D, hD⟩ : ∃ D, (cutQ S1).map (·.i) = D := ⟨_, rfl⟩
 have hcq : cutSort (keepQ E (allQ S1)) = cutQ S1 := by unfold cutQ; rw [HE1.out]
 have hDl : D.length = (keepQ E (allQ S1)).length := by rw [← hD, List.length_map, ← hcq]; exact (cutSort_perm _).2.2
 have hfl : flatU (cutQ S1) = flatQ S1.q.V S1.q.R D := by rw [flatU_Q, ← hD, cutQ_back]
 rw [hcq, hfl, ← hDl] at how3
 obtain ⟨A, c9, rfl, hrow⟩ := qrow_of how3
 have d1 : D.Nodup := by rw [← hD]; exact cutQ_nd HEL.out.1
 have d2 : ∀ i, i ∈ D → i < S1.n ∧ S1.q.T i = true ∧ S1.q.V i = S1.q.H i := fun i hi => by
   rw [← hD] at hi
   obtain ⟨x, hx, rfl⟩ := List.mem_map.1 hi
   exact HEL.out.2.1 _ (cutQ_mem hx).1
 have d3 : D.length ≤ 1024 := by
   have h2 : (keepQ E (allQ S1)).length ≤ (allQ S1).length := List.length_filter_le _ _
   have := HEL.out.2.2
   rw [HLEN.out] at h2
   omega
 have hsd : sampleS S d = settleAll S1 3 D := by rw [HSS.out, hD]
 obtain ⟨m, hm⟩ : ∃ m, D.length = m := ⟨_, rfl⟩
 rw [hm]
 have hm1 : m ≤ 1024 := by omega
 have hm0 : (0 : Int) ≤ (m : Int) := by omega
 have HSD := Lib.hid hsd
 have HROW := Lib.hid hrow
 have HM := Lib.hid hm
 have HD := Lib.hid (And.intro d1 (And.intro d2 d3))
 have hT1 := HT.out.below (HB5.out.trans hb6)
 have hw0 : ∀ k, O k → k < x3.heap.size := fun k hk => by have := HOL.out k hk; have := HT.out.kp.size; omega
 have HT1 := Lib.hid hT1
 have HL1 := Lib.hid hT1.co
 have HOS := Lib.hid hw0
 clear d1 d2 hrow how3 hm hb6 hw0 hT1 hsd hfl hcq hDl hD HHOW2 HB5 HEL HLEN HT HEC
 go_wp2_with fail
 go_loopw [39] (fun sl wr => ∃ k : Nat, k ≤ m ∧ sl = .int .i64 (k : Int) ∧ CStep w1 p O (settleAll S1 3 (D.take k)) wr) (fun i _ => m - (intOf i).toNat)
 case atStart => exact ⟨0, Nat.zero_le _, rfl, CStep.refl_ HL1.out (Below.refl _ _)⟩
 case round =>
   obtain ⟨k, hk, rfl, hst⟩ := hrel
   have hm2 := HM.out
   by_cases hkm : k < m
   · have hks : k < D.length := by omega
     obtain ⟨O2, hL, hO1, hK1'⟩ := hst
     have hlk := settleAll_like 3 (D.take k) S1
     obtain ⟨d1, d2, d3⟩ := HD.out
     have hdi := d2 D[k] (List.getElem_mem hks)
     have hT := settleAll_T 3 D[k] (D.take k) S1 (nodup_at d1 hks) hdi.2.1
     obtain ⟨gd, rfl, hgb, hgs, hcell⟩ := HROW.out (by omega)
     obtain ⟨x, hx⟩ : ∃ x, S1.q.V D[k] = x := ⟨_, rfl⟩
     have hg : (settleAll S1 3 (D.take k)).q.H D[k] = x := by rw [hlk.H, ← hdi.2.2, hx]
     have hgo : ¬ O gd := fun hc => by have := HOS.out gd hc; omega
     obtain ⟨⟨ra, rb, rc, rd, re⟩, hr⟩ : ∃ r, S1.q.R D[k] = r := ⟨_, rfl⟩
     have hx0 : wr.cell? ⟨gd, k * 6, none⟩ = some (.int .u64 x) := (hK1'.cell_ hgs hgo).trans (by have := hcell k hks 0 (by omega); rw [hx, hr] at this; exact this)
     have hx1 : wr.cell? ⟨gd, k * 6 + 1, none⟩ = some (.int .u64 ra) := (hK1'.cell_ hgs hgo).trans (by have := hcell k hks 1 (by omega); rw [hx, hr] at this; exact this)
     have hx2 : wr.cell? ⟨gd, k * 6 + 2, none⟩ = some (.int .i64 rb) := (hK1'.cell_ hgs hgo).trans (by have := hcell k hks 2 (by omega); rw [hx, hr] at this; exact this)
     have hx3 : wr.cell? ⟨gd, k * 6 + 3, none⟩ = some (.int .i64 rc) := (hK1'.cell_ hgs hgo).trans (by have := hcell k hks 3 (by omega); rw [hx, hr] at this; exact this)
     have hx4 : wr.cell? ⟨gd, k * 6 + 4, none⟩ = some (.int .i64 rd) := (hK1'.cell_ hgs hgo).trans (by have := hcell k hks 4 (by omega); rw [hx, hr] at this; exact this)
     have hx5 : wr.cell? ⟨gd, k * 6 + 5, none⟩ = some (.int .i64 re) := (hK1'.cell_ hgs hgo).trans (by have := hcell k hks 5 (by omega); rw [hx, hr] at this; exact this)
     have hnx := settleAll_next S1 3 D k hks
     have j1 : (k : Int) < (m : Int) := by omega
     have j2 : (0 : Int) ≤ (k : Int) := by omega
     have HHL := Lib.hid hL
     have HO1 := Lib.hid hO1
     have HK1 := Lib.hid hK1'
     have HLK := Lib.hid hlk
     have HDI := Lib.hid hdi
     have HT := Lib.hid hT
     have HG := Lib.hid hg
     have HNX := Lib.hid hnx
     clear hL hO1 hK1' hlk d1 d2 d3 hdi hT hg hcell hgb hgs hgo hnx hr hx
     go_wp2_with fail
     have hal : Below wr.heap.size wr (wr.alloc (.cells #[.int .u64 x, .int .u64 ra, .int .i64 rb, .int .i64 rc, .int .i64 rd, .int .i64 re] quT)) := (Below.refl _ _).alloc (Nat.le_refl _) _
     refine (co_settle (why := 3) (HHL.out.below hal) (by rw [HLK.out.n]; exact HDI.out.1) HT.out HG.out (by rw [HLK.out.K]; exact hK1) (by omega) (by omega)).mono ?_
     obtain ⟨ov, hov⟩ : ∃ ov, (ocOf (settleAll S1 3 (D.take k)) D[k] 3).v = ov := ⟨_, rfl⟩
     rw [hov, ← HNX.out]
     rintro e w2 ⟨rfl, hs2⟩
     have hs3 := CStep.then_ HO1.out HK1.out (CStep.after hal hs2)
     have HS3 := Lib.hid hs3
     clear hs2 hs3 hov hal
     go_wp2_with fail
     exact ⟨⟨k + 1, by omega, by go_num, HS3.out⟩, by simp [intOf]; omega⟩
   · obtain rfl : k = m := by omega
     rw [show D.take k = D by rw [← hm2]; exact List.take_length] at hst
     have HSTE := Lib.hid hst
     clear hst hm2
     have j1 : ¬ (k : Int) < (k : Int) := by omega
     obtain ⟨O2, hT2⟩ := HT1.out.step HSTE.out
     have y0 : wr.cell? ⟨g, 0, none⟩ = some (.int .u8 0) := hT2.bb.val rfl
     have y1 : wr.cell? ⟨g, 1, none⟩ = some (.int .u64 0) := hT2.bb.val rfl
     have y2 : wr.cell? ⟨g, 2, none⟩ = some (.int .i64 0) := hT2.bb.val rfl
     have y3 : wr.cell? ⟨g, 3, none⟩ = some (.int .i64 0) := hT2.bb.val rfl
     have y4 : wr.cell? ⟨g, 4, none⟩ = some (.int .i64 0) := hT2.bb.val rfl
     have yf := hT2.bb.free
     have HT := Lib.hid hT2
     clear hT2 HSTE HT1
     go_wp2_with fail
     have hf := HT.out.fin (y0 := .int .u8 10) (y1 := .int .u64 0) (y2 := .int .i64 0) (y3 := .int .i64 0) (y4 := .int .i64 0) resT_not
     obtain ⟨WZ, hWZ⟩ : ∃ W, put5 wr g (.int .u8 10) (.int .u64 0) (.int .i64 0) (.int .i64 0) (.int .i64 0) = W := ⟨_, rfl⟩
     rw [hWZ] at hf
     unfold put5 at hWZ
     rw [hWZ]
     clear hWZ y0 y1 y2 y3 y4 yf
     have d0 : WZ.cell? ⟨g, 0, none⟩ = some (.int .u8 10) := hf.2.val rfl
     have d1 : WZ.cell? ⟨g, 1, none⟩ = some (.int .u64 0) := hf.2.val rfl
     have d2 : WZ.cell? ⟨g, 2, none⟩ = some (.int .i64 0) := hf.2.val rfl
     have d3 : WZ.cell? ⟨g, 3, none⟩ = some (.int .i64 0) := hf.2.val rfl
     have d4 : WZ.cell? ⟨g, 4, none⟩ = some (.int .i64 0) := hf.2.val rfl
     exact bodyPost_ret (v := .agg #[.int .u8 10, .int .u64 0, .int .i64 0, .int .i64 0, .int .i64 0]) (by simp [results, Tryz.results85, go_sem, d0, d1, d2, d3, d4]) rfl ⟨rfl, by rw [HSD.out]; exact hf.1⟩
end
end Go.Proofs.YtcffeokbipjaoaaGreat
