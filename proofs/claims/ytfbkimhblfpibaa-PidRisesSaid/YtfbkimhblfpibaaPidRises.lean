/- PidRises is true of every state, all params and all samples, and changes nothing that it was given. -/
import Derived.Test.YtfbkimhblfpibaaPidd
import Derived.Test.YtfbkimhblfpibaaHelpc
import Derived.Test.YtfbkimhblfpibaaAny
import Derived.Test.YtfbkimhblfpibaaRowb
import Derived.Test.YtfbkimhblfpibaaRows
import Derived.WalkKit
import Derived.ProofKit
import Derived.OpenShut
import Derived.Deep.DeepCutAuto
import Derived.Deep.CutBlock
import Derived.BigQuiet
import Derived.Deep.QuietTactic
import Derived.Deep.RegionHeld3
namespace Go.Proofs.Ytfbkimhblfpibaa.pidRises
open Go.ChangeShapes Go.WideShapes Go.ChangeAt Go.RowKit Kn
set_option linter.unusedVariables false
theorem own : ownKnob Try.prog.godebug = none := by kernel_rfl
theorem laidOut : laidOutB Try.prog = true := by kernel_rfl
theorem reads : (Try.f6.params.toList.all fun t => Try.prog.readableRec t && decide (t < Try.prog.types.size)) = true := by kernel_rfl
set_option linter.unusedSimpArgs false
theorem pmend_lit (sp kp ki kd li st mo kp2 ki2 kd2 li2 st2 mo2 : Int) (h : Hid (mx kp 0 = kp2 ∧ mx ki 0 = ki2 ∧ mx kd 0 = kd2 ∧ mx li 0 = li2 ∧ mx st 1 = st2 ∧ mx mo 0 = mo2)) (w : World) :
    Calls Try.prog 16 #[.agg #[.int .i64 sp, .int .i64 kp, .int .i64 ki, .int .i64 kd, .int .i64 li, .int .i64 st, .int .i64 mo]] w fun e w' => e = .returned (.agg #[.int .i64 sp, .int .i64 kp2, .int .i64 ki2, .int .i64 kd2, .int .i64 li2, .int .i64 st2, .int .i64 mo2]) ∧ Below w.heap.size w w' := by
  obtain ⟨rfl, rfl, rfl, rfl, rfl, rfl⟩ := h.out
  exact pmend_any sp kp ki kd li st mo w
theorem mx_lo (a b : Int) : b ≤ mx a b ∧ (a ≤ 9223372036854775807 → b ≤ 9223372036854775807 → mx a b ≤ 9223372036854775807) := by unfold mx; omega
theorem prod_zero (a : Int) : prodN 0 a = 0 := by rw [prod_floor, Int.zero_mul]; rfl
theorem clamp_mono (x y l h : Int) (hxy : x ≤ y) (hlh : l ≤ h) : clampN x l h ≤ clampN y l h := by
  unfold clampN; split <;> split <;> (try split) <;> (try split) <;> omega
theorem clamp_two (x l h : Int) (hlh : l ≤ h) : l ≤ clampN x l h ∧ clampN x l h ≤ h ∧ (l ≤ x → x ≤ h → clampN x l h = x) ∧ (x ≤ l → clampN x l h = l) ∧ (h ≤ x → clampN x l h = h) := by
  unfold clampN; split <;> (try split) <;> omega
/-- What a sample may do. -/
theorem sampled (s : Pst) (p : Ppr) (u : Int) (hs : s.ok) (hp : p.ok) (k0 : 0 ≤ p.li) (s1 : 1 ≤ p.st) (m0 : 0 ≤ p.mo) :
    0 ≤ (sampP s p u).le ∧ (sampP s p u).le ≤ p.mo ∧ 0 ≤ (sampP s p u).su ∧ (p.sp < u → (sampP s p u).su ≤ p.li) ∧
    (0 ≤ s.le → s.le ≤ p.mo → (sampP s p u).le ≤ sat (s.le + p.st) ∧ s.le - 1 ≤ (sampP s p u).le ∧ (p.sp < u → s.le ≤ (sampP s p u).le)) ∧
    (¬ p.sp < u → (sampP s p u).le = clampN (sat (s.le - 1)) 0 p.mo ∧ (sampP s p u).su = mx (s.su / 2) 0) := by
  obtain ⟨u0, u1, -, -, e0, e1⟩ := hs
  by_cases h : p.sp < u
  · rw [sampP, if_pos h]
    have c1 := clamp_two (levP s p (sat (u - p.sp))) 0 p.mo m0
    have c2 := clamp_two (sat (s.su + sat (prodN p.ki (sat (u - p.sp))))) 0 p.li k0
    refine ⟨c1.1, c1.2.1, c2.1, fun _ => c2.2.1, fun q0 q1 => ?_, fun c => absurd h c⟩
    have hst : s.le ≤ sat (s.le + p.st) := by
      have := hp.st1
      unfold sat; split <;> (try split) <;> omega
    have hl : s.le ≤ levP s p (sat (u - p.sp)) ∧ levP s p (sat (u - p.sp)) ≤ sat (s.le + p.st) := by
      unfold levP mn mx; omega
    have hc := clamp_mono _ _ 0 p.mo hl.1 m0
    rw [(clamp_two s.le 0 p.mo m0).2.2.1 q0 q1] at hc
    show (clampN _ 0 p.mo) ≤ _ ∧ s.le - 1 ≤ (clampN _ 0 p.mo) ∧ _
    refine ⟨?_, by omega, fun _ => hc⟩
    have : clampN (levP s p (sat (u - p.sp))) 0 p.mo ≤ levP s p (sat (u - p.sp)) ∨ levP s p (sat (u - p.sp)) < 0 := by
      unfold clampN; split <;> (try split) <;> omega
    rcases this with h | h <;> omega
  · rw [sampP, if_neg h]
    have hd : sat (s.le - 1) = s.le - 1 ∨ s.le - 1 < -9223372036854775808 ∧ sat (s.le - 1) = -9223372036854775808 := by
      unfold sat; split <;> (try split) <;> omega
    have c1 := clamp_two (sat (s.le - 1)) 0 p.mo m0
    have e : sat (prodN s.su 2147483648) = s.su / 2 := by rw [prod_floor, sat_id _ (by omega) (by omega)]; omega
    refine ⟨c1.1, c1.2.1, by show (0 : Int) ≤ mx _ 0; unfold mx; omega, fun c => absurd c h, fun q0 q1 => ⟨?_, ?_, fun c => absurd c h⟩, fun _ => ⟨rfl, by show mx _ 0 = _; rw [e]⟩⟩
    · show clampN _ 0 p.mo ≤ _
      have : sat (s.le + p.st) ≥ s.le := by have := hp.st1; unfold sat; split <;> (try split) <;> omega
      unfold clampN; split <;> (try split) <;> omega
    · show s.le - 1 ≤ clampN _ 0 p.mo
      unfold clampN; split <;> (try split) <;> omega
theorem rise_mono (s : Pst) (p : Ppr) (d e : Int) (h : d ≤ e) (k0 : 0 ≤ p.kp) (i0 : 0 ≤ p.ki) (d0 : 0 ≤ p.kd) (l0 : 0 ≤ p.li) (m0 : 0 ≤ p.mo) : (riseP s p d).le ≤ (riseP s p e).le := by
  have s1 : sumP s p d ≤ sumP s p e := clamp_mono _ _ _ _ (sat_mono _ _ (by have := sat_mono _ _ (prod_mono p.ki d e i0 h); omega)) l0
  have s2 := sat_mono _ _ (prod_mono p.kp d e k0 h)
  have s3 := sat_mono _ _ (prod_mono p.kd (sat (d - s.la)) (sat (e - s.la)) d0 (sat_mono _ _ (by omega)))
  have s4 : sat (sat (prodN p.kp d) + sumP s p d) ≤ sat (sat (prodN p.kp e) + sumP s p e) := sat_mono _ _ (by omega)
  have s5 : outP s p d ≤ outP s p e := sat_mono _ _ (by omega)
  have s6 : outP s p d / 4294967296 ≤ outP s p e / 4294967296 := Int.ediv_le_ediv (by omega) s5
  have s7 : levP s p d ≤ levP s p e := by unfold levP mn mx; omega
  exact clamp_mono _ _ _ _ s7 m0
theorem samp_mono (s : Pst) (p : Ppr) (u v : Int) (h : u ≤ v) (hs : s.ok) (hp : p.ok) (k0 : 0 ≤ p.kp) (i0 : 0 ≤ p.ki) (d0 : 0 ≤ p.kd) (s1 : 1 ≤ p.st) (l0 : 0 ≤ p.li) (m0 : 0 ≤ p.mo) : (sampP s p u).le ≤ (sampP s p v).le := by
  unfold sampP
  by_cases h1 : p.sp < u
  · rw [if_pos h1, if_pos (show p.sp < v by omega)]
    exact rise_mono s p _ _ (sat_mono _ _ (by omega)) k0 i0 d0 l0 m0
  · rw [if_neg h1]
    by_cases h2 : p.sp < v
    · rw [if_pos h2]
      refine clamp_mono _ _ _ _ ?_ m0
      have e1 := hs.e0
      have e2 := hs.e1
      have := hp.st1
      have hst : s.le ≤ sat (s.le + p.st) := by unfold sat; split <;> (try split) <;> omega
      have hd : sat (s.le - 1) ≤ s.le := by unfold sat; split <;> (try split) <;> omega
      unfold levP mn mx; omega
    · rw [if_neg h2]
      exact Int.le_refl _
set_option maxRecDepth 100000 in
set_option maxHeartbeats 4000000 in
theorem walk (su la le sp kp ki kd li st mo u v : Int) (w : World) (su0 : -9223372036854775808 ≤ su) (su1 : su ≤ 9223372036854775807) (la0 : -9223372036854775808 ≤ la) (la1 : la ≤ 9223372036854775807) (le0 : -9223372036854775808 ≤ le) (le1 : le ≤ 9223372036854775807) (sp0 : -9223372036854775808 ≤ sp) (sp1 : sp ≤ 9223372036854775807) (kp0 : -9223372036854775808 ≤ kp) (kp1 : kp ≤ 9223372036854775807) (ki0 : -9223372036854775808 ≤ ki) (ki1 : ki ≤ 9223372036854775807) (kd0 : -9223372036854775808 ≤ kd) (kd1 : kd ≤ 9223372036854775807) (li0 : -9223372036854775808 ≤ li) (li1 : li ≤ 9223372036854775807) (st0 : -9223372036854775808 ≤ st) (st1 : st ≤ 9223372036854775807) (mo0 : -9223372036854775808 ≤ mo) (mo1 : mo ≤ 9223372036854775807) (u0 : -9223372036854775808 ≤ u) (u1 : u ≤ 9223372036854775807) (v0 : -9223372036854775808 ≤ v) (v1 : v ≤ 9223372036854775807) :
    Calls Try.prog 6 #[.agg #[.int .i64 su, .int .i64 la, .int .i64 le], .agg #[.int .i64 sp, .int .i64 kp, .int .i64 ki, .int .i64 kd, .int .i64 li, .int .i64 st, .int .i64 mo], .int .i64 u, .int .i64 v] w fun e w' => e = .returned (.bool true) ∧ Below w.heap.size w w' := by
  obtain ⟨kp2, ekp⟩ : ∃ n, mx kp 0 = n := ⟨_, rfl⟩
  have kp2l := mx_lo kp 0
  rw [ekp] at kp2l
  have kp20 : 0 ≤ kp2 := kp2l.1
  have kp21 : kp2 ≤ 9223372036854775807 := kp2l.2 kp1 (by omega)
  clear kp2l
  obtain ⟨ki2, eki⟩ : ∃ n, mx ki 0 = n := ⟨_, rfl⟩
  have ki2l := mx_lo ki 0
  rw [eki] at ki2l
  have ki20 : 0 ≤ ki2 := ki2l.1
  have ki21 : ki2 ≤ 9223372036854775807 := ki2l.2 ki1 (by omega)
  clear ki2l
  obtain ⟨kd2, ekd⟩ : ∃ n, mx kd 0 = n := ⟨_, rfl⟩
  have kd2l := mx_lo kd 0
  rw [ekd] at kd2l
  have kd20 : 0 ≤ kd2 := kd2l.1
  have kd21 : kd2 ≤ 9223372036854775807 := kd2l.2 kd1 (by omega)
  clear kd2l
  obtain ⟨li2, eli⟩ : ∃ n, mx li 0 = n := ⟨_, rfl⟩
  have li2l := mx_lo li 0
  rw [eli] at li2l
  have li20 : 0 ≤ li2 := li2l.1
  have li21 : li2 ≤ 9223372036854775807 := li2l.2 li1 (by omega)
  clear li2l
  obtain ⟨st2, est⟩ : ∃ n, mx st 1 = n := ⟨_, rfl⟩
  have st2l := mx_lo st 1
  rw [est] at st2l
  have st20 : 1 ≤ st2 := st2l.1
  have st21 : st2 ≤ 9223372036854775807 := st2l.2 st1 (by omega)
  clear st2l
  obtain ⟨mo2, emo⟩ : ∃ n, mx mo 0 = n := ⟨_, rfl⟩
  have mo2l := mx_lo mo 0
  rw [emo] at mo2l
  have mo20 : 0 ≤ mo2 := mo2l.1
  have mo21 : mo2 ≤ 9223372036854775807 := mo2l.2 mo1 (by omega)
  clear mo2l
  have HM : Hid (mx kp 0 = kp2 ∧ mx ki 0 = ki2 ∧ mx kd 0 = kd2 ∧ mx li 0 = li2 ∧ mx st 1 = st2 ∧ mx mo 0 = mo2) := Lib.hid ⟨ekp, eki, ekd, eli, est, emo⟩
  clear ekp eki ekd eli est emo
  have PO : Hid (⟨sp, kp2, ki2, kd2, li2, st2, mo2⟩ : Ppr).ok := Lib.hid ⟨sp0, sp1, by show _ ≤ kp2; omega, kp21, by show _ ≤ ki2; omega, ki21, by show _ ≤ kd2; omega, kd21, by show _ ≤ li2; omega, li21, by show _ ≤ st2; omega, st21, by show _ ≤ mo2; omega, mo21⟩
  go_enter Try.func6, Try.ntmps6
  go_upto_region 1 with fail
  refine wp_worldx (fun wx => Bxs w wx [(w.heap.size, 24, [.int .i64 su, .int .i64 la, .int .i64 le]), (w.heap.size + 1, 26, [.int .i64 sp, .int .i64 kp, .int .i64 ki, .int .i64 kd, .int .i64 li, .int .i64 st, .int .i64 mo])]) (((Bxs.nil_ w).alloc_ _ _ (by simp)).alloc_ _ _ (by simp)) ?_
  rintro x1 bx
  have BX := Lib.hid bx
  clear bx
  have p0_0 : x1.cell? ⟨w.heap.size, 0, none⟩ = some (.int .i64 su) := (BX.out.bl 0 _ _ _ rfl).val rfl
  have p0_1 : x1.cell? ⟨w.heap.size, 1, none⟩ = some (.int .i64 la) := (BX.out.bl 0 _ _ _ rfl).val rfl
  have p0_2 : x1.cell? ⟨w.heap.size, 2, none⟩ = some (.int .i64 le) := (BX.out.bl 0 _ _ _ rfl).val rfl
  have z0 : ∀ k, x1.frozen? ⟨w.heap.size, k, none⟩ = false := (BX.out.bl 0 _ _ _ rfl).free
  have y0 : w.heap.size < x1.heap.size := (BX.out.bl 0 _ _ _ rfl).size
  have p1_0 : x1.cell? ⟨w.heap.size + 1, 0, none⟩ = some (.int .i64 sp) := (BX.out.bl 1 _ _ _ rfl).val rfl
  have p1_1 : x1.cell? ⟨w.heap.size + 1, 1, none⟩ = some (.int .i64 kp) := (BX.out.bl 1 _ _ _ rfl).val rfl
  have p1_2 : x1.cell? ⟨w.heap.size + 1, 2, none⟩ = some (.int .i64 ki) := (BX.out.bl 1 _ _ _ rfl).val rfl
  have p1_3 : x1.cell? ⟨w.heap.size + 1, 3, none⟩ = some (.int .i64 kd) := (BX.out.bl 1 _ _ _ rfl).val rfl
  have p1_4 : x1.cell? ⟨w.heap.size + 1, 4, none⟩ = some (.int .i64 li) := (BX.out.bl 1 _ _ _ rfl).val rfl
  have p1_5 : x1.cell? ⟨w.heap.size + 1, 5, none⟩ = some (.int .i64 st) := (BX.out.bl 1 _ _ _ rfl).val rfl
  have p1_6 : x1.cell? ⟨w.heap.size + 1, 6, none⟩ = some (.int .i64 mo) := (BX.out.bl 1 _ _ _ rfl).val rfl
  have z1 : ∀ k, x1.frozen? ⟨w.heap.size + 1, k, none⟩ = false := (BX.out.bl 1 _ _ _ rfl).free
  have y1 : w.heap.size + 1 < x1.heap.size := (BX.out.bl 1 _ _ _ rfl).size
  go_wp2_with fail
  refine (awake11 _).mono ?_
  rintro e x2 ⟨rfl, hb⟩
  have bx : Bxs w x2 [(w.heap.size, 24, [.int .i64 su, .int .i64 la, .int .i64 le]), (w.heap.size + 1, 26, [.int .i64 sp, .int .i64 kp, .int .i64 ki, .int .i64 kd, .int .i64 li, .int .i64 st, .int .i64 mo])] := (BX.out).below hb
  clear p0_0 p0_1 p0_2 z0 y0 p1_0 p1_1 p1_2 p1_3 p1_4 p1_5 p1_6 z1 y1
  clear hb BX
  have BX := Lib.hid bx
  clear bx
  have p0_0 : x2.cell? ⟨w.heap.size, 0, none⟩ = some (.int .i64 su) := (BX.out.bl 0 _ _ _ rfl).val rfl
  have p0_1 : x2.cell? ⟨w.heap.size, 1, none⟩ = some (.int .i64 la) := (BX.out.bl 0 _ _ _ rfl).val rfl
  have p0_2 : x2.cell? ⟨w.heap.size, 2, none⟩ = some (.int .i64 le) := (BX.out.bl 0 _ _ _ rfl).val rfl
  have z0 : ∀ k, x2.frozen? ⟨w.heap.size, k, none⟩ = false := (BX.out.bl 0 _ _ _ rfl).free
  have y0 : w.heap.size < x2.heap.size := (BX.out.bl 0 _ _ _ rfl).size
  have p1_0 : x2.cell? ⟨w.heap.size + 1, 0, none⟩ = some (.int .i64 sp) := (BX.out.bl 1 _ _ _ rfl).val rfl
  have p1_1 : x2.cell? ⟨w.heap.size + 1, 1, none⟩ = some (.int .i64 kp) := (BX.out.bl 1 _ _ _ rfl).val rfl
  have p1_2 : x2.cell? ⟨w.heap.size + 1, 2, none⟩ = some (.int .i64 ki) := (BX.out.bl 1 _ _ _ rfl).val rfl
  have p1_3 : x2.cell? ⟨w.heap.size + 1, 3, none⟩ = some (.int .i64 kd) := (BX.out.bl 1 _ _ _ rfl).val rfl
  have p1_4 : x2.cell? ⟨w.heap.size + 1, 4, none⟩ = some (.int .i64 li) := (BX.out.bl 1 _ _ _ rfl).val rfl
  have p1_5 : x2.cell? ⟨w.heap.size + 1, 5, none⟩ = some (.int .i64 st) := (BX.out.bl 1 _ _ _ rfl).val rfl
  have p1_6 : x2.cell? ⟨w.heap.size + 1, 6, none⟩ = some (.int .i64 mo) := (BX.out.bl 1 _ _ _ rfl).val rfl
  have z1 : ∀ k, x2.frozen? ⟨w.heap.size + 1, k, none⟩ = false := (BX.out.bl 1 _ _ _ rfl).free
  have y1 : w.heap.size + 1 < x2.heap.size := (BX.out.bl 1 _ _ _ rfl).size
  go_wp2_with fail
  refine (pmend_lit _ _ _ _ _ _ _ _ _ _ _ _ _ HM _).mono ?_
  rintro e x3 ⟨rfl, hb⟩
  have bx : Bxs w x3 [(w.heap.size, 24, [.int .i64 su, .int .i64 la, .int .i64 le]), (w.heap.size + 1, 26, [.int .i64 sp, .int .i64 kp, .int .i64 ki, .int .i64 kd, .int .i64 li, .int .i64 st, .int .i64 mo])] := (BX.out).below hb
  clear p0_0 p0_1 p0_2 z0 y0 p1_0 p1_1 p1_2 p1_3 p1_4 p1_5 p1_6 z1 y1
  clear hb BX
  have BX := Lib.hid bx
  clear bx
  have p0_0 : x3.cell? ⟨w.heap.size, 0, none⟩ = some (.int .i64 su) := (BX.out.bl 0 _ _ _ rfl).val rfl
  have p0_1 : x3.cell? ⟨w.heap.size, 1, none⟩ = some (.int .i64 la) := (BX.out.bl 0 _ _ _ rfl).val rfl
  have p0_2 : x3.cell? ⟨w.heap.size, 2, none⟩ = some (.int .i64 le) := (BX.out.bl 0 _ _ _ rfl).val rfl
  have z0 : ∀ k, x3.frozen? ⟨w.heap.size, k, none⟩ = false := (BX.out.bl 0 _ _ _ rfl).free
  have y0 : w.heap.size < x3.heap.size := (BX.out.bl 0 _ _ _ rfl).size
  have p1_0 : x3.cell? ⟨w.heap.size + 1, 0, none⟩ = some (.int .i64 sp) := (BX.out.bl 1 _ _ _ rfl).val rfl
  have p1_1 : x3.cell? ⟨w.heap.size + 1, 1, none⟩ = some (.int .i64 kp) := (BX.out.bl 1 _ _ _ rfl).val rfl
  have p1_2 : x3.cell? ⟨w.heap.size + 1, 2, none⟩ = some (.int .i64 ki) := (BX.out.bl 1 _ _ _ rfl).val rfl
  have p1_3 : x3.cell? ⟨w.heap.size + 1, 3, none⟩ = some (.int .i64 kd) := (BX.out.bl 1 _ _ _ rfl).val rfl
  have p1_4 : x3.cell? ⟨w.heap.size + 1, 4, none⟩ = some (.int .i64 li) := (BX.out.bl 1 _ _ _ rfl).val rfl
  have p1_5 : x3.cell? ⟨w.heap.size + 1, 5, none⟩ = some (.int .i64 st) := (BX.out.bl 1 _ _ _ rfl).val rfl
  have p1_6 : x3.cell? ⟨w.heap.size + 1, 6, none⟩ = some (.int .i64 mo) := (BX.out.bl 1 _ _ _ rfl).val rfl
  have z1 : ∀ k, x3.frozen? ⟨w.heap.size + 1, k, none⟩ = false := (BX.out.bl 1 _ _ _ rfl).free
  have y1 : w.heap.size + 1 < x3.heap.size := (BX.out.bl 1 _ _ _ rfl).size
  go_upto_region 4 with fail
  clear p0_0 p0_1 p0_2 z0 y0 p1_0 p1_1 p1_2 p1_3 p1_4 p1_5 p1_6 z1 y1
  refine wp_worldx (fun wx => Bxs w wx [(w.heap.size, 24, [.int .i64 su, .int .i64 la, .int .i64 le]), (w.heap.size + 1, 26, [.int .i64 sp, .int .i64 kp2, .int .i64 ki2, .int .i64 kd2, .int .i64 li2, .int .i64 st2, .int .i64 mo2])]) ((((((((BX.out).set_ 1 0 rfl _).set_ 1 1 rfl _).set_ 1 2 rfl _).set_ 1 3 rfl _).set_ 1 4 rfl _).set_ 1 5 rfl _).set_ 1 6 rfl _) ?_
  clear BX
  rintro x4 bx
  have BX := Lib.hid bx
  clear bx
  have p0_0 : x4.cell? ⟨w.heap.size, 0, none⟩ = some (.int .i64 su) := (BX.out.bl 0 _ _ _ rfl).val rfl
  have p0_1 : x4.cell? ⟨w.heap.size, 1, none⟩ = some (.int .i64 la) := (BX.out.bl 0 _ _ _ rfl).val rfl
  have p0_2 : x4.cell? ⟨w.heap.size, 2, none⟩ = some (.int .i64 le) := (BX.out.bl 0 _ _ _ rfl).val rfl
  have z0 : ∀ k, x4.frozen? ⟨w.heap.size, k, none⟩ = false := (BX.out.bl 0 _ _ _ rfl).free
  have y0 : w.heap.size < x4.heap.size := (BX.out.bl 0 _ _ _ rfl).size
  have p1_0 : x4.cell? ⟨w.heap.size + 1, 0, none⟩ = some (.int .i64 sp) := (BX.out.bl 1 _ _ _ rfl).val rfl
  have p1_1 : x4.cell? ⟨w.heap.size + 1, 1, none⟩ = some (.int .i64 kp2) := (BX.out.bl 1 _ _ _ rfl).val rfl
  have p1_2 : x4.cell? ⟨w.heap.size + 1, 2, none⟩ = some (.int .i64 ki2) := (BX.out.bl 1 _ _ _ rfl).val rfl
  have p1_3 : x4.cell? ⟨w.heap.size + 1, 3, none⟩ = some (.int .i64 kd2) := (BX.out.bl 1 _ _ _ rfl).val rfl
  have p1_4 : x4.cell? ⟨w.heap.size + 1, 4, none⟩ = some (.int .i64 li2) := (BX.out.bl 1 _ _ _ rfl).val rfl
  have p1_5 : x4.cell? ⟨w.heap.size + 1, 5, none⟩ = some (.int .i64 st2) := (BX.out.bl 1 _ _ _ rfl).val rfl
  have p1_6 : x4.cell? ⟨w.heap.size + 1, 6, none⟩ = some (.int .i64 mo2) := (BX.out.bl 1 _ _ _ rfl).val rfl
  have z1 : ∀ k, x4.frozen? ⟨w.heap.size + 1, k, none⟩ = false := (BX.out.bl 1 _ _ _ rfl).free
  have y1 : w.heap.size + 1 < x4.heap.size := (BX.out.bl 1 _ _ _ rfl).size
  obtain ⟨su2, esu⟩ : ∃ n, mx su 0 = n := ⟨_, rfl⟩
  have su2l := mx_lo su 0
  rw [esu] at su2l
  have su20 : 0 ≤ su2 := su2l.1
  have su21 : su2 ≤ 9223372036854775807 := su2l.2 su1 (by omega)
  have HU := Lib.hid esu
  clear su2l esu
  go_upto_region 5 with fail
  clear p0_0 p0_1 p0_2 z0 y0 p1_0 p1_1 p1_2 p1_3 p1_4 p1_5 p1_6 z1 y1
  refine wp_worldx (fun wx => Bxs w wx [(w.heap.size, 24, [.int .i64 su2, .int .i64 la, .int .i64 le]), (w.heap.size + 1, 26, [.int .i64 sp, .int .i64 kp2, .int .i64 ki2, .int .i64 kd2, .int .i64 li2, .int .i64 st2, .int .i64 mo2])]) (by rw [← HU.out]; exact BX.out.set_ 0 0 rfl _) ?_
  clear BX HU
  rintro x5 bx
  have BX := Lib.hid bx
  clear bx
  have p0_0 : x5.cell? ⟨w.heap.size, 0, none⟩ = some (.int .i64 su2) := (BX.out.bl 0 _ _ _ rfl).val rfl
  have p0_1 : x5.cell? ⟨w.heap.size, 1, none⟩ = some (.int .i64 la) := (BX.out.bl 0 _ _ _ rfl).val rfl
  have p0_2 : x5.cell? ⟨w.heap.size, 2, none⟩ = some (.int .i64 le) := (BX.out.bl 0 _ _ _ rfl).val rfl
  have z0 : ∀ k, x5.frozen? ⟨w.heap.size, k, none⟩ = false := (BX.out.bl 0 _ _ _ rfl).free
  have y0 : w.heap.size < x5.heap.size := (BX.out.bl 0 _ _ _ rfl).size
  have p1_0 : x5.cell? ⟨w.heap.size + 1, 0, none⟩ = some (.int .i64 sp) := (BX.out.bl 1 _ _ _ rfl).val rfl
  have p1_1 : x5.cell? ⟨w.heap.size + 1, 1, none⟩ = some (.int .i64 kp2) := (BX.out.bl 1 _ _ _ rfl).val rfl
  have p1_2 : x5.cell? ⟨w.heap.size + 1, 2, none⟩ = some (.int .i64 ki2) := (BX.out.bl 1 _ _ _ rfl).val rfl
  have p1_3 : x5.cell? ⟨w.heap.size + 1, 3, none⟩ = some (.int .i64 kd2) := (BX.out.bl 1 _ _ _ rfl).val rfl
  have p1_4 : x5.cell? ⟨w.heap.size + 1, 4, none⟩ = some (.int .i64 li2) := (BX.out.bl 1 _ _ _ rfl).val rfl
  have p1_5 : x5.cell? ⟨w.heap.size + 1, 5, none⟩ = some (.int .i64 st2) := (BX.out.bl 1 _ _ _ rfl).val rfl
  have p1_6 : x5.cell? ⟨w.heap.size + 1, 6, none⟩ = some (.int .i64 mo2) := (BX.out.bl 1 _ _ _ rfl).val rfl
  have z1 : ∀ k, x5.frozen? ⟨w.heap.size + 1, k, none⟩ = false := (BX.out.bl 1 _ _ _ rfl).free
  have y1 : w.heap.size + 1 < x5.heap.size := (BX.out.bl 1 _ _ _ rfl).size
  have SK0 : Hid (⟨su2, la, le⟩ : Pst).ok := Lib.hid ⟨by show _ ≤ su2; omega, su21, la0, la1, le0, le1⟩
  by_cases hg : v < u
  · obtain ⟨⟨c1, c2, c3⟩, hz⟩ : ∃ z, sampP ⟨su2, la, le⟩ ⟨sp, kp2, ki2, kd2, li2, st2, mo2⟩ v = z := ⟨_, rfl⟩
    obtain ⟨⟨f1, f2, f3⟩, hy⟩ : ∃ z, sampP ⟨su2, la, le⟩ ⟨sp, kp2, ki2, kd2, li2, st2, mo2⟩ u = z := ⟨_, rfl⟩
    have hm := samp_mono ⟨su2, la, le⟩ ⟨sp, kp2, ki2, kd2, li2, st2, mo2⟩ v u (by omega) SK0.out PO.out kp20 ki20 kd20 st20 li20 mo20
    rw [hz, hy] at hm
    simp only at hm
    have HZ := Lib.hid hz
    have HY := Lib.hid hy
    clear hz hy
    go_upto_region 7 with fail
    refine wp_region_noPanic ?_
    refine begun (fun w' => Blk w' (w.heap.size) 24 [.int .i64 su2, .int .i64 la, .int .i64 le].toArray ∧ Blk w' (w.heap.size + 1) 26 [.int .i64 sp, .int .i64 kp2, .int .i64 ki2, .int .i64 kd2, .int .i64 li2, .int .i64 st2, .int .i64 mo2].toArray) [10, 11] (by kernel_rfl) (show _ from ⟨BX.out.bl 0 _ _ _ rfl, BX.out.bl 1 _ _ _ rfl⟩) (fun hShut hHeld => ?_)
    refine anyB_take 16 (i := 0) (v := ?_) rfl (by kernel_rfl) (by kernel_rfl) (by kernel_rfl) (by kernel_rfl) (by kernel_rfl) (fun _ _ _ h => h) hShut hHeld (Or.inl ⟨by rfl, ?_⟩) (fun hShut => ?_)
    rotate_left
    · (intro wS hSw; have r0_0 : wS.cell? ⟨w.heap.size, 0, none⟩ = some (.int .i64 su2) := (hSw.1).val rfl; have r0_1 : wS.cell? ⟨w.heap.size, 1, none⟩ = some (.int .i64 la) := (hSw.1).val rfl; have r0_2 : wS.cell? ⟨w.heap.size, 2, none⟩ = some (.int .i64 le) := (hSw.1).val rfl; have r1_0 : wS.cell? ⟨w.heap.size + 1, 0, none⟩ = some (.int .i64 sp) := (hSw.2).val rfl; have r1_1 : wS.cell? ⟨w.heap.size + 1, 1, none⟩ = some (.int .i64 kp2) := (hSw.2).val rfl; have r1_2 : wS.cell? ⟨w.heap.size + 1, 2, none⟩ = some (.int .i64 ki2) := (hSw.2).val rfl; have r1_3 : wS.cell? ⟨w.heap.size + 1, 3, none⟩ = some (.int .i64 kd2) := (hSw.2).val rfl; have r1_4 : wS.cell? ⟨w.heap.size + 1, 4, none⟩ = some (.int .i64 li2) := (hSw.2).val rfl; have r1_5 : wS.cell? ⟨w.heap.size + 1, 5, none⟩ = some (.int .i64 st2) := (hSw.2).val rfl; have r1_6 : wS.cell? ⟨w.heap.size + 1, 6, none⟩ = some (.int .i64 mo2) := (hSw.2).val rfl; (first | (go_simp; done) | (go_simp; with_reducible rfl)))
    try simp only [Act.put, List.getElem_toArray, List.getElem_cons_zero, List.getElem_cons_succ, List.setIfInBounds_toArray, List.set_cons_zero, List.set_cons_succ]
    refine anyB_take 16 (i := 1) (v := ?_) rfl (by kernel_rfl) (by kernel_rfl) (by kernel_rfl) (by kernel_rfl) (by kernel_rfl) (fun _ _ _ h => h) hShut hHeld (Or.inl ⟨by rfl, ?_⟩) (fun hShut => ?_)
    rotate_left
    · (intro wS hSw; have r0_0 : wS.cell? ⟨w.heap.size, 0, none⟩ = some (.int .i64 su2) := (hSw.1).val rfl; have r0_1 : wS.cell? ⟨w.heap.size, 1, none⟩ = some (.int .i64 la) := (hSw.1).val rfl; have r0_2 : wS.cell? ⟨w.heap.size, 2, none⟩ = some (.int .i64 le) := (hSw.1).val rfl; have r1_0 : wS.cell? ⟨w.heap.size + 1, 0, none⟩ = some (.int .i64 sp) := (hSw.2).val rfl; have r1_1 : wS.cell? ⟨w.heap.size + 1, 1, none⟩ = some (.int .i64 kp2) := (hSw.2).val rfl; have r1_2 : wS.cell? ⟨w.heap.size + 1, 2, none⟩ = some (.int .i64 ki2) := (hSw.2).val rfl; have r1_3 : wS.cell? ⟨w.heap.size + 1, 3, none⟩ = some (.int .i64 kd2) := (hSw.2).val rfl; have r1_4 : wS.cell? ⟨w.heap.size + 1, 4, none⟩ = some (.int .i64 li2) := (hSw.2).val rfl; have r1_5 : wS.cell? ⟨w.heap.size + 1, 5, none⟩ = some (.int .i64 st2) := (hSw.2).val rfl; have r1_6 : wS.cell? ⟨w.heap.size + 1, 6, none⟩ = some (.int .i64 mo2) := (hSw.2).val rfl; (first | (go_simp; done) | (go_simp; with_reducible rfl)))
    try simp only [Act.put, List.getElem_toArray, List.getElem_cons_zero, List.getElem_cons_succ, List.setIfInBounds_toArray, List.set_cons_zero, List.set_cons_succ]
    refine anyB_take 16 (i := 2) (v := ?_) rfl (by kernel_rfl) (by kernel_rfl) (by kernel_rfl) (by kernel_rfl) (by kernel_rfl) (fun _ _ _ h => h) hShut hHeld (Or.inl ⟨by rfl, ?_⟩) (fun hShut => ?_)
    rotate_left
    · (intro wS hSw; have r0_0 : wS.cell? ⟨w.heap.size, 0, none⟩ = some (.int .i64 su2) := (hSw.1).val rfl; have r0_1 : wS.cell? ⟨w.heap.size, 1, none⟩ = some (.int .i64 la) := (hSw.1).val rfl; have r0_2 : wS.cell? ⟨w.heap.size, 2, none⟩ = some (.int .i64 le) := (hSw.1).val rfl; have r1_0 : wS.cell? ⟨w.heap.size + 1, 0, none⟩ = some (.int .i64 sp) := (hSw.2).val rfl; have r1_1 : wS.cell? ⟨w.heap.size + 1, 1, none⟩ = some (.int .i64 kp2) := (hSw.2).val rfl; have r1_2 : wS.cell? ⟨w.heap.size + 1, 2, none⟩ = some (.int .i64 ki2) := (hSw.2).val rfl; have r1_3 : wS.cell? ⟨w.heap.size + 1, 3, none⟩ = some (.int .i64 kd2) := (hSw.2).val rfl; have r1_4 : wS.cell? ⟨w.heap.size + 1, 4, none⟩ = some (.int .i64 li2) := (hSw.2).val rfl; have r1_5 : wS.cell? ⟨w.heap.size + 1, 5, none⟩ = some (.int .i64 st2) := (hSw.2).val rfl; have r1_6 : wS.cell? ⟨w.heap.size + 1, 6, none⟩ = some (.int .i64 mo2) := (hSw.2).val rfl; (first | (go_simp; done) | (go_simp; with_reducible rfl)))
    try simp only [Act.put, List.getElem_toArray, List.getElem_cons_zero, List.getElem_cons_succ, List.setIfInBounds_toArray, List.set_cons_zero, List.set_cons_succ]
    refine anyB_take 16 (i := 4) (v := ?_) rfl (by kernel_rfl) (by kernel_rfl) (by kernel_rfl) (by kernel_rfl) (by kernel_rfl) (fun _ _ _ h => h) hShut hHeld (Or.inl ⟨by rfl, ?_⟩) (fun hShut => ?_)
    rotate_left
    · (intro wS hSw; have r0_0 : wS.cell? ⟨w.heap.size, 0, none⟩ = some (.int .i64 su2) := (hSw.1).val rfl; have r0_1 : wS.cell? ⟨w.heap.size, 1, none⟩ = some (.int .i64 la) := (hSw.1).val rfl; have r0_2 : wS.cell? ⟨w.heap.size, 2, none⟩ = some (.int .i64 le) := (hSw.1).val rfl; have r1_0 : wS.cell? ⟨w.heap.size + 1, 0, none⟩ = some (.int .i64 sp) := (hSw.2).val rfl; have r1_1 : wS.cell? ⟨w.heap.size + 1, 1, none⟩ = some (.int .i64 kp2) := (hSw.2).val rfl; have r1_2 : wS.cell? ⟨w.heap.size + 1, 2, none⟩ = some (.int .i64 ki2) := (hSw.2).val rfl; have r1_3 : wS.cell? ⟨w.heap.size + 1, 3, none⟩ = some (.int .i64 kd2) := (hSw.2).val rfl; have r1_4 : wS.cell? ⟨w.heap.size + 1, 4, none⟩ = some (.int .i64 li2) := (hSw.2).val rfl; have r1_5 : wS.cell? ⟨w.heap.size + 1, 5, none⟩ = some (.int .i64 st2) := (hSw.2).val rfl; have r1_6 : wS.cell? ⟨w.heap.size + 1, 6, none⟩ = some (.int .i64 mo2) := (hSw.2).val rfl; (first | (go_simp; done) | (go_simp; with_reducible rfl)))
    try simp only [Act.put, List.getElem_toArray, List.getElem_cons_zero, List.getElem_cons_succ, List.setIfInBounds_toArray, List.set_cons_zero, List.set_cons_succ]
    refine anyB_take 16 (i := 5) (v := ?_) rfl (by kernel_rfl) (by kernel_rfl) (by kernel_rfl) (by kernel_rfl) (by kernel_rfl) (fun _ _ _ h => h) hShut hHeld (Or.inl ⟨by rfl, ?_⟩) (fun hShut => ?_)
    rotate_left
    · (intro wS hSw; have r0_0 : wS.cell? ⟨w.heap.size, 0, none⟩ = some (.int .i64 su2) := (hSw.1).val rfl; have r0_1 : wS.cell? ⟨w.heap.size, 1, none⟩ = some (.int .i64 la) := (hSw.1).val rfl; have r0_2 : wS.cell? ⟨w.heap.size, 2, none⟩ = some (.int .i64 le) := (hSw.1).val rfl; have r1_0 : wS.cell? ⟨w.heap.size + 1, 0, none⟩ = some (.int .i64 sp) := (hSw.2).val rfl; have r1_1 : wS.cell? ⟨w.heap.size + 1, 1, none⟩ = some (.int .i64 kp2) := (hSw.2).val rfl; have r1_2 : wS.cell? ⟨w.heap.size + 1, 2, none⟩ = some (.int .i64 ki2) := (hSw.2).val rfl; have r1_3 : wS.cell? ⟨w.heap.size + 1, 3, none⟩ = some (.int .i64 kd2) := (hSw.2).val rfl; have r1_4 : wS.cell? ⟨w.heap.size + 1, 4, none⟩ = some (.int .i64 li2) := (hSw.2).val rfl; have r1_5 : wS.cell? ⟨w.heap.size + 1, 5, none⟩ = some (.int .i64 st2) := (hSw.2).val rfl; have r1_6 : wS.cell? ⟨w.heap.size + 1, 6, none⟩ = some (.int .i64 mo2) := (hSw.2).val rfl; (first | (go_simp; done) | (go_simp; with_reducible rfl)))
    try simp only [Act.put, List.getElem_toArray, List.getElem_cons_zero, List.getElem_cons_succ, List.setIfInBounds_toArray, List.set_cons_zero, List.set_cons_succ]
    refine anyB_take 16 (i := 6) (v := ?_) rfl (by kernel_rfl) (by kernel_rfl) (by kernel_rfl) (by kernel_rfl) (by kernel_rfl) (fun _ _ _ h => h) hShut hHeld (Or.inl ⟨by rfl, ?_⟩) (fun hShut => ?_)
    rotate_left
    · (intro wS hSw; have r0_0 : wS.cell? ⟨w.heap.size, 0, none⟩ = some (.int .i64 su2) := (hSw.1).val rfl; have r0_1 : wS.cell? ⟨w.heap.size, 1, none⟩ = some (.int .i64 la) := (hSw.1).val rfl; have r0_2 : wS.cell? ⟨w.heap.size, 2, none⟩ = some (.int .i64 le) := (hSw.1).val rfl; have r1_0 : wS.cell? ⟨w.heap.size + 1, 0, none⟩ = some (.int .i64 sp) := (hSw.2).val rfl; have r1_1 : wS.cell? ⟨w.heap.size + 1, 1, none⟩ = some (.int .i64 kp2) := (hSw.2).val rfl; have r1_2 : wS.cell? ⟨w.heap.size + 1, 2, none⟩ = some (.int .i64 ki2) := (hSw.2).val rfl; have r1_3 : wS.cell? ⟨w.heap.size + 1, 3, none⟩ = some (.int .i64 kd2) := (hSw.2).val rfl; have r1_4 : wS.cell? ⟨w.heap.size + 1, 4, none⟩ = some (.int .i64 li2) := (hSw.2).val rfl; have r1_5 : wS.cell? ⟨w.heap.size + 1, 5, none⟩ = some (.int .i64 st2) := (hSw.2).val rfl; have r1_6 : wS.cell? ⟨w.heap.size + 1, 6, none⟩ = some (.int .i64 mo2) := (hSw.2).val rfl; (first | (go_simp; done) | (go_simp; with_reducible rfl)))
    try simp only [Act.put, List.getElem_toArray, List.getElem_cons_zero, List.getElem_cons_succ, List.setIfInBounds_toArray, List.set_cons_zero, List.set_cons_succ]
    clear p0_0 p0_1 p0_2 z0 y0 p1_0 p1_1 p1_2 p1_3 p1_4 p1_5 p1_6 z1 y1
    refine anyB_world (fun wx => Bxs w wx [(w.heap.size, 24, [.int .i64 su2, .int .i64 la, .int .i64 le]), (w.heap.size + 1, 26, [.int .i64 sp, .int .i64 kp2, .int .i64 ki2, .int .i64 kd2, .int .i64 li2, .int .i64 st2, .int .i64 mo2])]) ((BX.out).drew_) ?_
    clear BX hHeld
    rintro x6 bx
    have BX := Lib.hid bx
    clear bx
    have y0 : w.heap.size < x6.heap.size := (BX.out.bl 0 _ _ _ rfl).size
    have y1 : w.heap.size + 1 < x6.heap.size := (BX.out.bl 1 _ _ _ rfl).size
    have hHeld := And.intro (BX.out.bl 0 _ _ _ rfl) (BX.out.bl 1 _ _ _ rfl)
    refine anyB_each (rs := [3, 8, 9]) hShut (by kernel_rfl) (by simp) ?_
    refine List.forall_mem_cons.2 ⟨fun hShut => wpOp_step rfl (fun K hK => ?_), ?_⟩
    · rw [if_pos (by rfl)]
      refine wp_enter (by go_simp; exact ⟨rfl, rfl⟩) ?_
      refine (psamp_lit su2 la le sp kp2 ki2 kd2 li2 st2 mo2 v c1 c2 c3 HZ _ SK0.out.u0 SK0.out.u1 la0 la1 le0 le1 sp0 sp1 PO.out.kp0 PO.out.kp1 PO.out.ki0 PO.out.ki1 PO.out.kd0 PO.out.kd1 PO.out.li0 PO.out.li1 PO.out.st0 PO.out.st1 PO.out.mo0 PO.out.mo1 v0 v1).mono ?_
      rintro e x7 ⟨rfl, hbn⟩
      have bx := BX.out.below hbn
      clear y0 y1
      clear BX hbn hHeld
      have BX := Lib.hid bx
      clear bx
      have y0 : w.heap.size < x7.heap.size := (BX.out.bl 0 _ _ _ rfl).size
      have y1 : w.heap.size + 1 < x7.heap.size := (BX.out.bl 1 _ _ _ rfl).size
      have hHeld := And.intro (BX.out.bl 0 _ _ _ rfl) (BX.out.bl 1 _ _ _ rfl)
      refine ⟨_, rfl, ?_⟩
      refine hK _ _ ⟨fun _ => hHeld, ?_⟩
      clear hK K
      try simp only [Act.put, List.getElem_toArray, List.getElem_cons_zero, List.getElem_cons_succ, List.setIfInBounds_toArray, List.set_cons_zero, List.set_cons_succ]
      refine anyB_each (rs := [7, 8, 9]) hShut (by kernel_rfl) (by simp) ?_
      refine List.forall_mem_cons.2 ⟨fun hShut => wpOp_step rfl (fun K hK => ?_), ?_⟩
      · rw [if_pos (by rfl)]
        refine wp_enter (by go_simp; exact ⟨rfl, rfl⟩) ?_
        refine (psamp_lit su2 la le sp kp2 ki2 kd2 li2 st2 mo2 u f1 f2 f3 HY _ SK0.out.u0 SK0.out.u1 la0 la1 le0 le1 sp0 sp1 PO.out.kp0 PO.out.kp1 PO.out.ki0 PO.out.ki1 PO.out.kd0 PO.out.kd1 PO.out.li0 PO.out.li1 PO.out.st0 PO.out.st1 PO.out.mo0 PO.out.mo1 u0 u1).mono ?_
        rintro e x8 ⟨rfl, hbn⟩
        have bx := BX.out.below hbn
        clear y0 y1
        clear BX hbn hHeld
        have BX := Lib.hid bx
        clear bx
        have y0 : w.heap.size < x8.heap.size := (BX.out.bl 0 _ _ _ rfl).size
        have y1 : w.heap.size + 1 < x8.heap.size := (BX.out.bl 1 _ _ _ rfl).size
        have hHeld := And.intro (BX.out.bl 0 _ _ _ rfl) (BX.out.bl 1 _ _ _ rfl)
        refine ⟨_, rfl, ?_⟩
        refine hK _ _ ⟨fun _ => hHeld, ?_⟩
        clear hK K
        try simp only [Act.put, List.getElem_toArray, List.getElem_cons_zero, List.getElem_cons_succ, List.setIfInBounds_toArray, List.set_cons_zero, List.set_cons_succ]
        refine anyB_each (rs := [8, 9]) hShut (by kernel_rfl) (by simp) ?_
        refine List.forall_mem_cons.2 ⟨fun hShut => wpOp_step rfl (fun K hK => ?_), ?_⟩
        · go_simp
          refine hK _ _ ⟨fun _ => ⟨(BX.out.bl 0 _ _ _ rfl).alloc_ _, (BX.out.bl 1 _ _ _ rfl).alloc_ _⟩, ?_⟩
          clear hK K
          try simp only [Act.put, List.getElem_toArray, List.getElem_cons_zero, List.getElem_cons_succ, List.setIfInBounds_toArray, List.set_cons_zero, List.set_cons_succ]
          have gs0_x8 : w.heap.size < x8.heap.size := y0
          have gs1_x8 : w.heap.size + 1 < x8.heap.size := y1
          clear y0 y1
          refine anyB_world (fun wx => Bxs w wx [(w.heap.size, 24, [.int .i64 su2, .int .i64 la, .int .i64 le]), (w.heap.size + 1, 26, [.int .i64 sp, .int .i64 kp2, .int .i64 ki2, .int .i64 kd2, .int .i64 li2, .int .i64 st2, .int .i64 mo2]), (x8.heap.size, 24, [.int .i64 0, .int .i64 0, .int .i64 0])]) ((BX.out).alloc_ _ _ (by simp)) ?_
          clear BX hHeld
          rintro x9 bx
          have BX := Lib.hid bx
          clear bx
          have y0 : w.heap.size < x9.heap.size := (BX.out.bl 0 _ _ _ rfl).size
          have y1 : w.heap.size + 1 < x9.heap.size := (BX.out.bl 1 _ _ _ rfl).size
          have y2 : x8.heap.size < x9.heap.size := (BX.out.bl 2 _ _ _ rfl).size
          have hHeld := And.intro (BX.out.bl 0 _ _ _ rfl) (BX.out.bl 1 _ _ _ rfl)
          refine anyB_each (rs := [9]) hShut (by kernel_rfl) (by simp) ?_
          refine List.forall_mem_cons.2 ⟨fun hShut => wpOp_step rfl (fun K hK => ?_), fun _ h => by cases h⟩
          · go_simp
            refine hK _ _ ⟨fun _ => ⟨(BX.out.bl 0 _ _ _ rfl).alloc_ _, (BX.out.bl 1 _ _ _ rfl).alloc_ _⟩, ?_⟩
            clear hK K
            try simp only [Act.put, List.getElem_toArray, List.getElem_cons_zero, List.getElem_cons_succ, List.setIfInBounds_toArray, List.set_cons_zero, List.set_cons_succ]
            have gs0_x9 : w.heap.size < x9.heap.size := y0
            have gs1_x9 : w.heap.size + 1 < x9.heap.size := y1
            have gs2_x9 : x8.heap.size < x9.heap.size := y2
            clear y0 y1 y2
            refine anyB_world (fun wx => Bxs w wx [(w.heap.size, 24, [.int .i64 su2, .int .i64 la, .int .i64 le]), (w.heap.size + 1, 26, [.int .i64 sp, .int .i64 kp2, .int .i64 ki2, .int .i64 kd2, .int .i64 li2, .int .i64 st2, .int .i64 mo2]), (x8.heap.size, 24, [.int .i64 0, .int .i64 0, .int .i64 0]), (x9.heap.size, 24, [.int .i64 0, .int .i64 0, .int .i64 0])]) ((BX.out).alloc_ _ _ (by simp)) ?_
            clear BX hHeld
            rintro x10 bx
            have BX := Lib.hid bx
            clear bx
            have y0 : w.heap.size < x10.heap.size := (BX.out.bl 0 _ _ _ rfl).size
            have y1 : w.heap.size + 1 < x10.heap.size := (BX.out.bl 1 _ _ _ rfl).size
            have y2 : x8.heap.size < x10.heap.size := (BX.out.bl 2 _ _ _ rfl).size
            have y3 : x9.heap.size < x10.heap.size := (BX.out.bl 3 _ _ _ rfl).size
            have hHeld := And.intro (BX.out.bl 0 _ _ _ rfl) (BX.out.bl 1 _ _ _ rfl)
            refine anyB_each (rs := [10]) hShut (by kernel_rfl) (by simp) ?_
            refine List.forall_mem_cons.2 ⟨fun hShut => wpOp_step rfl (fun K hK => ?_), fun _ h => by cases h⟩
            · have p2_0 : x10.cell? ⟨x8.heap.size, 0, none⟩ = some (.int .i64 0) := (BX.out.bl 2 _ _ _ rfl).val rfl
              have p2_1 : x10.cell? ⟨x8.heap.size, 1, none⟩ = some (.int .i64 0) := (BX.out.bl 2 _ _ _ rfl).val rfl
              have p2_2 : x10.cell? ⟨x8.heap.size, 2, none⟩ = some (.int .i64 0) := (BX.out.bl 2 _ _ _ rfl).val rfl
              have z2 : ∀ k, x10.frozen? ⟨x8.heap.size, k, none⟩ = false := (BX.out.bl 2 _ _ _ rfl).free
              go_simp
              refine unheld hK (by kernel_rfl) ?_
              clear hK K
              try simp only [Act.put, List.getElem_toArray, List.getElem_cons_zero, List.getElem_cons_succ, List.setIfInBounds_toArray, List.set_cons_zero, List.set_cons_succ]
              clear y0 y1 y2 y3 p2_0 p2_1 p2_2 z2
              refine anyB_world (fun wx => Bxs w wx [(w.heap.size, 24, [.int .i64 su2, .int .i64 la, .int .i64 le]), (w.heap.size + 1, 26, [.int .i64 sp, .int .i64 kp2, .int .i64 ki2, .int .i64 kd2, .int .i64 li2, .int .i64 st2, .int .i64 mo2]), (x8.heap.size, 24, [.int .i64 c1, .int .i64 c2, .int .i64 c3]), (x9.heap.size, 24, [.int .i64 0, .int .i64 0, .int .i64 0])]) ((((BX.out).set_ 2 0 rfl _).set_ 2 1 rfl _).set_ 2 2 rfl _) ?_
              clear BX hHeld
              rintro x11 bx
              have BX := Lib.hid bx
              clear bx
              have y0 : w.heap.size < x11.heap.size := (BX.out.bl 0 _ _ _ rfl).size
              have y1 : w.heap.size + 1 < x11.heap.size := (BX.out.bl 1 _ _ _ rfl).size
              have y2 : x8.heap.size < x11.heap.size := (BX.out.bl 2 _ _ _ rfl).size
              have y3 : x9.heap.size < x11.heap.size := (BX.out.bl 3 _ _ _ rfl).size
              refine anyB_each (rs := [11]) hShut (by kernel_rfl) (by simp) ?_
              refine List.forall_mem_cons.2 ⟨fun hShut => wpOp_step rfl (fun K hK => ?_), fun _ h => by cases h⟩
              · have p3_0 : x11.cell? ⟨x9.heap.size, 0, none⟩ = some (.int .i64 0) := (BX.out.bl 3 _ _ _ rfl).val rfl
                have p3_1 : x11.cell? ⟨x9.heap.size, 1, none⟩ = some (.int .i64 0) := (BX.out.bl 3 _ _ _ rfl).val rfl
                have p3_2 : x11.cell? ⟨x9.heap.size, 2, none⟩ = some (.int .i64 0) := (BX.out.bl 3 _ _ _ rfl).val rfl
                have z3 : ∀ k, x11.frozen? ⟨x9.heap.size, k, none⟩ = false := (BX.out.bl 3 _ _ _ rfl).free
                go_simp
                refine unheld hK (by kernel_rfl) ?_
                clear hK K
                try simp only [Act.put, List.getElem_toArray, List.getElem_cons_zero, List.getElem_cons_succ, List.setIfInBounds_toArray, List.set_cons_zero, List.set_cons_succ]
                clear y0 y1 y2 y3 p3_0 p3_1 p3_2 z3
                refine anyB_world (fun wx => Bxs w wx [(w.heap.size, 24, [.int .i64 su2, .int .i64 la, .int .i64 le]), (w.heap.size + 1, 26, [.int .i64 sp, .int .i64 kp2, .int .i64 ki2, .int .i64 kd2, .int .i64 li2, .int .i64 st2, .int .i64 mo2]), (x8.heap.size, 24, [.int .i64 c1, .int .i64 c2, .int .i64 c3]), (x9.heap.size, 24, [.int .i64 f1, .int .i64 f2, .int .i64 f3])]) ((((BX.out).set_ 3 0 rfl _).set_ 3 1 rfl _).set_ 3 2 rfl _) ?_
                clear BX
                rintro x12 bx
                have BX := Lib.hid bx
                clear bx
                have y0 : w.heap.size < x12.heap.size := (BX.out.bl 0 _ _ _ rfl).size
                have y1 : w.heap.size + 1 < x12.heap.size := (BX.out.bl 1 _ _ _ rfl).size
                have y2 : x8.heap.size < x12.heap.size := (BX.out.bl 2 _ _ _ rfl).size
                have y3 : x9.heap.size < x12.heap.size := (BX.out.bl 3 _ _ _ rfl).size
                clear y0 y1 y2 y3
                have p2_0 : x12.cell? ⟨x8.heap.size, 0, none⟩ = some (.int .i64 c1) := (BX.out.bl 2 _ _ _ rfl).val rfl
                have p2_1 : x12.cell? ⟨x8.heap.size, 1, none⟩ = some (.int .i64 c2) := (BX.out.bl 2 _ _ _ rfl).val rfl
                have p2_2 : x12.cell? ⟨x8.heap.size, 2, none⟩ = some (.int .i64 c3) := (BX.out.bl 2 _ _ _ rfl).val rfl
                have z2 : ∀ k, x12.frozen? ⟨x8.heap.size, k, none⟩ = false := (BX.out.bl 2 _ _ _ rfl).free
                have y2 : x8.heap.size < x12.heap.size := (BX.out.bl 2 _ _ _ rfl).size
                have p3_0 : x12.cell? ⟨x9.heap.size, 0, none⟩ = some (.int .i64 f1) := (BX.out.bl 3 _ _ _ rfl).val rfl
                have p3_1 : x12.cell? ⟨x9.heap.size, 1, none⟩ = some (.int .i64 f2) := (BX.out.bl 3 _ _ _ rfl).val rfl
                have p3_2 : x12.cell? ⟨x9.heap.size, 2, none⟩ = some (.int .i64 f3) := (BX.out.bl 3 _ _ _ rfl).val rfl
                have z3 : ∀ k, x12.frozen? ⟨x9.heap.size, k, none⟩ = false := (BX.out.bl 3 _ _ _ rfl).free
                have y3 : x9.heap.size < x12.heap.size := (BX.out.bl 3 _ _ _ rfl).size
                refine anyB_done (by kernel_rfl) ?_ _
                refine NoPanic.normal ?_
                go_wp2_with fail
                refine bodyPost_ret (v := .bool true) (by simp [results, Try.results6, go_sem, *]) rfl ⟨rfl, BX.out.be⟩
        refine List.forall_mem_cons.2 ⟨fun hShut => wpOp_step rfl (fun K hK => ?_), fun _ h => by cases h⟩
        · go_simp
          refine hK _ _ ⟨fun _ => ⟨(BX.out.bl 0 _ _ _ rfl).alloc_ _, (BX.out.bl 1 _ _ _ rfl).alloc_ _⟩, ?_⟩
          clear hK K
          try simp only [Act.put, List.getElem_toArray, List.getElem_cons_zero, List.getElem_cons_succ, List.setIfInBounds_toArray, List.set_cons_zero, List.set_cons_succ]
          have gs0_x8 : w.heap.size < x8.heap.size := y0
          have gs1_x8 : w.heap.size + 1 < x8.heap.size := y1
          clear y0 y1
          refine anyB_world (fun wx => Bxs w wx [(w.heap.size, 24, [.int .i64 su2, .int .i64 la, .int .i64 le]), (w.heap.size + 1, 26, [.int .i64 sp, .int .i64 kp2, .int .i64 ki2, .int .i64 kd2, .int .i64 li2, .int .i64 st2, .int .i64 mo2]), (x8.heap.size, 24, [.int .i64 0, .int .i64 0, .int .i64 0])]) ((BX.out).alloc_ _ _ (by simp)) ?_
          clear BX hHeld
          rintro x9 bx
          have BX := Lib.hid bx
          clear bx
          have y0 : w.heap.size < x9.heap.size := (BX.out.bl 0 _ _ _ rfl).size
          have y1 : w.heap.size + 1 < x9.heap.size := (BX.out.bl 1 _ _ _ rfl).size
          have y2 : x8.heap.size < x9.heap.size := (BX.out.bl 2 _ _ _ rfl).size
          have hHeld := And.intro (BX.out.bl 0 _ _ _ rfl) (BX.out.bl 1 _ _ _ rfl)
          refine anyB_each (rs := [8]) hShut (by kernel_rfl) (by simp) ?_
          refine List.forall_mem_cons.2 ⟨fun hShut => wpOp_step rfl (fun K hK => ?_), fun _ h => by cases h⟩
          · go_simp
            refine hK _ _ ⟨fun _ => ⟨(BX.out.bl 0 _ _ _ rfl).alloc_ _, (BX.out.bl 1 _ _ _ rfl).alloc_ _⟩, ?_⟩
            clear hK K
            try simp only [Act.put, List.getElem_toArray, List.getElem_cons_zero, List.getElem_cons_succ, List.setIfInBounds_toArray, List.set_cons_zero, List.set_cons_succ]
            have gs0_x9 : w.heap.size < x9.heap.size := y0
            have gs1_x9 : w.heap.size + 1 < x9.heap.size := y1
            have gs2_x9 : x8.heap.size < x9.heap.size := y2
            clear y0 y1 y2
            refine anyB_world (fun wx => Bxs w wx [(w.heap.size, 24, [.int .i64 su2, .int .i64 la, .int .i64 le]), (w.heap.size + 1, 26, [.int .i64 sp, .int .i64 kp2, .int .i64 ki2, .int .i64 kd2, .int .i64 li2, .int .i64 st2, .int .i64 mo2]), (x8.heap.size, 24, [.int .i64 0, .int .i64 0, .int .i64 0]), (x9.heap.size, 24, [.int .i64 0, .int .i64 0, .int .i64 0])]) ((BX.out).alloc_ _ _ (by simp)) ?_
            clear BX hHeld
            rintro x10 bx
            have BX := Lib.hid bx
            clear bx
            have y0 : w.heap.size < x10.heap.size := (BX.out.bl 0 _ _ _ rfl).size
            have y1 : w.heap.size + 1 < x10.heap.size := (BX.out.bl 1 _ _ _ rfl).size
            have y2 : x8.heap.size < x10.heap.size := (BX.out.bl 2 _ _ _ rfl).size
            have y3 : x9.heap.size < x10.heap.size := (BX.out.bl 3 _ _ _ rfl).size
            have hHeld := And.intro (BX.out.bl 0 _ _ _ rfl) (BX.out.bl 1 _ _ _ rfl)
            refine anyB_each (rs := [10]) hShut (by kernel_rfl) (by simp) ?_
            refine List.forall_mem_cons.2 ⟨fun hShut => wpOp_step rfl (fun K hK => ?_), fun _ h => by cases h⟩
            · have p3_0 : x10.cell? ⟨x9.heap.size, 0, none⟩ = some (.int .i64 0) := (BX.out.bl 3 _ _ _ rfl).val rfl
              have p3_1 : x10.cell? ⟨x9.heap.size, 1, none⟩ = some (.int .i64 0) := (BX.out.bl 3 _ _ _ rfl).val rfl
              have p3_2 : x10.cell? ⟨x9.heap.size, 2, none⟩ = some (.int .i64 0) := (BX.out.bl 3 _ _ _ rfl).val rfl
              have z3 : ∀ k, x10.frozen? ⟨x9.heap.size, k, none⟩ = false := (BX.out.bl 3 _ _ _ rfl).free
              go_simp
              refine unheld hK (by kernel_rfl) ?_
              clear hK K
              try simp only [Act.put, List.getElem_toArray, List.getElem_cons_zero, List.getElem_cons_succ, List.setIfInBounds_toArray, List.set_cons_zero, List.set_cons_succ]
              clear y0 y1 y2 y3 p3_0 p3_1 p3_2 z3
              refine anyB_world (fun wx => Bxs w wx [(w.heap.size, 24, [.int .i64 su2, .int .i64 la, .int .i64 le]), (w.heap.size + 1, 26, [.int .i64 sp, .int .i64 kp2, .int .i64 ki2, .int .i64 kd2, .int .i64 li2, .int .i64 st2, .int .i64 mo2]), (x8.heap.size, 24, [.int .i64 0, .int .i64 0, .int .i64 0]), (x9.heap.size, 24, [.int .i64 c1, .int .i64 c2, .int .i64 c3])]) ((((BX.out).set_ 3 0 rfl _).set_ 3 1 rfl _).set_ 3 2 rfl _) ?_
              clear BX hHeld
              rintro x11 bx
              have BX := Lib.hid bx
              clear bx
              have y0 : w.heap.size < x11.heap.size := (BX.out.bl 0 _ _ _ rfl).size
              have y1 : w.heap.size + 1 < x11.heap.size := (BX.out.bl 1 _ _ _ rfl).size
              have y2 : x8.heap.size < x11.heap.size := (BX.out.bl 2 _ _ _ rfl).size
              have y3 : x9.heap.size < x11.heap.size := (BX.out.bl 3 _ _ _ rfl).size
              refine anyB_each (rs := [11]) hShut (by kernel_rfl) (by simp) ?_
              refine List.forall_mem_cons.2 ⟨fun hShut => wpOp_step rfl (fun K hK => ?_), fun _ h => by cases h⟩
              · have p2_0 : x11.cell? ⟨x8.heap.size, 0, none⟩ = some (.int .i64 0) := (BX.out.bl 2 _ _ _ rfl).val rfl
                have p2_1 : x11.cell? ⟨x8.heap.size, 1, none⟩ = some (.int .i64 0) := (BX.out.bl 2 _ _ _ rfl).val rfl
                have p2_2 : x11.cell? ⟨x8.heap.size, 2, none⟩ = some (.int .i64 0) := (BX.out.bl 2 _ _ _ rfl).val rfl
                have z2 : ∀ k, x11.frozen? ⟨x8.heap.size, k, none⟩ = false := (BX.out.bl 2 _ _ _ rfl).free
                go_simp
                refine unheld hK (by kernel_rfl) ?_
                clear hK K
                try simp only [Act.put, List.getElem_toArray, List.getElem_cons_zero, List.getElem_cons_succ, List.setIfInBounds_toArray, List.set_cons_zero, List.set_cons_succ]
                clear y0 y1 y2 y3 p2_0 p2_1 p2_2 z2
                refine anyB_world (fun wx => Bxs w wx [(w.heap.size, 24, [.int .i64 su2, .int .i64 la, .int .i64 le]), (w.heap.size + 1, 26, [.int .i64 sp, .int .i64 kp2, .int .i64 ki2, .int .i64 kd2, .int .i64 li2, .int .i64 st2, .int .i64 mo2]), (x8.heap.size, 24, [.int .i64 f1, .int .i64 f2, .int .i64 f3]), (x9.heap.size, 24, [.int .i64 c1, .int .i64 c2, .int .i64 c3])]) ((((BX.out).set_ 2 0 rfl _).set_ 2 1 rfl _).set_ 2 2 rfl _) ?_
                clear BX
                rintro x12 bx
                have BX := Lib.hid bx
                clear bx
                have y0 : w.heap.size < x12.heap.size := (BX.out.bl 0 _ _ _ rfl).size
                have y1 : w.heap.size + 1 < x12.heap.size := (BX.out.bl 1 _ _ _ rfl).size
                have y2 : x8.heap.size < x12.heap.size := (BX.out.bl 2 _ _ _ rfl).size
                have y3 : x9.heap.size < x12.heap.size := (BX.out.bl 3 _ _ _ rfl).size
                clear y0 y1 y2 y3
                have p2_0 : x12.cell? ⟨x8.heap.size, 0, none⟩ = some (.int .i64 f1) := (BX.out.bl 2 _ _ _ rfl).val rfl
                have p2_1 : x12.cell? ⟨x8.heap.size, 1, none⟩ = some (.int .i64 f2) := (BX.out.bl 2 _ _ _ rfl).val rfl
                have p2_2 : x12.cell? ⟨x8.heap.size, 2, none⟩ = some (.int .i64 f3) := (BX.out.bl 2 _ _ _ rfl).val rfl
                have z2 : ∀ k, x12.frozen? ⟨x8.heap.size, k, none⟩ = false := (BX.out.bl 2 _ _ _ rfl).free
                have y2 : x8.heap.size < x12.heap.size := (BX.out.bl 2 _ _ _ rfl).size
                have p3_0 : x12.cell? ⟨x9.heap.size, 0, none⟩ = some (.int .i64 c1) := (BX.out.bl 3 _ _ _ rfl).val rfl
                have p3_1 : x12.cell? ⟨x9.heap.size, 1, none⟩ = some (.int .i64 c2) := (BX.out.bl 3 _ _ _ rfl).val rfl
                have p3_2 : x12.cell? ⟨x9.heap.size, 2, none⟩ = some (.int .i64 c3) := (BX.out.bl 3 _ _ _ rfl).val rfl
                have z3 : ∀ k, x12.frozen? ⟨x9.heap.size, k, none⟩ = false := (BX.out.bl 3 _ _ _ rfl).free
                have y3 : x9.heap.size < x12.heap.size := (BX.out.bl 3 _ _ _ rfl).size
                refine anyB_done (by kernel_rfl) ?_ _
                refine NoPanic.normal ?_
                go_wp2_with fail
                refine bodyPost_ret (v := .bool true) (by simp [results, Try.results6, go_sem, *]) rfl ⟨rfl, BX.out.be⟩
      refine List.forall_mem_cons.2 ⟨fun hShut => wpOp_step rfl (fun K hK => ?_), ?_⟩
      · go_simp
        refine hK _ _ ⟨fun _ => ⟨(BX.out.bl 0 _ _ _ rfl).alloc_ _, (BX.out.bl 1 _ _ _ rfl).alloc_ _⟩, ?_⟩
        clear hK K
        try simp only [Act.put, List.getElem_toArray, List.getElem_cons_zero, List.getElem_cons_succ, List.setIfInBounds_toArray, List.set_cons_zero, List.set_cons_succ]
        have gs0_x7 : w.heap.size < x7.heap.size := y0
        have gs1_x7 : w.heap.size + 1 < x7.heap.size := y1
        clear y0 y1
        refine anyB_world (fun wx => Bxs w wx [(w.heap.size, 24, [.int .i64 su2, .int .i64 la, .int .i64 le]), (w.heap.size + 1, 26, [.int .i64 sp, .int .i64 kp2, .int .i64 ki2, .int .i64 kd2, .int .i64 li2, .int .i64 st2, .int .i64 mo2]), (x7.heap.size, 24, [.int .i64 0, .int .i64 0, .int .i64 0])]) ((BX.out).alloc_ _ _ (by simp)) ?_
        clear BX hHeld
        rintro x8 bx
        have BX := Lib.hid bx
        clear bx
        have y0 : w.heap.size < x8.heap.size := (BX.out.bl 0 _ _ _ rfl).size
        have y1 : w.heap.size + 1 < x8.heap.size := (BX.out.bl 1 _ _ _ rfl).size
        have y2 : x7.heap.size < x8.heap.size := (BX.out.bl 2 _ _ _ rfl).size
        have hHeld := And.intro (BX.out.bl 0 _ _ _ rfl) (BX.out.bl 1 _ _ _ rfl)
        refine anyB_each (rs := [7, 9]) hShut (by kernel_rfl) (by simp) ?_
        refine List.forall_mem_cons.2 ⟨fun hShut => wpOp_step rfl (fun K hK => ?_), ?_⟩
        · rw [if_pos (by rfl)]
          refine wp_enter (by go_simp; exact ⟨rfl, rfl⟩) ?_
          refine (psamp_lit su2 la le sp kp2 ki2 kd2 li2 st2 mo2 u f1 f2 f3 HY _ SK0.out.u0 SK0.out.u1 la0 la1 le0 le1 sp0 sp1 PO.out.kp0 PO.out.kp1 PO.out.ki0 PO.out.ki1 PO.out.kd0 PO.out.kd1 PO.out.li0 PO.out.li1 PO.out.st0 PO.out.st1 PO.out.mo0 PO.out.mo1 u0 u1).mono ?_
          rintro e x9 ⟨rfl, hbn⟩
          have bx := BX.out.below hbn
          clear y0 y1 y2
          clear BX hbn hHeld
          have BX := Lib.hid bx
          clear bx
          have y0 : w.heap.size < x9.heap.size := (BX.out.bl 0 _ _ _ rfl).size
          have y1 : w.heap.size + 1 < x9.heap.size := (BX.out.bl 1 _ _ _ rfl).size
          have y2 : x7.heap.size < x9.heap.size := (BX.out.bl 2 _ _ _ rfl).size
          have hHeld := And.intro (BX.out.bl 0 _ _ _ rfl) (BX.out.bl 1 _ _ _ rfl)
          refine ⟨_, rfl, ?_⟩
          refine hK _ _ ⟨fun _ => hHeld, ?_⟩
          clear hK K
          try simp only [Act.put, List.getElem_toArray, List.getElem_cons_zero, List.getElem_cons_succ, List.setIfInBounds_toArray, List.set_cons_zero, List.set_cons_succ]
          refine anyB_each (rs := [9]) hShut (by kernel_rfl) (by simp) ?_
          refine List.forall_mem_cons.2 ⟨fun hShut => wpOp_step rfl (fun K hK => ?_), fun _ h => by cases h⟩
          · go_simp
            refine hK _ _ ⟨fun _ => ⟨(BX.out.bl 0 _ _ _ rfl).alloc_ _, (BX.out.bl 1 _ _ _ rfl).alloc_ _⟩, ?_⟩
            clear hK K
            try simp only [Act.put, List.getElem_toArray, List.getElem_cons_zero, List.getElem_cons_succ, List.setIfInBounds_toArray, List.set_cons_zero, List.set_cons_succ]
            have gs0_x9 : w.heap.size < x9.heap.size := y0
            have gs1_x9 : w.heap.size + 1 < x9.heap.size := y1
            have gs2_x9 : x7.heap.size < x9.heap.size := y2
            clear y0 y1 y2
            refine anyB_world (fun wx => Bxs w wx [(w.heap.size, 24, [.int .i64 su2, .int .i64 la, .int .i64 le]), (w.heap.size + 1, 26, [.int .i64 sp, .int .i64 kp2, .int .i64 ki2, .int .i64 kd2, .int .i64 li2, .int .i64 st2, .int .i64 mo2]), (x7.heap.size, 24, [.int .i64 0, .int .i64 0, .int .i64 0]), (x9.heap.size, 24, [.int .i64 0, .int .i64 0, .int .i64 0])]) ((BX.out).alloc_ _ _ (by simp)) ?_
            clear BX hHeld
            rintro x10 bx
            have BX := Lib.hid bx
            clear bx
            have y0 : w.heap.size < x10.heap.size := (BX.out.bl 0 _ _ _ rfl).size
            have y1 : w.heap.size + 1 < x10.heap.size := (BX.out.bl 1 _ _ _ rfl).size
            have y2 : x7.heap.size < x10.heap.size := (BX.out.bl 2 _ _ _ rfl).size
            have y3 : x9.heap.size < x10.heap.size := (BX.out.bl 3 _ _ _ rfl).size
            have hHeld := And.intro (BX.out.bl 0 _ _ _ rfl) (BX.out.bl 1 _ _ _ rfl)
            refine anyB_each (rs := [10]) hShut (by kernel_rfl) (by simp) ?_
            refine List.forall_mem_cons.2 ⟨fun hShut => wpOp_step rfl (fun K hK => ?_), fun _ h => by cases h⟩
            · have p2_0 : x10.cell? ⟨x7.heap.size, 0, none⟩ = some (.int .i64 0) := (BX.out.bl 2 _ _ _ rfl).val rfl
              have p2_1 : x10.cell? ⟨x7.heap.size, 1, none⟩ = some (.int .i64 0) := (BX.out.bl 2 _ _ _ rfl).val rfl
              have p2_2 : x10.cell? ⟨x7.heap.size, 2, none⟩ = some (.int .i64 0) := (BX.out.bl 2 _ _ _ rfl).val rfl
              have z2 : ∀ k, x10.frozen? ⟨x7.heap.size, k, none⟩ = false := (BX.out.bl 2 _ _ _ rfl).free
              go_simp
              refine unheld hK (by kernel_rfl) ?_
              clear hK K
              try simp only [Act.put, List.getElem_toArray, List.getElem_cons_zero, List.getElem_cons_succ, List.setIfInBounds_toArray, List.set_cons_zero, List.set_cons_succ]
              clear y0 y1 y2 y3 p2_0 p2_1 p2_2 z2
              refine anyB_world (fun wx => Bxs w wx [(w.heap.size, 24, [.int .i64 su2, .int .i64 la, .int .i64 le]), (w.heap.size + 1, 26, [.int .i64 sp, .int .i64 kp2, .int .i64 ki2, .int .i64 kd2, .int .i64 li2, .int .i64 st2, .int .i64 mo2]), (x7.heap.size, 24, [.int .i64 c1, .int .i64 c2, .int .i64 c3]), (x9.heap.size, 24, [.int .i64 0, .int .i64 0, .int .i64 0])]) ((((BX.out).set_ 2 0 rfl _).set_ 2 1 rfl _).set_ 2 2 rfl _) ?_
              clear BX hHeld
              rintro x11 bx
              have BX := Lib.hid bx
              clear bx
              have y0 : w.heap.size < x11.heap.size := (BX.out.bl 0 _ _ _ rfl).size
              have y1 : w.heap.size + 1 < x11.heap.size := (BX.out.bl 1 _ _ _ rfl).size
              have y2 : x7.heap.size < x11.heap.size := (BX.out.bl 2 _ _ _ rfl).size
              have y3 : x9.heap.size < x11.heap.size := (BX.out.bl 3 _ _ _ rfl).size
              refine anyB_each (rs := [11]) hShut (by kernel_rfl) (by simp) ?_
              refine List.forall_mem_cons.2 ⟨fun hShut => wpOp_step rfl (fun K hK => ?_), fun _ h => by cases h⟩
              · have p3_0 : x11.cell? ⟨x9.heap.size, 0, none⟩ = some (.int .i64 0) := (BX.out.bl 3 _ _ _ rfl).val rfl
                have p3_1 : x11.cell? ⟨x9.heap.size, 1, none⟩ = some (.int .i64 0) := (BX.out.bl 3 _ _ _ rfl).val rfl
                have p3_2 : x11.cell? ⟨x9.heap.size, 2, none⟩ = some (.int .i64 0) := (BX.out.bl 3 _ _ _ rfl).val rfl
                have z3 : ∀ k, x11.frozen? ⟨x9.heap.size, k, none⟩ = false := (BX.out.bl 3 _ _ _ rfl).free
                go_simp
                refine unheld hK (by kernel_rfl) ?_
                clear hK K
                try simp only [Act.put, List.getElem_toArray, List.getElem_cons_zero, List.getElem_cons_succ, List.setIfInBounds_toArray, List.set_cons_zero, List.set_cons_succ]
                clear y0 y1 y2 y3 p3_0 p3_1 p3_2 z3
                refine anyB_world (fun wx => Bxs w wx [(w.heap.size, 24, [.int .i64 su2, .int .i64 la, .int .i64 le]), (w.heap.size + 1, 26, [.int .i64 sp, .int .i64 kp2, .int .i64 ki2, .int .i64 kd2, .int .i64 li2, .int .i64 st2, .int .i64 mo2]), (x7.heap.size, 24, [.int .i64 c1, .int .i64 c2, .int .i64 c3]), (x9.heap.size, 24, [.int .i64 f1, .int .i64 f2, .int .i64 f3])]) ((((BX.out).set_ 3 0 rfl _).set_ 3 1 rfl _).set_ 3 2 rfl _) ?_
                clear BX
                rintro x12 bx
                have BX := Lib.hid bx
                clear bx
                have y0 : w.heap.size < x12.heap.size := (BX.out.bl 0 _ _ _ rfl).size
                have y1 : w.heap.size + 1 < x12.heap.size := (BX.out.bl 1 _ _ _ rfl).size
                have y2 : x7.heap.size < x12.heap.size := (BX.out.bl 2 _ _ _ rfl).size
                have y3 : x9.heap.size < x12.heap.size := (BX.out.bl 3 _ _ _ rfl).size
                clear y0 y1 y2 y3
                have p2_0 : x12.cell? ⟨x7.heap.size, 0, none⟩ = some (.int .i64 c1) := (BX.out.bl 2 _ _ _ rfl).val rfl
                have p2_1 : x12.cell? ⟨x7.heap.size, 1, none⟩ = some (.int .i64 c2) := (BX.out.bl 2 _ _ _ rfl).val rfl
                have p2_2 : x12.cell? ⟨x7.heap.size, 2, none⟩ = some (.int .i64 c3) := (BX.out.bl 2 _ _ _ rfl).val rfl
                have z2 : ∀ k, x12.frozen? ⟨x7.heap.size, k, none⟩ = false := (BX.out.bl 2 _ _ _ rfl).free
                have y2 : x7.heap.size < x12.heap.size := (BX.out.bl 2 _ _ _ rfl).size
                have p3_0 : x12.cell? ⟨x9.heap.size, 0, none⟩ = some (.int .i64 f1) := (BX.out.bl 3 _ _ _ rfl).val rfl
                have p3_1 : x12.cell? ⟨x9.heap.size, 1, none⟩ = some (.int .i64 f2) := (BX.out.bl 3 _ _ _ rfl).val rfl
                have p3_2 : x12.cell? ⟨x9.heap.size, 2, none⟩ = some (.int .i64 f3) := (BX.out.bl 3 _ _ _ rfl).val rfl
                have z3 : ∀ k, x12.frozen? ⟨x9.heap.size, k, none⟩ = false := (BX.out.bl 3 _ _ _ rfl).free
                have y3 : x9.heap.size < x12.heap.size := (BX.out.bl 3 _ _ _ rfl).size
                refine anyB_done (by kernel_rfl) ?_ _
                refine NoPanic.normal ?_
                go_wp2_with fail
                refine bodyPost_ret (v := .bool true) (by simp [results, Try.results6, go_sem, *]) rfl ⟨rfl, BX.out.be⟩
        refine List.forall_mem_cons.2 ⟨fun hShut => wpOp_step rfl (fun K hK => ?_), fun _ h => by cases h⟩
        · go_simp
          refine hK _ _ ⟨fun _ => ⟨(BX.out.bl 0 _ _ _ rfl).alloc_ _, (BX.out.bl 1 _ _ _ rfl).alloc_ _⟩, ?_⟩
          clear hK K
          try simp only [Act.put, List.getElem_toArray, List.getElem_cons_zero, List.getElem_cons_succ, List.setIfInBounds_toArray, List.set_cons_zero, List.set_cons_succ]
          have gs0_x8 : w.heap.size < x8.heap.size := y0
          have gs1_x8 : w.heap.size + 1 < x8.heap.size := y1
          have gs2_x8 : x7.heap.size < x8.heap.size := y2
          clear y0 y1 y2
          refine anyB_world (fun wx => Bxs w wx [(w.heap.size, 24, [.int .i64 su2, .int .i64 la, .int .i64 le]), (w.heap.size + 1, 26, [.int .i64 sp, .int .i64 kp2, .int .i64 ki2, .int .i64 kd2, .int .i64 li2, .int .i64 st2, .int .i64 mo2]), (x7.heap.size, 24, [.int .i64 0, .int .i64 0, .int .i64 0]), (x8.heap.size, 24, [.int .i64 0, .int .i64 0, .int .i64 0])]) ((BX.out).alloc_ _ _ (by simp)) ?_
          clear BX hHeld
          rintro x9 bx
          have BX := Lib.hid bx
          clear bx
          have y0 : w.heap.size < x9.heap.size := (BX.out.bl 0 _ _ _ rfl).size
          have y1 : w.heap.size + 1 < x9.heap.size := (BX.out.bl 1 _ _ _ rfl).size
          have y2 : x7.heap.size < x9.heap.size := (BX.out.bl 2 _ _ _ rfl).size
          have y3 : x8.heap.size < x9.heap.size := (BX.out.bl 3 _ _ _ rfl).size
          have hHeld := And.intro (BX.out.bl 0 _ _ _ rfl) (BX.out.bl 1 _ _ _ rfl)
          refine anyB_each (rs := [7]) hShut (by kernel_rfl) (by simp) ?_
          refine List.forall_mem_cons.2 ⟨fun hShut => wpOp_step rfl (fun K hK => ?_), fun _ h => by cases h⟩
          · rw [if_pos (by rfl)]
            refine wp_enter (by go_simp; exact ⟨rfl, rfl⟩) ?_
            refine (psamp_lit su2 la le sp kp2 ki2 kd2 li2 st2 mo2 u f1 f2 f3 HY _ SK0.out.u0 SK0.out.u1 la0 la1 le0 le1 sp0 sp1 PO.out.kp0 PO.out.kp1 PO.out.ki0 PO.out.ki1 PO.out.kd0 PO.out.kd1 PO.out.li0 PO.out.li1 PO.out.st0 PO.out.st1 PO.out.mo0 PO.out.mo1 u0 u1).mono ?_
            rintro e x10 ⟨rfl, hbn⟩
            have bx := BX.out.below hbn
            clear y0 y1 y2 y3
            clear BX hbn hHeld
            have BX := Lib.hid bx
            clear bx
            have y0 : w.heap.size < x10.heap.size := (BX.out.bl 0 _ _ _ rfl).size
            have y1 : w.heap.size + 1 < x10.heap.size := (BX.out.bl 1 _ _ _ rfl).size
            have y2 : x7.heap.size < x10.heap.size := (BX.out.bl 2 _ _ _ rfl).size
            have y3 : x8.heap.size < x10.heap.size := (BX.out.bl 3 _ _ _ rfl).size
            have hHeld := And.intro (BX.out.bl 0 _ _ _ rfl) (BX.out.bl 1 _ _ _ rfl)
            refine ⟨_, rfl, ?_⟩
            refine hK _ _ ⟨fun _ => hHeld, ?_⟩
            clear hK K
            try simp only [Act.put, List.getElem_toArray, List.getElem_cons_zero, List.getElem_cons_succ, List.setIfInBounds_toArray, List.set_cons_zero, List.set_cons_succ]
            refine anyB_each (rs := [10]) hShut (by kernel_rfl) (by simp) ?_
            refine List.forall_mem_cons.2 ⟨fun hShut => wpOp_step rfl (fun K hK => ?_), fun _ h => by cases h⟩
            · have p2_0 : x10.cell? ⟨x7.heap.size, 0, none⟩ = some (.int .i64 0) := (BX.out.bl 2 _ _ _ rfl).val rfl
              have p2_1 : x10.cell? ⟨x7.heap.size, 1, none⟩ = some (.int .i64 0) := (BX.out.bl 2 _ _ _ rfl).val rfl
              have p2_2 : x10.cell? ⟨x7.heap.size, 2, none⟩ = some (.int .i64 0) := (BX.out.bl 2 _ _ _ rfl).val rfl
              have z2 : ∀ k, x10.frozen? ⟨x7.heap.size, k, none⟩ = false := (BX.out.bl 2 _ _ _ rfl).free
              go_simp
              refine unheld hK (by kernel_rfl) ?_
              clear hK K
              try simp only [Act.put, List.getElem_toArray, List.getElem_cons_zero, List.getElem_cons_succ, List.setIfInBounds_toArray, List.set_cons_zero, List.set_cons_succ]
              clear y0 y1 y2 y3 p2_0 p2_1 p2_2 z2
              refine anyB_world (fun wx => Bxs w wx [(w.heap.size, 24, [.int .i64 su2, .int .i64 la, .int .i64 le]), (w.heap.size + 1, 26, [.int .i64 sp, .int .i64 kp2, .int .i64 ki2, .int .i64 kd2, .int .i64 li2, .int .i64 st2, .int .i64 mo2]), (x7.heap.size, 24, [.int .i64 c1, .int .i64 c2, .int .i64 c3]), (x8.heap.size, 24, [.int .i64 0, .int .i64 0, .int .i64 0])]) ((((BX.out).set_ 2 0 rfl _).set_ 2 1 rfl _).set_ 2 2 rfl _) ?_
              clear BX hHeld
              rintro x11 bx
              have BX := Lib.hid bx
              clear bx
              have y0 : w.heap.size < x11.heap.size := (BX.out.bl 0 _ _ _ rfl).size
              have y1 : w.heap.size + 1 < x11.heap.size := (BX.out.bl 1 _ _ _ rfl).size
              have y2 : x7.heap.size < x11.heap.size := (BX.out.bl 2 _ _ _ rfl).size
              have y3 : x8.heap.size < x11.heap.size := (BX.out.bl 3 _ _ _ rfl).size
              refine anyB_each (rs := [11]) hShut (by kernel_rfl) (by simp) ?_
              refine List.forall_mem_cons.2 ⟨fun hShut => wpOp_step rfl (fun K hK => ?_), fun _ h => by cases h⟩
              · have p3_0 : x11.cell? ⟨x8.heap.size, 0, none⟩ = some (.int .i64 0) := (BX.out.bl 3 _ _ _ rfl).val rfl
                have p3_1 : x11.cell? ⟨x8.heap.size, 1, none⟩ = some (.int .i64 0) := (BX.out.bl 3 _ _ _ rfl).val rfl
                have p3_2 : x11.cell? ⟨x8.heap.size, 2, none⟩ = some (.int .i64 0) := (BX.out.bl 3 _ _ _ rfl).val rfl
                have z3 : ∀ k, x11.frozen? ⟨x8.heap.size, k, none⟩ = false := (BX.out.bl 3 _ _ _ rfl).free
                go_simp
                refine unheld hK (by kernel_rfl) ?_
                clear hK K
                try simp only [Act.put, List.getElem_toArray, List.getElem_cons_zero, List.getElem_cons_succ, List.setIfInBounds_toArray, List.set_cons_zero, List.set_cons_succ]
                clear y0 y1 y2 y3 p3_0 p3_1 p3_2 z3
                refine anyB_world (fun wx => Bxs w wx [(w.heap.size, 24, [.int .i64 su2, .int .i64 la, .int .i64 le]), (w.heap.size + 1, 26, [.int .i64 sp, .int .i64 kp2, .int .i64 ki2, .int .i64 kd2, .int .i64 li2, .int .i64 st2, .int .i64 mo2]), (x7.heap.size, 24, [.int .i64 c1, .int .i64 c2, .int .i64 c3]), (x8.heap.size, 24, [.int .i64 f1, .int .i64 f2, .int .i64 f3])]) ((((BX.out).set_ 3 0 rfl _).set_ 3 1 rfl _).set_ 3 2 rfl _) ?_
                clear BX
                rintro x12 bx
                have BX := Lib.hid bx
                clear bx
                have y0 : w.heap.size < x12.heap.size := (BX.out.bl 0 _ _ _ rfl).size
                have y1 : w.heap.size + 1 < x12.heap.size := (BX.out.bl 1 _ _ _ rfl).size
                have y2 : x7.heap.size < x12.heap.size := (BX.out.bl 2 _ _ _ rfl).size
                have y3 : x8.heap.size < x12.heap.size := (BX.out.bl 3 _ _ _ rfl).size
                clear y0 y1 y2 y3
                have p2_0 : x12.cell? ⟨x7.heap.size, 0, none⟩ = some (.int .i64 c1) := (BX.out.bl 2 _ _ _ rfl).val rfl
                have p2_1 : x12.cell? ⟨x7.heap.size, 1, none⟩ = some (.int .i64 c2) := (BX.out.bl 2 _ _ _ rfl).val rfl
                have p2_2 : x12.cell? ⟨x7.heap.size, 2, none⟩ = some (.int .i64 c3) := (BX.out.bl 2 _ _ _ rfl).val rfl
                have z2 : ∀ k, x12.frozen? ⟨x7.heap.size, k, none⟩ = false := (BX.out.bl 2 _ _ _ rfl).free
                have y2 : x7.heap.size < x12.heap.size := (BX.out.bl 2 _ _ _ rfl).size
                have p3_0 : x12.cell? ⟨x8.heap.size, 0, none⟩ = some (.int .i64 f1) := (BX.out.bl 3 _ _ _ rfl).val rfl
                have p3_1 : x12.cell? ⟨x8.heap.size, 1, none⟩ = some (.int .i64 f2) := (BX.out.bl 3 _ _ _ rfl).val rfl
                have p3_2 : x12.cell? ⟨x8.heap.size, 2, none⟩ = some (.int .i64 f3) := (BX.out.bl 3 _ _ _ rfl).val rfl
                have z3 : ∀ k, x12.frozen? ⟨x8.heap.size, k, none⟩ = false := (BX.out.bl 3 _ _ _ rfl).free
                have y3 : x8.heap.size < x12.heap.size := (BX.out.bl 3 _ _ _ rfl).size
                refine anyB_done (by kernel_rfl) ?_ _
                refine NoPanic.normal ?_
                go_wp2_with fail
                refine bodyPost_ret (v := .bool true) (by simp [results, Try.results6, go_sem, *]) rfl ⟨rfl, BX.out.be⟩
      refine List.forall_mem_cons.2 ⟨fun hShut => wpOp_step rfl (fun K hK => ?_), fun _ h => by cases h⟩
      · go_simp
        refine hK _ _ ⟨fun _ => ⟨(BX.out.bl 0 _ _ _ rfl).alloc_ _, (BX.out.bl 1 _ _ _ rfl).alloc_ _⟩, ?_⟩
        clear hK K
        try simp only [Act.put, List.getElem_toArray, List.getElem_cons_zero, List.getElem_cons_succ, List.setIfInBounds_toArray, List.set_cons_zero, List.set_cons_succ]
        have gs0_x7 : w.heap.size < x7.heap.size := y0
        have gs1_x7 : w.heap.size + 1 < x7.heap.size := y1
        clear y0 y1
        refine anyB_world (fun wx => Bxs w wx [(w.heap.size, 24, [.int .i64 su2, .int .i64 la, .int .i64 le]), (w.heap.size + 1, 26, [.int .i64 sp, .int .i64 kp2, .int .i64 ki2, .int .i64 kd2, .int .i64 li2, .int .i64 st2, .int .i64 mo2]), (x7.heap.size, 24, [.int .i64 0, .int .i64 0, .int .i64 0])]) ((BX.out).alloc_ _ _ (by simp)) ?_
        clear BX hHeld
        rintro x8 bx
        have BX := Lib.hid bx
        clear bx
        have y0 : w.heap.size < x8.heap.size := (BX.out.bl 0 _ _ _ rfl).size
        have y1 : w.heap.size + 1 < x8.heap.size := (BX.out.bl 1 _ _ _ rfl).size
        have y2 : x7.heap.size < x8.heap.size := (BX.out.bl 2 _ _ _ rfl).size
        have hHeld := And.intro (BX.out.bl 0 _ _ _ rfl) (BX.out.bl 1 _ _ _ rfl)
        refine anyB_each (rs := [7, 8]) hShut (by kernel_rfl) (by simp) ?_
        refine List.forall_mem_cons.2 ⟨fun hShut => wpOp_step rfl (fun K hK => ?_), ?_⟩
        · rw [if_pos (by rfl)]
          refine wp_enter (by go_simp; exact ⟨rfl, rfl⟩) ?_
          refine (psamp_lit su2 la le sp kp2 ki2 kd2 li2 st2 mo2 u f1 f2 f3 HY _ SK0.out.u0 SK0.out.u1 la0 la1 le0 le1 sp0 sp1 PO.out.kp0 PO.out.kp1 PO.out.ki0 PO.out.ki1 PO.out.kd0 PO.out.kd1 PO.out.li0 PO.out.li1 PO.out.st0 PO.out.st1 PO.out.mo0 PO.out.mo1 u0 u1).mono ?_
          rintro e x9 ⟨rfl, hbn⟩
          have bx := BX.out.below hbn
          clear y0 y1 y2
          clear BX hbn hHeld
          have BX := Lib.hid bx
          clear bx
          have y0 : w.heap.size < x9.heap.size := (BX.out.bl 0 _ _ _ rfl).size
          have y1 : w.heap.size + 1 < x9.heap.size := (BX.out.bl 1 _ _ _ rfl).size
          have y2 : x7.heap.size < x9.heap.size := (BX.out.bl 2 _ _ _ rfl).size
          have hHeld := And.intro (BX.out.bl 0 _ _ _ rfl) (BX.out.bl 1 _ _ _ rfl)
          refine ⟨_, rfl, ?_⟩
          refine hK _ _ ⟨fun _ => hHeld, ?_⟩
          clear hK K
          try simp only [Act.put, List.getElem_toArray, List.getElem_cons_zero, List.getElem_cons_succ, List.setIfInBounds_toArray, List.set_cons_zero, List.set_cons_succ]
          refine anyB_each (rs := [8]) hShut (by kernel_rfl) (by simp) ?_
          refine List.forall_mem_cons.2 ⟨fun hShut => wpOp_step rfl (fun K hK => ?_), fun _ h => by cases h⟩
          · go_simp
            refine hK _ _ ⟨fun _ => ⟨(BX.out.bl 0 _ _ _ rfl).alloc_ _, (BX.out.bl 1 _ _ _ rfl).alloc_ _⟩, ?_⟩
            clear hK K
            try simp only [Act.put, List.getElem_toArray, List.getElem_cons_zero, List.getElem_cons_succ, List.setIfInBounds_toArray, List.set_cons_zero, List.set_cons_succ]
            have gs0_x9 : w.heap.size < x9.heap.size := y0
            have gs1_x9 : w.heap.size + 1 < x9.heap.size := y1
            have gs2_x9 : x7.heap.size < x9.heap.size := y2
            clear y0 y1 y2
            refine anyB_world (fun wx => Bxs w wx [(w.heap.size, 24, [.int .i64 su2, .int .i64 la, .int .i64 le]), (w.heap.size + 1, 26, [.int .i64 sp, .int .i64 kp2, .int .i64 ki2, .int .i64 kd2, .int .i64 li2, .int .i64 st2, .int .i64 mo2]), (x7.heap.size, 24, [.int .i64 0, .int .i64 0, .int .i64 0]), (x9.heap.size, 24, [.int .i64 0, .int .i64 0, .int .i64 0])]) ((BX.out).alloc_ _ _ (by simp)) ?_
            clear BX hHeld
            rintro x10 bx
            have BX := Lib.hid bx
            clear bx
            have y0 : w.heap.size < x10.heap.size := (BX.out.bl 0 _ _ _ rfl).size
            have y1 : w.heap.size + 1 < x10.heap.size := (BX.out.bl 1 _ _ _ rfl).size
            have y2 : x7.heap.size < x10.heap.size := (BX.out.bl 2 _ _ _ rfl).size
            have y3 : x9.heap.size < x10.heap.size := (BX.out.bl 3 _ _ _ rfl).size
            have hHeld := And.intro (BX.out.bl 0 _ _ _ rfl) (BX.out.bl 1 _ _ _ rfl)
            refine anyB_each (rs := [10]) hShut (by kernel_rfl) (by simp) ?_
            refine List.forall_mem_cons.2 ⟨fun hShut => wpOp_step rfl (fun K hK => ?_), fun _ h => by cases h⟩
            · have p3_0 : x10.cell? ⟨x9.heap.size, 0, none⟩ = some (.int .i64 0) := (BX.out.bl 3 _ _ _ rfl).val rfl
              have p3_1 : x10.cell? ⟨x9.heap.size, 1, none⟩ = some (.int .i64 0) := (BX.out.bl 3 _ _ _ rfl).val rfl
              have p3_2 : x10.cell? ⟨x9.heap.size, 2, none⟩ = some (.int .i64 0) := (BX.out.bl 3 _ _ _ rfl).val rfl
              have z3 : ∀ k, x10.frozen? ⟨x9.heap.size, k, none⟩ = false := (BX.out.bl 3 _ _ _ rfl).free
              go_simp
              refine unheld hK (by kernel_rfl) ?_
              clear hK K
              try simp only [Act.put, List.getElem_toArray, List.getElem_cons_zero, List.getElem_cons_succ, List.setIfInBounds_toArray, List.set_cons_zero, List.set_cons_succ]
              clear y0 y1 y2 y3 p3_0 p3_1 p3_2 z3
              refine anyB_world (fun wx => Bxs w wx [(w.heap.size, 24, [.int .i64 su2, .int .i64 la, .int .i64 le]), (w.heap.size + 1, 26, [.int .i64 sp, .int .i64 kp2, .int .i64 ki2, .int .i64 kd2, .int .i64 li2, .int .i64 st2, .int .i64 mo2]), (x7.heap.size, 24, [.int .i64 0, .int .i64 0, .int .i64 0]), (x9.heap.size, 24, [.int .i64 c1, .int .i64 c2, .int .i64 c3])]) ((((BX.out).set_ 3 0 rfl _).set_ 3 1 rfl _).set_ 3 2 rfl _) ?_
              clear BX hHeld
              rintro x11 bx
              have BX := Lib.hid bx
              clear bx
              have y0 : w.heap.size < x11.heap.size := (BX.out.bl 0 _ _ _ rfl).size
              have y1 : w.heap.size + 1 < x11.heap.size := (BX.out.bl 1 _ _ _ rfl).size
              have y2 : x7.heap.size < x11.heap.size := (BX.out.bl 2 _ _ _ rfl).size
              have y3 : x9.heap.size < x11.heap.size := (BX.out.bl 3 _ _ _ rfl).size
              refine anyB_each (rs := [11]) hShut (by kernel_rfl) (by simp) ?_
              refine List.forall_mem_cons.2 ⟨fun hShut => wpOp_step rfl (fun K hK => ?_), fun _ h => by cases h⟩
              · have p2_0 : x11.cell? ⟨x7.heap.size, 0, none⟩ = some (.int .i64 0) := (BX.out.bl 2 _ _ _ rfl).val rfl
                have p2_1 : x11.cell? ⟨x7.heap.size, 1, none⟩ = some (.int .i64 0) := (BX.out.bl 2 _ _ _ rfl).val rfl
                have p2_2 : x11.cell? ⟨x7.heap.size, 2, none⟩ = some (.int .i64 0) := (BX.out.bl 2 _ _ _ rfl).val rfl
                have z2 : ∀ k, x11.frozen? ⟨x7.heap.size, k, none⟩ = false := (BX.out.bl 2 _ _ _ rfl).free
                go_simp
                refine unheld hK (by kernel_rfl) ?_
                clear hK K
                try simp only [Act.put, List.getElem_toArray, List.getElem_cons_zero, List.getElem_cons_succ, List.setIfInBounds_toArray, List.set_cons_zero, List.set_cons_succ]
                clear y0 y1 y2 y3 p2_0 p2_1 p2_2 z2
                refine anyB_world (fun wx => Bxs w wx [(w.heap.size, 24, [.int .i64 su2, .int .i64 la, .int .i64 le]), (w.heap.size + 1, 26, [.int .i64 sp, .int .i64 kp2, .int .i64 ki2, .int .i64 kd2, .int .i64 li2, .int .i64 st2, .int .i64 mo2]), (x7.heap.size, 24, [.int .i64 f1, .int .i64 f2, .int .i64 f3]), (x9.heap.size, 24, [.int .i64 c1, .int .i64 c2, .int .i64 c3])]) ((((BX.out).set_ 2 0 rfl _).set_ 2 1 rfl _).set_ 2 2 rfl _) ?_
                clear BX
                rintro x12 bx
                have BX := Lib.hid bx
                clear bx
                have y0 : w.heap.size < x12.heap.size := (BX.out.bl 0 _ _ _ rfl).size
                have y1 : w.heap.size + 1 < x12.heap.size := (BX.out.bl 1 _ _ _ rfl).size
                have y2 : x7.heap.size < x12.heap.size := (BX.out.bl 2 _ _ _ rfl).size
                have y3 : x9.heap.size < x12.heap.size := (BX.out.bl 3 _ _ _ rfl).size
                clear y0 y1 y2 y3
                have p2_0 : x12.cell? ⟨x7.heap.size, 0, none⟩ = some (.int .i64 f1) := (BX.out.bl 2 _ _ _ rfl).val rfl
                have p2_1 : x12.cell? ⟨x7.heap.size, 1, none⟩ = some (.int .i64 f2) := (BX.out.bl 2 _ _ _ rfl).val rfl
                have p2_2 : x12.cell? ⟨x7.heap.size, 2, none⟩ = some (.int .i64 f3) := (BX.out.bl 2 _ _ _ rfl).val rfl
                have z2 : ∀ k, x12.frozen? ⟨x7.heap.size, k, none⟩ = false := (BX.out.bl 2 _ _ _ rfl).free
                have y2 : x7.heap.size < x12.heap.size := (BX.out.bl 2 _ _ _ rfl).size
                have p3_0 : x12.cell? ⟨x9.heap.size, 0, none⟩ = some (.int .i64 c1) := (BX.out.bl 3 _ _ _ rfl).val rfl
                have p3_1 : x12.cell? ⟨x9.heap.size, 1, none⟩ = some (.int .i64 c2) := (BX.out.bl 3 _ _ _ rfl).val rfl
                have p3_2 : x12.cell? ⟨x9.heap.size, 2, none⟩ = some (.int .i64 c3) := (BX.out.bl 3 _ _ _ rfl).val rfl
                have z3 : ∀ k, x12.frozen? ⟨x9.heap.size, k, none⟩ = false := (BX.out.bl 3 _ _ _ rfl).free
                have y3 : x9.heap.size < x12.heap.size := (BX.out.bl 3 _ _ _ rfl).size
                refine anyB_done (by kernel_rfl) ?_ _
                refine NoPanic.normal ?_
                go_wp2_with fail
                refine bodyPost_ret (v := .bool true) (by simp [results, Try.results6, go_sem, *]) rfl ⟨rfl, BX.out.be⟩
        refine List.forall_mem_cons.2 ⟨fun hShut => wpOp_step rfl (fun K hK => ?_), fun _ h => by cases h⟩
        · go_simp
          refine hK _ _ ⟨fun _ => ⟨(BX.out.bl 0 _ _ _ rfl).alloc_ _, (BX.out.bl 1 _ _ _ rfl).alloc_ _⟩, ?_⟩
          clear hK K
          try simp only [Act.put, List.getElem_toArray, List.getElem_cons_zero, List.getElem_cons_succ, List.setIfInBounds_toArray, List.set_cons_zero, List.set_cons_succ]
          have gs0_x8 : w.heap.size < x8.heap.size := y0
          have gs1_x8 : w.heap.size + 1 < x8.heap.size := y1
          have gs2_x8 : x7.heap.size < x8.heap.size := y2
          clear y0 y1 y2
          refine anyB_world (fun wx => Bxs w wx [(w.heap.size, 24, [.int .i64 su2, .int .i64 la, .int .i64 le]), (w.heap.size + 1, 26, [.int .i64 sp, .int .i64 kp2, .int .i64 ki2, .int .i64 kd2, .int .i64 li2, .int .i64 st2, .int .i64 mo2]), (x7.heap.size, 24, [.int .i64 0, .int .i64 0, .int .i64 0]), (x8.heap.size, 24, [.int .i64 0, .int .i64 0, .int .i64 0])]) ((BX.out).alloc_ _ _ (by simp)) ?_
          clear BX hHeld
          rintro x9 bx
          have BX := Lib.hid bx
          clear bx
          have y0 : w.heap.size < x9.heap.size := (BX.out.bl 0 _ _ _ rfl).size
          have y1 : w.heap.size + 1 < x9.heap.size := (BX.out.bl 1 _ _ _ rfl).size
          have y2 : x7.heap.size < x9.heap.size := (BX.out.bl 2 _ _ _ rfl).size
          have y3 : x8.heap.size < x9.heap.size := (BX.out.bl 3 _ _ _ rfl).size
          have hHeld := And.intro (BX.out.bl 0 _ _ _ rfl) (BX.out.bl 1 _ _ _ rfl)
          refine anyB_each (rs := [7]) hShut (by kernel_rfl) (by simp) ?_
          refine List.forall_mem_cons.2 ⟨fun hShut => wpOp_step rfl (fun K hK => ?_), fun _ h => by cases h⟩
          · rw [if_pos (by rfl)]
            refine wp_enter (by go_simp; exact ⟨rfl, rfl⟩) ?_
            refine (psamp_lit su2 la le sp kp2 ki2 kd2 li2 st2 mo2 u f1 f2 f3 HY _ SK0.out.u0 SK0.out.u1 la0 la1 le0 le1 sp0 sp1 PO.out.kp0 PO.out.kp1 PO.out.ki0 PO.out.ki1 PO.out.kd0 PO.out.kd1 PO.out.li0 PO.out.li1 PO.out.st0 PO.out.st1 PO.out.mo0 PO.out.mo1 u0 u1).mono ?_
            rintro e x10 ⟨rfl, hbn⟩
            have bx := BX.out.below hbn
            clear y0 y1 y2 y3
            clear BX hbn hHeld
            have BX := Lib.hid bx
            clear bx
            have y0 : w.heap.size < x10.heap.size := (BX.out.bl 0 _ _ _ rfl).size
            have y1 : w.heap.size + 1 < x10.heap.size := (BX.out.bl 1 _ _ _ rfl).size
            have y2 : x7.heap.size < x10.heap.size := (BX.out.bl 2 _ _ _ rfl).size
            have y3 : x8.heap.size < x10.heap.size := (BX.out.bl 3 _ _ _ rfl).size
            have hHeld := And.intro (BX.out.bl 0 _ _ _ rfl) (BX.out.bl 1 _ _ _ rfl)
            refine ⟨_, rfl, ?_⟩
            refine hK _ _ ⟨fun _ => hHeld, ?_⟩
            clear hK K
            try simp only [Act.put, List.getElem_toArray, List.getElem_cons_zero, List.getElem_cons_succ, List.setIfInBounds_toArray, List.set_cons_zero, List.set_cons_succ]
            refine anyB_each (rs := [10]) hShut (by kernel_rfl) (by simp) ?_
            refine List.forall_mem_cons.2 ⟨fun hShut => wpOp_step rfl (fun K hK => ?_), fun _ h => by cases h⟩
            · have p3_0 : x10.cell? ⟨x8.heap.size, 0, none⟩ = some (.int .i64 0) := (BX.out.bl 3 _ _ _ rfl).val rfl
              have p3_1 : x10.cell? ⟨x8.heap.size, 1, none⟩ = some (.int .i64 0) := (BX.out.bl 3 _ _ _ rfl).val rfl
              have p3_2 : x10.cell? ⟨x8.heap.size, 2, none⟩ = some (.int .i64 0) := (BX.out.bl 3 _ _ _ rfl).val rfl
              have z3 : ∀ k, x10.frozen? ⟨x8.heap.size, k, none⟩ = false := (BX.out.bl 3 _ _ _ rfl).free
              go_simp
              refine unheld hK (by kernel_rfl) ?_
              clear hK K
              try simp only [Act.put, List.getElem_toArray, List.getElem_cons_zero, List.getElem_cons_succ, List.setIfInBounds_toArray, List.set_cons_zero, List.set_cons_succ]
              clear y0 y1 y2 y3 p3_0 p3_1 p3_2 z3
              refine anyB_world (fun wx => Bxs w wx [(w.heap.size, 24, [.int .i64 su2, .int .i64 la, .int .i64 le]), (w.heap.size + 1, 26, [.int .i64 sp, .int .i64 kp2, .int .i64 ki2, .int .i64 kd2, .int .i64 li2, .int .i64 st2, .int .i64 mo2]), (x7.heap.size, 24, [.int .i64 0, .int .i64 0, .int .i64 0]), (x8.heap.size, 24, [.int .i64 c1, .int .i64 c2, .int .i64 c3])]) ((((BX.out).set_ 3 0 rfl _).set_ 3 1 rfl _).set_ 3 2 rfl _) ?_
              clear BX hHeld
              rintro x11 bx
              have BX := Lib.hid bx
              clear bx
              have y0 : w.heap.size < x11.heap.size := (BX.out.bl 0 _ _ _ rfl).size
              have y1 : w.heap.size + 1 < x11.heap.size := (BX.out.bl 1 _ _ _ rfl).size
              have y2 : x7.heap.size < x11.heap.size := (BX.out.bl 2 _ _ _ rfl).size
              have y3 : x8.heap.size < x11.heap.size := (BX.out.bl 3 _ _ _ rfl).size
              refine anyB_each (rs := [11]) hShut (by kernel_rfl) (by simp) ?_
              refine List.forall_mem_cons.2 ⟨fun hShut => wpOp_step rfl (fun K hK => ?_), fun _ h => by cases h⟩
              · have p2_0 : x11.cell? ⟨x7.heap.size, 0, none⟩ = some (.int .i64 0) := (BX.out.bl 2 _ _ _ rfl).val rfl
                have p2_1 : x11.cell? ⟨x7.heap.size, 1, none⟩ = some (.int .i64 0) := (BX.out.bl 2 _ _ _ rfl).val rfl
                have p2_2 : x11.cell? ⟨x7.heap.size, 2, none⟩ = some (.int .i64 0) := (BX.out.bl 2 _ _ _ rfl).val rfl
                have z2 : ∀ k, x11.frozen? ⟨x7.heap.size, k, none⟩ = false := (BX.out.bl 2 _ _ _ rfl).free
                go_simp
                refine unheld hK (by kernel_rfl) ?_
                clear hK K
                try simp only [Act.put, List.getElem_toArray, List.getElem_cons_zero, List.getElem_cons_succ, List.setIfInBounds_toArray, List.set_cons_zero, List.set_cons_succ]
                clear y0 y1 y2 y3 p2_0 p2_1 p2_2 z2
                refine anyB_world (fun wx => Bxs w wx [(w.heap.size, 24, [.int .i64 su2, .int .i64 la, .int .i64 le]), (w.heap.size + 1, 26, [.int .i64 sp, .int .i64 kp2, .int .i64 ki2, .int .i64 kd2, .int .i64 li2, .int .i64 st2, .int .i64 mo2]), (x7.heap.size, 24, [.int .i64 f1, .int .i64 f2, .int .i64 f3]), (x8.heap.size, 24, [.int .i64 c1, .int .i64 c2, .int .i64 c3])]) ((((BX.out).set_ 2 0 rfl _).set_ 2 1 rfl _).set_ 2 2 rfl _) ?_
                clear BX
                rintro x12 bx
                have BX := Lib.hid bx
                clear bx
                have y0 : w.heap.size < x12.heap.size := (BX.out.bl 0 _ _ _ rfl).size
                have y1 : w.heap.size + 1 < x12.heap.size := (BX.out.bl 1 _ _ _ rfl).size
                have y2 : x7.heap.size < x12.heap.size := (BX.out.bl 2 _ _ _ rfl).size
                have y3 : x8.heap.size < x12.heap.size := (BX.out.bl 3 _ _ _ rfl).size
                clear y0 y1 y2 y3
                have p2_0 : x12.cell? ⟨x7.heap.size, 0, none⟩ = some (.int .i64 f1) := (BX.out.bl 2 _ _ _ rfl).val rfl
                have p2_1 : x12.cell? ⟨x7.heap.size, 1, none⟩ = some (.int .i64 f2) := (BX.out.bl 2 _ _ _ rfl).val rfl
                have p2_2 : x12.cell? ⟨x7.heap.size, 2, none⟩ = some (.int .i64 f3) := (BX.out.bl 2 _ _ _ rfl).val rfl
                have z2 : ∀ k, x12.frozen? ⟨x7.heap.size, k, none⟩ = false := (BX.out.bl 2 _ _ _ rfl).free
                have y2 : x7.heap.size < x12.heap.size := (BX.out.bl 2 _ _ _ rfl).size
                have p3_0 : x12.cell? ⟨x8.heap.size, 0, none⟩ = some (.int .i64 c1) := (BX.out.bl 3 _ _ _ rfl).val rfl
                have p3_1 : x12.cell? ⟨x8.heap.size, 1, none⟩ = some (.int .i64 c2) := (BX.out.bl 3 _ _ _ rfl).val rfl
                have p3_2 : x12.cell? ⟨x8.heap.size, 2, none⟩ = some (.int .i64 c3) := (BX.out.bl 3 _ _ _ rfl).val rfl
                have z3 : ∀ k, x12.frozen? ⟨x8.heap.size, k, none⟩ = false := (BX.out.bl 3 _ _ _ rfl).free
                have y3 : x8.heap.size < x12.heap.size := (BX.out.bl 3 _ _ _ rfl).size
                refine anyB_done (by kernel_rfl) ?_ _
                refine NoPanic.normal ?_
                go_wp2_with fail
                refine bodyPost_ret (v := .bool true) (by simp [results, Try.results6, go_sem, *]) rfl ⟨rfl, BX.out.be⟩
    refine List.forall_mem_cons.2 ⟨fun hShut => wpOp_step rfl (fun K hK => ?_), ?_⟩
    · go_simp
      refine hK _ _ ⟨fun _ => ⟨(BX.out.bl 0 _ _ _ rfl).alloc_ _, (BX.out.bl 1 _ _ _ rfl).alloc_ _⟩, ?_⟩
      clear hK K
      try simp only [Act.put, List.getElem_toArray, List.getElem_cons_zero, List.getElem_cons_succ, List.setIfInBounds_toArray, List.set_cons_zero, List.set_cons_succ]
      have gs0_x6 : w.heap.size < x6.heap.size := y0
      have gs1_x6 : w.heap.size + 1 < x6.heap.size := y1
      clear y0 y1
      refine anyB_world (fun wx => Bxs w wx [(w.heap.size, 24, [.int .i64 su2, .int .i64 la, .int .i64 le]), (w.heap.size + 1, 26, [.int .i64 sp, .int .i64 kp2, .int .i64 ki2, .int .i64 kd2, .int .i64 li2, .int .i64 st2, .int .i64 mo2]), (x6.heap.size, 24, [.int .i64 0, .int .i64 0, .int .i64 0])]) ((BX.out).alloc_ _ _ (by simp)) ?_
      clear BX hHeld
      rintro x7 bx
      have BX := Lib.hid bx
      clear bx
      have y0 : w.heap.size < x7.heap.size := (BX.out.bl 0 _ _ _ rfl).size
      have y1 : w.heap.size + 1 < x7.heap.size := (BX.out.bl 1 _ _ _ rfl).size
      have y2 : x6.heap.size < x7.heap.size := (BX.out.bl 2 _ _ _ rfl).size
      have hHeld := And.intro (BX.out.bl 0 _ _ _ rfl) (BX.out.bl 1 _ _ _ rfl)
      refine anyB_each (rs := [3, 9]) hShut (by kernel_rfl) (by simp) ?_
      refine List.forall_mem_cons.2 ⟨fun hShut => wpOp_step rfl (fun K hK => ?_), ?_⟩
      · rw [if_pos (by rfl)]
        refine wp_enter (by go_simp; exact ⟨rfl, rfl⟩) ?_
        refine (psamp_lit su2 la le sp kp2 ki2 kd2 li2 st2 mo2 v c1 c2 c3 HZ _ SK0.out.u0 SK0.out.u1 la0 la1 le0 le1 sp0 sp1 PO.out.kp0 PO.out.kp1 PO.out.ki0 PO.out.ki1 PO.out.kd0 PO.out.kd1 PO.out.li0 PO.out.li1 PO.out.st0 PO.out.st1 PO.out.mo0 PO.out.mo1 v0 v1).mono ?_
        rintro e x8 ⟨rfl, hbn⟩
        have bx := BX.out.below hbn
        clear y0 y1 y2
        clear BX hbn hHeld
        have BX := Lib.hid bx
        clear bx
        have y0 : w.heap.size < x8.heap.size := (BX.out.bl 0 _ _ _ rfl).size
        have y1 : w.heap.size + 1 < x8.heap.size := (BX.out.bl 1 _ _ _ rfl).size
        have y2 : x6.heap.size < x8.heap.size := (BX.out.bl 2 _ _ _ rfl).size
        have hHeld := And.intro (BX.out.bl 0 _ _ _ rfl) (BX.out.bl 1 _ _ _ rfl)
        refine ⟨_, rfl, ?_⟩
        refine hK _ _ ⟨fun _ => hHeld, ?_⟩
        clear hK K
        try simp only [Act.put, List.getElem_toArray, List.getElem_cons_zero, List.getElem_cons_succ, List.setIfInBounds_toArray, List.set_cons_zero, List.set_cons_succ]
        refine anyB_each (rs := [7, 9]) hShut (by kernel_rfl) (by simp) ?_
        refine List.forall_mem_cons.2 ⟨fun hShut => wpOp_step rfl (fun K hK => ?_), ?_⟩
        · rw [if_pos (by rfl)]
          refine wp_enter (by go_simp; exact ⟨rfl, rfl⟩) ?_
          refine (psamp_lit su2 la le sp kp2 ki2 kd2 li2 st2 mo2 u f1 f2 f3 HY _ SK0.out.u0 SK0.out.u1 la0 la1 le0 le1 sp0 sp1 PO.out.kp0 PO.out.kp1 PO.out.ki0 PO.out.ki1 PO.out.kd0 PO.out.kd1 PO.out.li0 PO.out.li1 PO.out.st0 PO.out.st1 PO.out.mo0 PO.out.mo1 u0 u1).mono ?_
          rintro e x9 ⟨rfl, hbn⟩
          have bx := BX.out.below hbn
          clear y0 y1 y2
          clear BX hbn hHeld
          have BX := Lib.hid bx
          clear bx
          have y0 : w.heap.size < x9.heap.size := (BX.out.bl 0 _ _ _ rfl).size
          have y1 : w.heap.size + 1 < x9.heap.size := (BX.out.bl 1 _ _ _ rfl).size
          have y2 : x6.heap.size < x9.heap.size := (BX.out.bl 2 _ _ _ rfl).size
          have hHeld := And.intro (BX.out.bl 0 _ _ _ rfl) (BX.out.bl 1 _ _ _ rfl)
          refine ⟨_, rfl, ?_⟩
          refine hK _ _ ⟨fun _ => hHeld, ?_⟩
          clear hK K
          try simp only [Act.put, List.getElem_toArray, List.getElem_cons_zero, List.getElem_cons_succ, List.setIfInBounds_toArray, List.set_cons_zero, List.set_cons_succ]
          refine anyB_each (rs := [9]) hShut (by kernel_rfl) (by simp) ?_
          refine List.forall_mem_cons.2 ⟨fun hShut => wpOp_step rfl (fun K hK => ?_), fun _ h => by cases h⟩
          · go_simp
            refine hK _ _ ⟨fun _ => ⟨(BX.out.bl 0 _ _ _ rfl).alloc_ _, (BX.out.bl 1 _ _ _ rfl).alloc_ _⟩, ?_⟩
            clear hK K
            try simp only [Act.put, List.getElem_toArray, List.getElem_cons_zero, List.getElem_cons_succ, List.setIfInBounds_toArray, List.set_cons_zero, List.set_cons_succ]
            have gs0_x9 : w.heap.size < x9.heap.size := y0
            have gs1_x9 : w.heap.size + 1 < x9.heap.size := y1
            have gs2_x9 : x6.heap.size < x9.heap.size := y2
            clear y0 y1 y2
            refine anyB_world (fun wx => Bxs w wx [(w.heap.size, 24, [.int .i64 su2, .int .i64 la, .int .i64 le]), (w.heap.size + 1, 26, [.int .i64 sp, .int .i64 kp2, .int .i64 ki2, .int .i64 kd2, .int .i64 li2, .int .i64 st2, .int .i64 mo2]), (x6.heap.size, 24, [.int .i64 0, .int .i64 0, .int .i64 0]), (x9.heap.size, 24, [.int .i64 0, .int .i64 0, .int .i64 0])]) ((BX.out).alloc_ _ _ (by simp)) ?_
            clear BX hHeld
            rintro x10 bx
            have BX := Lib.hid bx
            clear bx
            have y0 : w.heap.size < x10.heap.size := (BX.out.bl 0 _ _ _ rfl).size
            have y1 : w.heap.size + 1 < x10.heap.size := (BX.out.bl 1 _ _ _ rfl).size
            have y2 : x6.heap.size < x10.heap.size := (BX.out.bl 2 _ _ _ rfl).size
            have y3 : x9.heap.size < x10.heap.size := (BX.out.bl 3 _ _ _ rfl).size
            have hHeld := And.intro (BX.out.bl 0 _ _ _ rfl) (BX.out.bl 1 _ _ _ rfl)
            refine anyB_each (rs := [10]) hShut (by kernel_rfl) (by simp) ?_
            refine List.forall_mem_cons.2 ⟨fun hShut => wpOp_step rfl (fun K hK => ?_), fun _ h => by cases h⟩
            · have p2_0 : x10.cell? ⟨x6.heap.size, 0, none⟩ = some (.int .i64 0) := (BX.out.bl 2 _ _ _ rfl).val rfl
              have p2_1 : x10.cell? ⟨x6.heap.size, 1, none⟩ = some (.int .i64 0) := (BX.out.bl 2 _ _ _ rfl).val rfl
              have p2_2 : x10.cell? ⟨x6.heap.size, 2, none⟩ = some (.int .i64 0) := (BX.out.bl 2 _ _ _ rfl).val rfl
              have z2 : ∀ k, x10.frozen? ⟨x6.heap.size, k, none⟩ = false := (BX.out.bl 2 _ _ _ rfl).free
              go_simp
              refine unheld hK (by kernel_rfl) ?_
              clear hK K
              try simp only [Act.put, List.getElem_toArray, List.getElem_cons_zero, List.getElem_cons_succ, List.setIfInBounds_toArray, List.set_cons_zero, List.set_cons_succ]
              clear y0 y1 y2 y3 p2_0 p2_1 p2_2 z2
              refine anyB_world (fun wx => Bxs w wx [(w.heap.size, 24, [.int .i64 su2, .int .i64 la, .int .i64 le]), (w.heap.size + 1, 26, [.int .i64 sp, .int .i64 kp2, .int .i64 ki2, .int .i64 kd2, .int .i64 li2, .int .i64 st2, .int .i64 mo2]), (x6.heap.size, 24, [.int .i64 c1, .int .i64 c2, .int .i64 c3]), (x9.heap.size, 24, [.int .i64 0, .int .i64 0, .int .i64 0])]) ((((BX.out).set_ 2 0 rfl _).set_ 2 1 rfl _).set_ 2 2 rfl _) ?_
              clear BX hHeld
              rintro x11 bx
              have BX := Lib.hid bx
              clear bx
              have y0 : w.heap.size < x11.heap.size := (BX.out.bl 0 _ _ _ rfl).size
              have y1 : w.heap.size + 1 < x11.heap.size := (BX.out.bl 1 _ _ _ rfl).size
              have y2 : x6.heap.size < x11.heap.size := (BX.out.bl 2 _ _ _ rfl).size
              have y3 : x9.heap.size < x11.heap.size := (BX.out.bl 3 _ _ _ rfl).size
              refine anyB_each (rs := [11]) hShut (by kernel_rfl) (by simp) ?_
              refine List.forall_mem_cons.2 ⟨fun hShut => wpOp_step rfl (fun K hK => ?_), fun _ h => by cases h⟩
              · have p3_0 : x11.cell? ⟨x9.heap.size, 0, none⟩ = some (.int .i64 0) := (BX.out.bl 3 _ _ _ rfl).val rfl
                have p3_1 : x11.cell? ⟨x9.heap.size, 1, none⟩ = some (.int .i64 0) := (BX.out.bl 3 _ _ _ rfl).val rfl
                have p3_2 : x11.cell? ⟨x9.heap.size, 2, none⟩ = some (.int .i64 0) := (BX.out.bl 3 _ _ _ rfl).val rfl
                have z3 : ∀ k, x11.frozen? ⟨x9.heap.size, k, none⟩ = false := (BX.out.bl 3 _ _ _ rfl).free
                go_simp
                refine unheld hK (by kernel_rfl) ?_
                clear hK K
                try simp only [Act.put, List.getElem_toArray, List.getElem_cons_zero, List.getElem_cons_succ, List.setIfInBounds_toArray, List.set_cons_zero, List.set_cons_succ]
                clear y0 y1 y2 y3 p3_0 p3_1 p3_2 z3
                refine anyB_world (fun wx => Bxs w wx [(w.heap.size, 24, [.int .i64 su2, .int .i64 la, .int .i64 le]), (w.heap.size + 1, 26, [.int .i64 sp, .int .i64 kp2, .int .i64 ki2, .int .i64 kd2, .int .i64 li2, .int .i64 st2, .int .i64 mo2]), (x6.heap.size, 24, [.int .i64 c1, .int .i64 c2, .int .i64 c3]), (x9.heap.size, 24, [.int .i64 f1, .int .i64 f2, .int .i64 f3])]) ((((BX.out).set_ 3 0 rfl _).set_ 3 1 rfl _).set_ 3 2 rfl _) ?_
                clear BX
                rintro x12 bx
                have BX := Lib.hid bx
                clear bx
                have y0 : w.heap.size < x12.heap.size := (BX.out.bl 0 _ _ _ rfl).size
                have y1 : w.heap.size + 1 < x12.heap.size := (BX.out.bl 1 _ _ _ rfl).size
                have y2 : x6.heap.size < x12.heap.size := (BX.out.bl 2 _ _ _ rfl).size
                have y3 : x9.heap.size < x12.heap.size := (BX.out.bl 3 _ _ _ rfl).size
                clear y0 y1 y2 y3
                have p2_0 : x12.cell? ⟨x6.heap.size, 0, none⟩ = some (.int .i64 c1) := (BX.out.bl 2 _ _ _ rfl).val rfl
                have p2_1 : x12.cell? ⟨x6.heap.size, 1, none⟩ = some (.int .i64 c2) := (BX.out.bl 2 _ _ _ rfl).val rfl
                have p2_2 : x12.cell? ⟨x6.heap.size, 2, none⟩ = some (.int .i64 c3) := (BX.out.bl 2 _ _ _ rfl).val rfl
                have z2 : ∀ k, x12.frozen? ⟨x6.heap.size, k, none⟩ = false := (BX.out.bl 2 _ _ _ rfl).free
                have y2 : x6.heap.size < x12.heap.size := (BX.out.bl 2 _ _ _ rfl).size
                have p3_0 : x12.cell? ⟨x9.heap.size, 0, none⟩ = some (.int .i64 f1) := (BX.out.bl 3 _ _ _ rfl).val rfl
                have p3_1 : x12.cell? ⟨x9.heap.size, 1, none⟩ = some (.int .i64 f2) := (BX.out.bl 3 _ _ _ rfl).val rfl
                have p3_2 : x12.cell? ⟨x9.heap.size, 2, none⟩ = some (.int .i64 f3) := (BX.out.bl 3 _ _ _ rfl).val rfl
                have z3 : ∀ k, x12.frozen? ⟨x9.heap.size, k, none⟩ = false := (BX.out.bl 3 _ _ _ rfl).free
                have y3 : x9.heap.size < x12.heap.size := (BX.out.bl 3 _ _ _ rfl).size
                refine anyB_done (by kernel_rfl) ?_ _
                refine NoPanic.normal ?_
                go_wp2_with fail
                refine bodyPost_ret (v := .bool true) (by simp [results, Try.results6, go_sem, *]) rfl ⟨rfl, BX.out.be⟩
        refine List.forall_mem_cons.2 ⟨fun hShut => wpOp_step rfl (fun K hK => ?_), fun _ h => by cases h⟩
        · go_simp
          refine hK _ _ ⟨fun _ => ⟨(BX.out.bl 0 _ _ _ rfl).alloc_ _, (BX.out.bl 1 _ _ _ rfl).alloc_ _⟩, ?_⟩
          clear hK K
          try simp only [Act.put, List.getElem_toArray, List.getElem_cons_zero, List.getElem_cons_succ, List.setIfInBounds_toArray, List.set_cons_zero, List.set_cons_succ]
          have gs0_x8 : w.heap.size < x8.heap.size := y0
          have gs1_x8 : w.heap.size + 1 < x8.heap.size := y1
          have gs2_x8 : x6.heap.size < x8.heap.size := y2
          clear y0 y1 y2
          refine anyB_world (fun wx => Bxs w wx [(w.heap.size, 24, [.int .i64 su2, .int .i64 la, .int .i64 le]), (w.heap.size + 1, 26, [.int .i64 sp, .int .i64 kp2, .int .i64 ki2, .int .i64 kd2, .int .i64 li2, .int .i64 st2, .int .i64 mo2]), (x6.heap.size, 24, [.int .i64 0, .int .i64 0, .int .i64 0]), (x8.heap.size, 24, [.int .i64 0, .int .i64 0, .int .i64 0])]) ((BX.out).alloc_ _ _ (by simp)) ?_
          clear BX hHeld
          rintro x9 bx
          have BX := Lib.hid bx
          clear bx
          have y0 : w.heap.size < x9.heap.size := (BX.out.bl 0 _ _ _ rfl).size
          have y1 : w.heap.size + 1 < x9.heap.size := (BX.out.bl 1 _ _ _ rfl).size
          have y2 : x6.heap.size < x9.heap.size := (BX.out.bl 2 _ _ _ rfl).size
          have y3 : x8.heap.size < x9.heap.size := (BX.out.bl 3 _ _ _ rfl).size
          have hHeld := And.intro (BX.out.bl 0 _ _ _ rfl) (BX.out.bl 1 _ _ _ rfl)
          refine anyB_each (rs := [7]) hShut (by kernel_rfl) (by simp) ?_
          refine List.forall_mem_cons.2 ⟨fun hShut => wpOp_step rfl (fun K hK => ?_), fun _ h => by cases h⟩
          · rw [if_pos (by rfl)]
            refine wp_enter (by go_simp; exact ⟨rfl, rfl⟩) ?_
            refine (psamp_lit su2 la le sp kp2 ki2 kd2 li2 st2 mo2 u f1 f2 f3 HY _ SK0.out.u0 SK0.out.u1 la0 la1 le0 le1 sp0 sp1 PO.out.kp0 PO.out.kp1 PO.out.ki0 PO.out.ki1 PO.out.kd0 PO.out.kd1 PO.out.li0 PO.out.li1 PO.out.st0 PO.out.st1 PO.out.mo0 PO.out.mo1 u0 u1).mono ?_
            rintro e x10 ⟨rfl, hbn⟩
            have bx := BX.out.below hbn
            clear y0 y1 y2 y3
            clear BX hbn hHeld
            have BX := Lib.hid bx
            clear bx
            have y0 : w.heap.size < x10.heap.size := (BX.out.bl 0 _ _ _ rfl).size
            have y1 : w.heap.size + 1 < x10.heap.size := (BX.out.bl 1 _ _ _ rfl).size
            have y2 : x6.heap.size < x10.heap.size := (BX.out.bl 2 _ _ _ rfl).size
            have y3 : x8.heap.size < x10.heap.size := (BX.out.bl 3 _ _ _ rfl).size
            have hHeld := And.intro (BX.out.bl 0 _ _ _ rfl) (BX.out.bl 1 _ _ _ rfl)
            refine ⟨_, rfl, ?_⟩
            refine hK _ _ ⟨fun _ => hHeld, ?_⟩
            clear hK K
            try simp only [Act.put, List.getElem_toArray, List.getElem_cons_zero, List.getElem_cons_succ, List.setIfInBounds_toArray, List.set_cons_zero, List.set_cons_succ]
            refine anyB_each (rs := [10]) hShut (by kernel_rfl) (by simp) ?_
            refine List.forall_mem_cons.2 ⟨fun hShut => wpOp_step rfl (fun K hK => ?_), fun _ h => by cases h⟩
            · have p2_0 : x10.cell? ⟨x6.heap.size, 0, none⟩ = some (.int .i64 0) := (BX.out.bl 2 _ _ _ rfl).val rfl
              have p2_1 : x10.cell? ⟨x6.heap.size, 1, none⟩ = some (.int .i64 0) := (BX.out.bl 2 _ _ _ rfl).val rfl
              have p2_2 : x10.cell? ⟨x6.heap.size, 2, none⟩ = some (.int .i64 0) := (BX.out.bl 2 _ _ _ rfl).val rfl
              have z2 : ∀ k, x10.frozen? ⟨x6.heap.size, k, none⟩ = false := (BX.out.bl 2 _ _ _ rfl).free
              go_simp
              refine unheld hK (by kernel_rfl) ?_
              clear hK K
              try simp only [Act.put, List.getElem_toArray, List.getElem_cons_zero, List.getElem_cons_succ, List.setIfInBounds_toArray, List.set_cons_zero, List.set_cons_succ]
              clear y0 y1 y2 y3 p2_0 p2_1 p2_2 z2
              refine anyB_world (fun wx => Bxs w wx [(w.heap.size, 24, [.int .i64 su2, .int .i64 la, .int .i64 le]), (w.heap.size + 1, 26, [.int .i64 sp, .int .i64 kp2, .int .i64 ki2, .int .i64 kd2, .int .i64 li2, .int .i64 st2, .int .i64 mo2]), (x6.heap.size, 24, [.int .i64 c1, .int .i64 c2, .int .i64 c3]), (x8.heap.size, 24, [.int .i64 0, .int .i64 0, .int .i64 0])]) ((((BX.out).set_ 2 0 rfl _).set_ 2 1 rfl _).set_ 2 2 rfl _) ?_
              clear BX hHeld
              rintro x11 bx
              have BX := Lib.hid bx
              clear bx
              have y0 : w.heap.size < x11.heap.size := (BX.out.bl 0 _ _ _ rfl).size
              have y1 : w.heap.size + 1 < x11.heap.size := (BX.out.bl 1 _ _ _ rfl).size
              have y2 : x6.heap.size < x11.heap.size := (BX.out.bl 2 _ _ _ rfl).size
              have y3 : x8.heap.size < x11.heap.size := (BX.out.bl 3 _ _ _ rfl).size
              refine anyB_each (rs := [11]) hShut (by kernel_rfl) (by simp) ?_
              refine List.forall_mem_cons.2 ⟨fun hShut => wpOp_step rfl (fun K hK => ?_), fun _ h => by cases h⟩
              · have p3_0 : x11.cell? ⟨x8.heap.size, 0, none⟩ = some (.int .i64 0) := (BX.out.bl 3 _ _ _ rfl).val rfl
                have p3_1 : x11.cell? ⟨x8.heap.size, 1, none⟩ = some (.int .i64 0) := (BX.out.bl 3 _ _ _ rfl).val rfl
                have p3_2 : x11.cell? ⟨x8.heap.size, 2, none⟩ = some (.int .i64 0) := (BX.out.bl 3 _ _ _ rfl).val rfl
                have z3 : ∀ k, x11.frozen? ⟨x8.heap.size, k, none⟩ = false := (BX.out.bl 3 _ _ _ rfl).free
                go_simp
                refine unheld hK (by kernel_rfl) ?_
                clear hK K
                try simp only [Act.put, List.getElem_toArray, List.getElem_cons_zero, List.getElem_cons_succ, List.setIfInBounds_toArray, List.set_cons_zero, List.set_cons_succ]
                clear y0 y1 y2 y3 p3_0 p3_1 p3_2 z3
                refine anyB_world (fun wx => Bxs w wx [(w.heap.size, 24, [.int .i64 su2, .int .i64 la, .int .i64 le]), (w.heap.size + 1, 26, [.int .i64 sp, .int .i64 kp2, .int .i64 ki2, .int .i64 kd2, .int .i64 li2, .int .i64 st2, .int .i64 mo2]), (x6.heap.size, 24, [.int .i64 c1, .int .i64 c2, .int .i64 c3]), (x8.heap.size, 24, [.int .i64 f1, .int .i64 f2, .int .i64 f3])]) ((((BX.out).set_ 3 0 rfl _).set_ 3 1 rfl _).set_ 3 2 rfl _) ?_
                clear BX
                rintro x12 bx
                have BX := Lib.hid bx
                clear bx
                have y0 : w.heap.size < x12.heap.size := (BX.out.bl 0 _ _ _ rfl).size
                have y1 : w.heap.size + 1 < x12.heap.size := (BX.out.bl 1 _ _ _ rfl).size
                have y2 : x6.heap.size < x12.heap.size := (BX.out.bl 2 _ _ _ rfl).size
                have y3 : x8.heap.size < x12.heap.size := (BX.out.bl 3 _ _ _ rfl).size
                clear y0 y1 y2 y3
                have p2_0 : x12.cell? ⟨x6.heap.size, 0, none⟩ = some (.int .i64 c1) := (BX.out.bl 2 _ _ _ rfl).val rfl
                have p2_1 : x12.cell? ⟨x6.heap.size, 1, none⟩ = some (.int .i64 c2) := (BX.out.bl 2 _ _ _ rfl).val rfl
                have p2_2 : x12.cell? ⟨x6.heap.size, 2, none⟩ = some (.int .i64 c3) := (BX.out.bl 2 _ _ _ rfl).val rfl
                have z2 : ∀ k, x12.frozen? ⟨x6.heap.size, k, none⟩ = false := (BX.out.bl 2 _ _ _ rfl).free
                have y2 : x6.heap.size < x12.heap.size := (BX.out.bl 2 _ _ _ rfl).size
                have p3_0 : x12.cell? ⟨x8.heap.size, 0, none⟩ = some (.int .i64 f1) := (BX.out.bl 3 _ _ _ rfl).val rfl
                have p3_1 : x12.cell? ⟨x8.heap.size, 1, none⟩ = some (.int .i64 f2) := (BX.out.bl 3 _ _ _ rfl).val rfl
                have p3_2 : x12.cell? ⟨x8.heap.size, 2, none⟩ = some (.int .i64 f3) := (BX.out.bl 3 _ _ _ rfl).val rfl
                have z3 : ∀ k, x12.frozen? ⟨x8.heap.size, k, none⟩ = false := (BX.out.bl 3 _ _ _ rfl).free
                have y3 : x8.heap.size < x12.heap.size := (BX.out.bl 3 _ _ _ rfl).size
                refine anyB_done (by kernel_rfl) ?_ _
                refine NoPanic.normal ?_
                go_wp2_with fail
                refine bodyPost_ret (v := .bool true) (by simp [results, Try.results6, go_sem, *]) rfl ⟨rfl, BX.out.be⟩
      refine List.forall_mem_cons.2 ⟨fun hShut => wpOp_step rfl (fun K hK => ?_), fun _ h => by cases h⟩
      · go_simp
        refine hK _ _ ⟨fun _ => ⟨(BX.out.bl 0 _ _ _ rfl).alloc_ _, (BX.out.bl 1 _ _ _ rfl).alloc_ _⟩, ?_⟩
        clear hK K
        try simp only [Act.put, List.getElem_toArray, List.getElem_cons_zero, List.getElem_cons_succ, List.setIfInBounds_toArray, List.set_cons_zero, List.set_cons_succ]
        have gs0_x7 : w.heap.size < x7.heap.size := y0
        have gs1_x7 : w.heap.size + 1 < x7.heap.size := y1
        have gs2_x7 : x6.heap.size < x7.heap.size := y2
        clear y0 y1 y2
        refine anyB_world (fun wx => Bxs w wx [(w.heap.size, 24, [.int .i64 su2, .int .i64 la, .int .i64 le]), (w.heap.size + 1, 26, [.int .i64 sp, .int .i64 kp2, .int .i64 ki2, .int .i64 kd2, .int .i64 li2, .int .i64 st2, .int .i64 mo2]), (x6.heap.size, 24, [.int .i64 0, .int .i64 0, .int .i64 0]), (x7.heap.size, 24, [.int .i64 0, .int .i64 0, .int .i64 0])]) ((BX.out).alloc_ _ _ (by simp)) ?_
        clear BX hHeld
        rintro x8 bx
        have BX := Lib.hid bx
        clear bx
        have y0 : w.heap.size < x8.heap.size := (BX.out.bl 0 _ _ _ rfl).size
        have y1 : w.heap.size + 1 < x8.heap.size := (BX.out.bl 1 _ _ _ rfl).size
        have y2 : x6.heap.size < x8.heap.size := (BX.out.bl 2 _ _ _ rfl).size
        have y3 : x7.heap.size < x8.heap.size := (BX.out.bl 3 _ _ _ rfl).size
        have hHeld := And.intro (BX.out.bl 0 _ _ _ rfl) (BX.out.bl 1 _ _ _ rfl)
        refine anyB_each (rs := [3]) hShut (by kernel_rfl) (by simp) ?_
        refine List.forall_mem_cons.2 ⟨fun hShut => wpOp_step rfl (fun K hK => ?_), fun _ h => by cases h⟩
        · rw [if_pos (by rfl)]
          refine wp_enter (by go_simp; exact ⟨rfl, rfl⟩) ?_
          refine (psamp_lit su2 la le sp kp2 ki2 kd2 li2 st2 mo2 v c1 c2 c3 HZ _ SK0.out.u0 SK0.out.u1 la0 la1 le0 le1 sp0 sp1 PO.out.kp0 PO.out.kp1 PO.out.ki0 PO.out.ki1 PO.out.kd0 PO.out.kd1 PO.out.li0 PO.out.li1 PO.out.st0 PO.out.st1 PO.out.mo0 PO.out.mo1 v0 v1).mono ?_
          rintro e x9 ⟨rfl, hbn⟩
          have bx := BX.out.below hbn
          clear y0 y1 y2 y3
          clear BX hbn hHeld
          have BX := Lib.hid bx
          clear bx
          have y0 : w.heap.size < x9.heap.size := (BX.out.bl 0 _ _ _ rfl).size
          have y1 : w.heap.size + 1 < x9.heap.size := (BX.out.bl 1 _ _ _ rfl).size
          have y2 : x6.heap.size < x9.heap.size := (BX.out.bl 2 _ _ _ rfl).size
          have y3 : x7.heap.size < x9.heap.size := (BX.out.bl 3 _ _ _ rfl).size
          have hHeld := And.intro (BX.out.bl 0 _ _ _ rfl) (BX.out.bl 1 _ _ _ rfl)
          refine ⟨_, rfl, ?_⟩
          refine hK _ _ ⟨fun _ => hHeld, ?_⟩
          clear hK K
          try simp only [Act.put, List.getElem_toArray, List.getElem_cons_zero, List.getElem_cons_succ, List.setIfInBounds_toArray, List.set_cons_zero, List.set_cons_succ]
          refine anyB_each (rs := [7]) hShut (by kernel_rfl) (by simp) ?_
          refine List.forall_mem_cons.2 ⟨fun hShut => wpOp_step rfl (fun K hK => ?_), fun _ h => by cases h⟩
          · rw [if_pos (by rfl)]
            refine wp_enter (by go_simp; exact ⟨rfl, rfl⟩) ?_
            refine (psamp_lit su2 la le sp kp2 ki2 kd2 li2 st2 mo2 u f1 f2 f3 HY _ SK0.out.u0 SK0.out.u1 la0 la1 le0 le1 sp0 sp1 PO.out.kp0 PO.out.kp1 PO.out.ki0 PO.out.ki1 PO.out.kd0 PO.out.kd1 PO.out.li0 PO.out.li1 PO.out.st0 PO.out.st1 PO.out.mo0 PO.out.mo1 u0 u1).mono ?_
            rintro e x10 ⟨rfl, hbn⟩
            have bx := BX.out.below hbn
            clear y0 y1 y2 y3
            clear BX hbn hHeld
            have BX := Lib.hid bx
            clear bx
            have y0 : w.heap.size < x10.heap.size := (BX.out.bl 0 _ _ _ rfl).size
            have y1 : w.heap.size + 1 < x10.heap.size := (BX.out.bl 1 _ _ _ rfl).size
            have y2 : x6.heap.size < x10.heap.size := (BX.out.bl 2 _ _ _ rfl).size
            have y3 : x7.heap.size < x10.heap.size := (BX.out.bl 3 _ _ _ rfl).size
            have hHeld := And.intro (BX.out.bl 0 _ _ _ rfl) (BX.out.bl 1 _ _ _ rfl)
            refine ⟨_, rfl, ?_⟩
            refine hK _ _ ⟨fun _ => hHeld, ?_⟩
            clear hK K
            try simp only [Act.put, List.getElem_toArray, List.getElem_cons_zero, List.getElem_cons_succ, List.setIfInBounds_toArray, List.set_cons_zero, List.set_cons_succ]
            refine anyB_each (rs := [10]) hShut (by kernel_rfl) (by simp) ?_
            refine List.forall_mem_cons.2 ⟨fun hShut => wpOp_step rfl (fun K hK => ?_), fun _ h => by cases h⟩
            · have p2_0 : x10.cell? ⟨x6.heap.size, 0, none⟩ = some (.int .i64 0) := (BX.out.bl 2 _ _ _ rfl).val rfl
              have p2_1 : x10.cell? ⟨x6.heap.size, 1, none⟩ = some (.int .i64 0) := (BX.out.bl 2 _ _ _ rfl).val rfl
              have p2_2 : x10.cell? ⟨x6.heap.size, 2, none⟩ = some (.int .i64 0) := (BX.out.bl 2 _ _ _ rfl).val rfl
              have z2 : ∀ k, x10.frozen? ⟨x6.heap.size, k, none⟩ = false := (BX.out.bl 2 _ _ _ rfl).free
              go_simp
              refine unheld hK (by kernel_rfl) ?_
              clear hK K
              try simp only [Act.put, List.getElem_toArray, List.getElem_cons_zero, List.getElem_cons_succ, List.setIfInBounds_toArray, List.set_cons_zero, List.set_cons_succ]
              clear y0 y1 y2 y3 p2_0 p2_1 p2_2 z2
              refine anyB_world (fun wx => Bxs w wx [(w.heap.size, 24, [.int .i64 su2, .int .i64 la, .int .i64 le]), (w.heap.size + 1, 26, [.int .i64 sp, .int .i64 kp2, .int .i64 ki2, .int .i64 kd2, .int .i64 li2, .int .i64 st2, .int .i64 mo2]), (x6.heap.size, 24, [.int .i64 c1, .int .i64 c2, .int .i64 c3]), (x7.heap.size, 24, [.int .i64 0, .int .i64 0, .int .i64 0])]) ((((BX.out).set_ 2 0 rfl _).set_ 2 1 rfl _).set_ 2 2 rfl _) ?_
              clear BX hHeld
              rintro x11 bx
              have BX := Lib.hid bx
              clear bx
              have y0 : w.heap.size < x11.heap.size := (BX.out.bl 0 _ _ _ rfl).size
              have y1 : w.heap.size + 1 < x11.heap.size := (BX.out.bl 1 _ _ _ rfl).size
              have y2 : x6.heap.size < x11.heap.size := (BX.out.bl 2 _ _ _ rfl).size
              have y3 : x7.heap.size < x11.heap.size := (BX.out.bl 3 _ _ _ rfl).size
              refine anyB_each (rs := [11]) hShut (by kernel_rfl) (by simp) ?_
              refine List.forall_mem_cons.2 ⟨fun hShut => wpOp_step rfl (fun K hK => ?_), fun _ h => by cases h⟩
              · have p3_0 : x11.cell? ⟨x7.heap.size, 0, none⟩ = some (.int .i64 0) := (BX.out.bl 3 _ _ _ rfl).val rfl
                have p3_1 : x11.cell? ⟨x7.heap.size, 1, none⟩ = some (.int .i64 0) := (BX.out.bl 3 _ _ _ rfl).val rfl
                have p3_2 : x11.cell? ⟨x7.heap.size, 2, none⟩ = some (.int .i64 0) := (BX.out.bl 3 _ _ _ rfl).val rfl
                have z3 : ∀ k, x11.frozen? ⟨x7.heap.size, k, none⟩ = false := (BX.out.bl 3 _ _ _ rfl).free
                go_simp
                refine unheld hK (by kernel_rfl) ?_
                clear hK K
                try simp only [Act.put, List.getElem_toArray, List.getElem_cons_zero, List.getElem_cons_succ, List.setIfInBounds_toArray, List.set_cons_zero, List.set_cons_succ]
                clear y0 y1 y2 y3 p3_0 p3_1 p3_2 z3
                refine anyB_world (fun wx => Bxs w wx [(w.heap.size, 24, [.int .i64 su2, .int .i64 la, .int .i64 le]), (w.heap.size + 1, 26, [.int .i64 sp, .int .i64 kp2, .int .i64 ki2, .int .i64 kd2, .int .i64 li2, .int .i64 st2, .int .i64 mo2]), (x6.heap.size, 24, [.int .i64 c1, .int .i64 c2, .int .i64 c3]), (x7.heap.size, 24, [.int .i64 f1, .int .i64 f2, .int .i64 f3])]) ((((BX.out).set_ 3 0 rfl _).set_ 3 1 rfl _).set_ 3 2 rfl _) ?_
                clear BX
                rintro x12 bx
                have BX := Lib.hid bx
                clear bx
                have y0 : w.heap.size < x12.heap.size := (BX.out.bl 0 _ _ _ rfl).size
                have y1 : w.heap.size + 1 < x12.heap.size := (BX.out.bl 1 _ _ _ rfl).size
                have y2 : x6.heap.size < x12.heap.size := (BX.out.bl 2 _ _ _ rfl).size
                have y3 : x7.heap.size < x12.heap.size := (BX.out.bl 3 _ _ _ rfl).size
                clear y0 y1 y2 y3
                have p2_0 : x12.cell? ⟨x6.heap.size, 0, none⟩ = some (.int .i64 c1) := (BX.out.bl 2 _ _ _ rfl).val rfl
                have p2_1 : x12.cell? ⟨x6.heap.size, 1, none⟩ = some (.int .i64 c2) := (BX.out.bl 2 _ _ _ rfl).val rfl
                have p2_2 : x12.cell? ⟨x6.heap.size, 2, none⟩ = some (.int .i64 c3) := (BX.out.bl 2 _ _ _ rfl).val rfl
                have z2 : ∀ k, x12.frozen? ⟨x6.heap.size, k, none⟩ = false := (BX.out.bl 2 _ _ _ rfl).free
                have y2 : x6.heap.size < x12.heap.size := (BX.out.bl 2 _ _ _ rfl).size
                have p3_0 : x12.cell? ⟨x7.heap.size, 0, none⟩ = some (.int .i64 f1) := (BX.out.bl 3 _ _ _ rfl).val rfl
                have p3_1 : x12.cell? ⟨x7.heap.size, 1, none⟩ = some (.int .i64 f2) := (BX.out.bl 3 _ _ _ rfl).val rfl
                have p3_2 : x12.cell? ⟨x7.heap.size, 2, none⟩ = some (.int .i64 f3) := (BX.out.bl 3 _ _ _ rfl).val rfl
                have z3 : ∀ k, x12.frozen? ⟨x7.heap.size, k, none⟩ = false := (BX.out.bl 3 _ _ _ rfl).free
                have y3 : x7.heap.size < x12.heap.size := (BX.out.bl 3 _ _ _ rfl).size
                refine anyB_done (by kernel_rfl) ?_ _
                refine NoPanic.normal ?_
                go_wp2_with fail
                refine bodyPost_ret (v := .bool true) (by simp [results, Try.results6, go_sem, *]) rfl ⟨rfl, BX.out.be⟩
    refine List.forall_mem_cons.2 ⟨fun hShut => wpOp_step rfl (fun K hK => ?_), fun _ h => by cases h⟩
    · go_simp
      refine hK _ _ ⟨fun _ => ⟨(BX.out.bl 0 _ _ _ rfl).alloc_ _, (BX.out.bl 1 _ _ _ rfl).alloc_ _⟩, ?_⟩
      clear hK K
      try simp only [Act.put, List.getElem_toArray, List.getElem_cons_zero, List.getElem_cons_succ, List.setIfInBounds_toArray, List.set_cons_zero, List.set_cons_succ]
      have gs0_x6 : w.heap.size < x6.heap.size := y0
      have gs1_x6 : w.heap.size + 1 < x6.heap.size := y1
      clear y0 y1
      refine anyB_world (fun wx => Bxs w wx [(w.heap.size, 24, [.int .i64 su2, .int .i64 la, .int .i64 le]), (w.heap.size + 1, 26, [.int .i64 sp, .int .i64 kp2, .int .i64 ki2, .int .i64 kd2, .int .i64 li2, .int .i64 st2, .int .i64 mo2]), (x6.heap.size, 24, [.int .i64 0, .int .i64 0, .int .i64 0])]) ((BX.out).alloc_ _ _ (by simp)) ?_
      clear BX hHeld
      rintro x7 bx
      have BX := Lib.hid bx
      clear bx
      have y0 : w.heap.size < x7.heap.size := (BX.out.bl 0 _ _ _ rfl).size
      have y1 : w.heap.size + 1 < x7.heap.size := (BX.out.bl 1 _ _ _ rfl).size
      have y2 : x6.heap.size < x7.heap.size := (BX.out.bl 2 _ _ _ rfl).size
      have hHeld := And.intro (BX.out.bl 0 _ _ _ rfl) (BX.out.bl 1 _ _ _ rfl)
      refine anyB_each (rs := [3, 8]) hShut (by kernel_rfl) (by simp) ?_
      refine List.forall_mem_cons.2 ⟨fun hShut => wpOp_step rfl (fun K hK => ?_), ?_⟩
      · rw [if_pos (by rfl)]
        refine wp_enter (by go_simp; exact ⟨rfl, rfl⟩) ?_
        refine (psamp_lit su2 la le sp kp2 ki2 kd2 li2 st2 mo2 v c1 c2 c3 HZ _ SK0.out.u0 SK0.out.u1 la0 la1 le0 le1 sp0 sp1 PO.out.kp0 PO.out.kp1 PO.out.ki0 PO.out.ki1 PO.out.kd0 PO.out.kd1 PO.out.li0 PO.out.li1 PO.out.st0 PO.out.st1 PO.out.mo0 PO.out.mo1 v0 v1).mono ?_
        rintro e x8 ⟨rfl, hbn⟩
        have bx := BX.out.below hbn
        clear y0 y1 y2
        clear BX hbn hHeld
        have BX := Lib.hid bx
        clear bx
        have y0 : w.heap.size < x8.heap.size := (BX.out.bl 0 _ _ _ rfl).size
        have y1 : w.heap.size + 1 < x8.heap.size := (BX.out.bl 1 _ _ _ rfl).size
        have y2 : x6.heap.size < x8.heap.size := (BX.out.bl 2 _ _ _ rfl).size
        have hHeld := And.intro (BX.out.bl 0 _ _ _ rfl) (BX.out.bl 1 _ _ _ rfl)
        refine ⟨_, rfl, ?_⟩
        refine hK _ _ ⟨fun _ => hHeld, ?_⟩
        clear hK K
        try simp only [Act.put, List.getElem_toArray, List.getElem_cons_zero, List.getElem_cons_succ, List.setIfInBounds_toArray, List.set_cons_zero, List.set_cons_succ]
        refine anyB_each (rs := [7, 8]) hShut (by kernel_rfl) (by simp) ?_
        refine List.forall_mem_cons.2 ⟨fun hShut => wpOp_step rfl (fun K hK => ?_), ?_⟩
        · rw [if_pos (by rfl)]
          refine wp_enter (by go_simp; exact ⟨rfl, rfl⟩) ?_
          refine (psamp_lit su2 la le sp kp2 ki2 kd2 li2 st2 mo2 u f1 f2 f3 HY _ SK0.out.u0 SK0.out.u1 la0 la1 le0 le1 sp0 sp1 PO.out.kp0 PO.out.kp1 PO.out.ki0 PO.out.ki1 PO.out.kd0 PO.out.kd1 PO.out.li0 PO.out.li1 PO.out.st0 PO.out.st1 PO.out.mo0 PO.out.mo1 u0 u1).mono ?_
          rintro e x9 ⟨rfl, hbn⟩
          have bx := BX.out.below hbn
          clear y0 y1 y2
          clear BX hbn hHeld
          have BX := Lib.hid bx
          clear bx
          have y0 : w.heap.size < x9.heap.size := (BX.out.bl 0 _ _ _ rfl).size
          have y1 : w.heap.size + 1 < x9.heap.size := (BX.out.bl 1 _ _ _ rfl).size
          have y2 : x6.heap.size < x9.heap.size := (BX.out.bl 2 _ _ _ rfl).size
          have hHeld := And.intro (BX.out.bl 0 _ _ _ rfl) (BX.out.bl 1 _ _ _ rfl)
          refine ⟨_, rfl, ?_⟩
          refine hK _ _ ⟨fun _ => hHeld, ?_⟩
          clear hK K
          try simp only [Act.put, List.getElem_toArray, List.getElem_cons_zero, List.getElem_cons_succ, List.setIfInBounds_toArray, List.set_cons_zero, List.set_cons_succ]
          refine anyB_each (rs := [8]) hShut (by kernel_rfl) (by simp) ?_
          refine List.forall_mem_cons.2 ⟨fun hShut => wpOp_step rfl (fun K hK => ?_), fun _ h => by cases h⟩
          · go_simp
            refine hK _ _ ⟨fun _ => ⟨(BX.out.bl 0 _ _ _ rfl).alloc_ _, (BX.out.bl 1 _ _ _ rfl).alloc_ _⟩, ?_⟩
            clear hK K
            try simp only [Act.put, List.getElem_toArray, List.getElem_cons_zero, List.getElem_cons_succ, List.setIfInBounds_toArray, List.set_cons_zero, List.set_cons_succ]
            have gs0_x9 : w.heap.size < x9.heap.size := y0
            have gs1_x9 : w.heap.size + 1 < x9.heap.size := y1
            have gs2_x9 : x6.heap.size < x9.heap.size := y2
            clear y0 y1 y2
            refine anyB_world (fun wx => Bxs w wx [(w.heap.size, 24, [.int .i64 su2, .int .i64 la, .int .i64 le]), (w.heap.size + 1, 26, [.int .i64 sp, .int .i64 kp2, .int .i64 ki2, .int .i64 kd2, .int .i64 li2, .int .i64 st2, .int .i64 mo2]), (x6.heap.size, 24, [.int .i64 0, .int .i64 0, .int .i64 0]), (x9.heap.size, 24, [.int .i64 0, .int .i64 0, .int .i64 0])]) ((BX.out).alloc_ _ _ (by simp)) ?_
            clear BX hHeld
            rintro x10 bx
            have BX := Lib.hid bx
            clear bx
            have y0 : w.heap.size < x10.heap.size := (BX.out.bl 0 _ _ _ rfl).size
            have y1 : w.heap.size + 1 < x10.heap.size := (BX.out.bl 1 _ _ _ rfl).size
            have y2 : x6.heap.size < x10.heap.size := (BX.out.bl 2 _ _ _ rfl).size
            have y3 : x9.heap.size < x10.heap.size := (BX.out.bl 3 _ _ _ rfl).size
            have hHeld := And.intro (BX.out.bl 0 _ _ _ rfl) (BX.out.bl 1 _ _ _ rfl)
            refine anyB_each (rs := [10]) hShut (by kernel_rfl) (by simp) ?_
            refine List.forall_mem_cons.2 ⟨fun hShut => wpOp_step rfl (fun K hK => ?_), fun _ h => by cases h⟩
            · have p3_0 : x10.cell? ⟨x9.heap.size, 0, none⟩ = some (.int .i64 0) := (BX.out.bl 3 _ _ _ rfl).val rfl
              have p3_1 : x10.cell? ⟨x9.heap.size, 1, none⟩ = some (.int .i64 0) := (BX.out.bl 3 _ _ _ rfl).val rfl
              have p3_2 : x10.cell? ⟨x9.heap.size, 2, none⟩ = some (.int .i64 0) := (BX.out.bl 3 _ _ _ rfl).val rfl
              have z3 : ∀ k, x10.frozen? ⟨x9.heap.size, k, none⟩ = false := (BX.out.bl 3 _ _ _ rfl).free
              go_simp
              refine unheld hK (by kernel_rfl) ?_
              clear hK K
              try simp only [Act.put, List.getElem_toArray, List.getElem_cons_zero, List.getElem_cons_succ, List.setIfInBounds_toArray, List.set_cons_zero, List.set_cons_succ]
              clear y0 y1 y2 y3 p3_0 p3_1 p3_2 z3
              refine anyB_world (fun wx => Bxs w wx [(w.heap.size, 24, [.int .i64 su2, .int .i64 la, .int .i64 le]), (w.heap.size + 1, 26, [.int .i64 sp, .int .i64 kp2, .int .i64 ki2, .int .i64 kd2, .int .i64 li2, .int .i64 st2, .int .i64 mo2]), (x6.heap.size, 24, [.int .i64 0, .int .i64 0, .int .i64 0]), (x9.heap.size, 24, [.int .i64 c1, .int .i64 c2, .int .i64 c3])]) ((((BX.out).set_ 3 0 rfl _).set_ 3 1 rfl _).set_ 3 2 rfl _) ?_
              clear BX hHeld
              rintro x11 bx
              have BX := Lib.hid bx
              clear bx
              have y0 : w.heap.size < x11.heap.size := (BX.out.bl 0 _ _ _ rfl).size
              have y1 : w.heap.size + 1 < x11.heap.size := (BX.out.bl 1 _ _ _ rfl).size
              have y2 : x6.heap.size < x11.heap.size := (BX.out.bl 2 _ _ _ rfl).size
              have y3 : x9.heap.size < x11.heap.size := (BX.out.bl 3 _ _ _ rfl).size
              refine anyB_each (rs := [11]) hShut (by kernel_rfl) (by simp) ?_
              refine List.forall_mem_cons.2 ⟨fun hShut => wpOp_step rfl (fun K hK => ?_), fun _ h => by cases h⟩
              · have p2_0 : x11.cell? ⟨x6.heap.size, 0, none⟩ = some (.int .i64 0) := (BX.out.bl 2 _ _ _ rfl).val rfl
                have p2_1 : x11.cell? ⟨x6.heap.size, 1, none⟩ = some (.int .i64 0) := (BX.out.bl 2 _ _ _ rfl).val rfl
                have p2_2 : x11.cell? ⟨x6.heap.size, 2, none⟩ = some (.int .i64 0) := (BX.out.bl 2 _ _ _ rfl).val rfl
                have z2 : ∀ k, x11.frozen? ⟨x6.heap.size, k, none⟩ = false := (BX.out.bl 2 _ _ _ rfl).free
                go_simp
                refine unheld hK (by kernel_rfl) ?_
                clear hK K
                try simp only [Act.put, List.getElem_toArray, List.getElem_cons_zero, List.getElem_cons_succ, List.setIfInBounds_toArray, List.set_cons_zero, List.set_cons_succ]
                clear y0 y1 y2 y3 p2_0 p2_1 p2_2 z2
                refine anyB_world (fun wx => Bxs w wx [(w.heap.size, 24, [.int .i64 su2, .int .i64 la, .int .i64 le]), (w.heap.size + 1, 26, [.int .i64 sp, .int .i64 kp2, .int .i64 ki2, .int .i64 kd2, .int .i64 li2, .int .i64 st2, .int .i64 mo2]), (x6.heap.size, 24, [.int .i64 f1, .int .i64 f2, .int .i64 f3]), (x9.heap.size, 24, [.int .i64 c1, .int .i64 c2, .int .i64 c3])]) ((((BX.out).set_ 2 0 rfl _).set_ 2 1 rfl _).set_ 2 2 rfl _) ?_
                clear BX
                rintro x12 bx
                have BX := Lib.hid bx
                clear bx
                have y0 : w.heap.size < x12.heap.size := (BX.out.bl 0 _ _ _ rfl).size
                have y1 : w.heap.size + 1 < x12.heap.size := (BX.out.bl 1 _ _ _ rfl).size
                have y2 : x6.heap.size < x12.heap.size := (BX.out.bl 2 _ _ _ rfl).size
                have y3 : x9.heap.size < x12.heap.size := (BX.out.bl 3 _ _ _ rfl).size
                clear y0 y1 y2 y3
                have p2_0 : x12.cell? ⟨x6.heap.size, 0, none⟩ = some (.int .i64 f1) := (BX.out.bl 2 _ _ _ rfl).val rfl
                have p2_1 : x12.cell? ⟨x6.heap.size, 1, none⟩ = some (.int .i64 f2) := (BX.out.bl 2 _ _ _ rfl).val rfl
                have p2_2 : x12.cell? ⟨x6.heap.size, 2, none⟩ = some (.int .i64 f3) := (BX.out.bl 2 _ _ _ rfl).val rfl
                have z2 : ∀ k, x12.frozen? ⟨x6.heap.size, k, none⟩ = false := (BX.out.bl 2 _ _ _ rfl).free
                have y2 : x6.heap.size < x12.heap.size := (BX.out.bl 2 _ _ _ rfl).size
                have p3_0 : x12.cell? ⟨x9.heap.size, 0, none⟩ = some (.int .i64 c1) := (BX.out.bl 3 _ _ _ rfl).val rfl
                have p3_1 : x12.cell? ⟨x9.heap.size, 1, none⟩ = some (.int .i64 c2) := (BX.out.bl 3 _ _ _ rfl).val rfl
                have p3_2 : x12.cell? ⟨x9.heap.size, 2, none⟩ = some (.int .i64 c3) := (BX.out.bl 3 _ _ _ rfl).val rfl
                have z3 : ∀ k, x12.frozen? ⟨x9.heap.size, k, none⟩ = false := (BX.out.bl 3 _ _ _ rfl).free
                have y3 : x9.heap.size < x12.heap.size := (BX.out.bl 3 _ _ _ rfl).size
                refine anyB_done (by kernel_rfl) ?_ _
                refine NoPanic.normal ?_
                go_wp2_with fail
                refine bodyPost_ret (v := .bool true) (by simp [results, Try.results6, go_sem, *]) rfl ⟨rfl, BX.out.be⟩
        refine List.forall_mem_cons.2 ⟨fun hShut => wpOp_step rfl (fun K hK => ?_), fun _ h => by cases h⟩
        · go_simp
          refine hK _ _ ⟨fun _ => ⟨(BX.out.bl 0 _ _ _ rfl).alloc_ _, (BX.out.bl 1 _ _ _ rfl).alloc_ _⟩, ?_⟩
          clear hK K
          try simp only [Act.put, List.getElem_toArray, List.getElem_cons_zero, List.getElem_cons_succ, List.setIfInBounds_toArray, List.set_cons_zero, List.set_cons_succ]
          have gs0_x8 : w.heap.size < x8.heap.size := y0
          have gs1_x8 : w.heap.size + 1 < x8.heap.size := y1
          have gs2_x8 : x6.heap.size < x8.heap.size := y2
          clear y0 y1 y2
          refine anyB_world (fun wx => Bxs w wx [(w.heap.size, 24, [.int .i64 su2, .int .i64 la, .int .i64 le]), (w.heap.size + 1, 26, [.int .i64 sp, .int .i64 kp2, .int .i64 ki2, .int .i64 kd2, .int .i64 li2, .int .i64 st2, .int .i64 mo2]), (x6.heap.size, 24, [.int .i64 0, .int .i64 0, .int .i64 0]), (x8.heap.size, 24, [.int .i64 0, .int .i64 0, .int .i64 0])]) ((BX.out).alloc_ _ _ (by simp)) ?_
          clear BX hHeld
          rintro x9 bx
          have BX := Lib.hid bx
          clear bx
          have y0 : w.heap.size < x9.heap.size := (BX.out.bl 0 _ _ _ rfl).size
          have y1 : w.heap.size + 1 < x9.heap.size := (BX.out.bl 1 _ _ _ rfl).size
          have y2 : x6.heap.size < x9.heap.size := (BX.out.bl 2 _ _ _ rfl).size
          have y3 : x8.heap.size < x9.heap.size := (BX.out.bl 3 _ _ _ rfl).size
          have hHeld := And.intro (BX.out.bl 0 _ _ _ rfl) (BX.out.bl 1 _ _ _ rfl)
          refine anyB_each (rs := [7]) hShut (by kernel_rfl) (by simp) ?_
          refine List.forall_mem_cons.2 ⟨fun hShut => wpOp_step rfl (fun K hK => ?_), fun _ h => by cases h⟩
          · rw [if_pos (by rfl)]
            refine wp_enter (by go_simp; exact ⟨rfl, rfl⟩) ?_
            refine (psamp_lit su2 la le sp kp2 ki2 kd2 li2 st2 mo2 u f1 f2 f3 HY _ SK0.out.u0 SK0.out.u1 la0 la1 le0 le1 sp0 sp1 PO.out.kp0 PO.out.kp1 PO.out.ki0 PO.out.ki1 PO.out.kd0 PO.out.kd1 PO.out.li0 PO.out.li1 PO.out.st0 PO.out.st1 PO.out.mo0 PO.out.mo1 u0 u1).mono ?_
            rintro e x10 ⟨rfl, hbn⟩
            have bx := BX.out.below hbn
            clear y0 y1 y2 y3
            clear BX hbn hHeld
            have BX := Lib.hid bx
            clear bx
            have y0 : w.heap.size < x10.heap.size := (BX.out.bl 0 _ _ _ rfl).size
            have y1 : w.heap.size + 1 < x10.heap.size := (BX.out.bl 1 _ _ _ rfl).size
            have y2 : x6.heap.size < x10.heap.size := (BX.out.bl 2 _ _ _ rfl).size
            have y3 : x8.heap.size < x10.heap.size := (BX.out.bl 3 _ _ _ rfl).size
            have hHeld := And.intro (BX.out.bl 0 _ _ _ rfl) (BX.out.bl 1 _ _ _ rfl)
            refine ⟨_, rfl, ?_⟩
            refine hK _ _ ⟨fun _ => hHeld, ?_⟩
            clear hK K
            try simp only [Act.put, List.getElem_toArray, List.getElem_cons_zero, List.getElem_cons_succ, List.setIfInBounds_toArray, List.set_cons_zero, List.set_cons_succ]
            refine anyB_each (rs := [10]) hShut (by kernel_rfl) (by simp) ?_
            refine List.forall_mem_cons.2 ⟨fun hShut => wpOp_step rfl (fun K hK => ?_), fun _ h => by cases h⟩
            · have p3_0 : x10.cell? ⟨x8.heap.size, 0, none⟩ = some (.int .i64 0) := (BX.out.bl 3 _ _ _ rfl).val rfl
              have p3_1 : x10.cell? ⟨x8.heap.size, 1, none⟩ = some (.int .i64 0) := (BX.out.bl 3 _ _ _ rfl).val rfl
              have p3_2 : x10.cell? ⟨x8.heap.size, 2, none⟩ = some (.int .i64 0) := (BX.out.bl 3 _ _ _ rfl).val rfl
              have z3 : ∀ k, x10.frozen? ⟨x8.heap.size, k, none⟩ = false := (BX.out.bl 3 _ _ _ rfl).free
              go_simp
              refine unheld hK (by kernel_rfl) ?_
              clear hK K
              try simp only [Act.put, List.getElem_toArray, List.getElem_cons_zero, List.getElem_cons_succ, List.setIfInBounds_toArray, List.set_cons_zero, List.set_cons_succ]
              clear y0 y1 y2 y3 p3_0 p3_1 p3_2 z3
              refine anyB_world (fun wx => Bxs w wx [(w.heap.size, 24, [.int .i64 su2, .int .i64 la, .int .i64 le]), (w.heap.size + 1, 26, [.int .i64 sp, .int .i64 kp2, .int .i64 ki2, .int .i64 kd2, .int .i64 li2, .int .i64 st2, .int .i64 mo2]), (x6.heap.size, 24, [.int .i64 0, .int .i64 0, .int .i64 0]), (x8.heap.size, 24, [.int .i64 c1, .int .i64 c2, .int .i64 c3])]) ((((BX.out).set_ 3 0 rfl _).set_ 3 1 rfl _).set_ 3 2 rfl _) ?_
              clear BX hHeld
              rintro x11 bx
              have BX := Lib.hid bx
              clear bx
              have y0 : w.heap.size < x11.heap.size := (BX.out.bl 0 _ _ _ rfl).size
              have y1 : w.heap.size + 1 < x11.heap.size := (BX.out.bl 1 _ _ _ rfl).size
              have y2 : x6.heap.size < x11.heap.size := (BX.out.bl 2 _ _ _ rfl).size
              have y3 : x8.heap.size < x11.heap.size := (BX.out.bl 3 _ _ _ rfl).size
              refine anyB_each (rs := [11]) hShut (by kernel_rfl) (by simp) ?_
              refine List.forall_mem_cons.2 ⟨fun hShut => wpOp_step rfl (fun K hK => ?_), fun _ h => by cases h⟩
              · have p2_0 : x11.cell? ⟨x6.heap.size, 0, none⟩ = some (.int .i64 0) := (BX.out.bl 2 _ _ _ rfl).val rfl
                have p2_1 : x11.cell? ⟨x6.heap.size, 1, none⟩ = some (.int .i64 0) := (BX.out.bl 2 _ _ _ rfl).val rfl
                have p2_2 : x11.cell? ⟨x6.heap.size, 2, none⟩ = some (.int .i64 0) := (BX.out.bl 2 _ _ _ rfl).val rfl
                have z2 : ∀ k, x11.frozen? ⟨x6.heap.size, k, none⟩ = false := (BX.out.bl 2 _ _ _ rfl).free
                go_simp
                refine unheld hK (by kernel_rfl) ?_
                clear hK K
                try simp only [Act.put, List.getElem_toArray, List.getElem_cons_zero, List.getElem_cons_succ, List.setIfInBounds_toArray, List.set_cons_zero, List.set_cons_succ]
                clear y0 y1 y2 y3 p2_0 p2_1 p2_2 z2
                refine anyB_world (fun wx => Bxs w wx [(w.heap.size, 24, [.int .i64 su2, .int .i64 la, .int .i64 le]), (w.heap.size + 1, 26, [.int .i64 sp, .int .i64 kp2, .int .i64 ki2, .int .i64 kd2, .int .i64 li2, .int .i64 st2, .int .i64 mo2]), (x6.heap.size, 24, [.int .i64 f1, .int .i64 f2, .int .i64 f3]), (x8.heap.size, 24, [.int .i64 c1, .int .i64 c2, .int .i64 c3])]) ((((BX.out).set_ 2 0 rfl _).set_ 2 1 rfl _).set_ 2 2 rfl _) ?_
                clear BX
                rintro x12 bx
                have BX := Lib.hid bx
                clear bx
                have y0 : w.heap.size < x12.heap.size := (BX.out.bl 0 _ _ _ rfl).size
                have y1 : w.heap.size + 1 < x12.heap.size := (BX.out.bl 1 _ _ _ rfl).size
                have y2 : x6.heap.size < x12.heap.size := (BX.out.bl 2 _ _ _ rfl).size
                have y3 : x8.heap.size < x12.heap.size := (BX.out.bl 3 _ _ _ rfl).size
                clear y0 y1 y2 y3
                have p2_0 : x12.cell? ⟨x6.heap.size, 0, none⟩ = some (.int .i64 f1) := (BX.out.bl 2 _ _ _ rfl).val rfl
                have p2_1 : x12.cell? ⟨x6.heap.size, 1, none⟩ = some (.int .i64 f2) := (BX.out.bl 2 _ _ _ rfl).val rfl
                have p2_2 : x12.cell? ⟨x6.heap.size, 2, none⟩ = some (.int .i64 f3) := (BX.out.bl 2 _ _ _ rfl).val rfl
                have z2 : ∀ k, x12.frozen? ⟨x6.heap.size, k, none⟩ = false := (BX.out.bl 2 _ _ _ rfl).free
                have y2 : x6.heap.size < x12.heap.size := (BX.out.bl 2 _ _ _ rfl).size
                have p3_0 : x12.cell? ⟨x8.heap.size, 0, none⟩ = some (.int .i64 c1) := (BX.out.bl 3 _ _ _ rfl).val rfl
                have p3_1 : x12.cell? ⟨x8.heap.size, 1, none⟩ = some (.int .i64 c2) := (BX.out.bl 3 _ _ _ rfl).val rfl
                have p3_2 : x12.cell? ⟨x8.heap.size, 2, none⟩ = some (.int .i64 c3) := (BX.out.bl 3 _ _ _ rfl).val rfl
                have z3 : ∀ k, x12.frozen? ⟨x8.heap.size, k, none⟩ = false := (BX.out.bl 3 _ _ _ rfl).free
                have y3 : x8.heap.size < x12.heap.size := (BX.out.bl 3 _ _ _ rfl).size
                refine anyB_done (by kernel_rfl) ?_ _
                refine NoPanic.normal ?_
                go_wp2_with fail
                refine bodyPost_ret (v := .bool true) (by simp [results, Try.results6, go_sem, *]) rfl ⟨rfl, BX.out.be⟩
      refine List.forall_mem_cons.2 ⟨fun hShut => wpOp_step rfl (fun K hK => ?_), fun _ h => by cases h⟩
      · go_simp
        refine hK _ _ ⟨fun _ => ⟨(BX.out.bl 0 _ _ _ rfl).alloc_ _, (BX.out.bl 1 _ _ _ rfl).alloc_ _⟩, ?_⟩
        clear hK K
        try simp only [Act.put, List.getElem_toArray, List.getElem_cons_zero, List.getElem_cons_succ, List.setIfInBounds_toArray, List.set_cons_zero, List.set_cons_succ]
        have gs0_x7 : w.heap.size < x7.heap.size := y0
        have gs1_x7 : w.heap.size + 1 < x7.heap.size := y1
        have gs2_x7 : x6.heap.size < x7.heap.size := y2
        clear y0 y1 y2
        refine anyB_world (fun wx => Bxs w wx [(w.heap.size, 24, [.int .i64 su2, .int .i64 la, .int .i64 le]), (w.heap.size + 1, 26, [.int .i64 sp, .int .i64 kp2, .int .i64 ki2, .int .i64 kd2, .int .i64 li2, .int .i64 st2, .int .i64 mo2]), (x6.heap.size, 24, [.int .i64 0, .int .i64 0, .int .i64 0]), (x7.heap.size, 24, [.int .i64 0, .int .i64 0, .int .i64 0])]) ((BX.out).alloc_ _ _ (by simp)) ?_
        clear BX hHeld
        rintro x8 bx
        have BX := Lib.hid bx
        clear bx
        have y0 : w.heap.size < x8.heap.size := (BX.out.bl 0 _ _ _ rfl).size
        have y1 : w.heap.size + 1 < x8.heap.size := (BX.out.bl 1 _ _ _ rfl).size
        have y2 : x6.heap.size < x8.heap.size := (BX.out.bl 2 _ _ _ rfl).size
        have y3 : x7.heap.size < x8.heap.size := (BX.out.bl 3 _ _ _ rfl).size
        have hHeld := And.intro (BX.out.bl 0 _ _ _ rfl) (BX.out.bl 1 _ _ _ rfl)
        refine anyB_each (rs := [3]) hShut (by kernel_rfl) (by simp) ?_
        refine List.forall_mem_cons.2 ⟨fun hShut => wpOp_step rfl (fun K hK => ?_), fun _ h => by cases h⟩
        · rw [if_pos (by rfl)]
          refine wp_enter (by go_simp; exact ⟨rfl, rfl⟩) ?_
          refine (psamp_lit su2 la le sp kp2 ki2 kd2 li2 st2 mo2 v c1 c2 c3 HZ _ SK0.out.u0 SK0.out.u1 la0 la1 le0 le1 sp0 sp1 PO.out.kp0 PO.out.kp1 PO.out.ki0 PO.out.ki1 PO.out.kd0 PO.out.kd1 PO.out.li0 PO.out.li1 PO.out.st0 PO.out.st1 PO.out.mo0 PO.out.mo1 v0 v1).mono ?_
          rintro e x9 ⟨rfl, hbn⟩
          have bx := BX.out.below hbn
          clear y0 y1 y2 y3
          clear BX hbn hHeld
          have BX := Lib.hid bx
          clear bx
          have y0 : w.heap.size < x9.heap.size := (BX.out.bl 0 _ _ _ rfl).size
          have y1 : w.heap.size + 1 < x9.heap.size := (BX.out.bl 1 _ _ _ rfl).size
          have y2 : x6.heap.size < x9.heap.size := (BX.out.bl 2 _ _ _ rfl).size
          have y3 : x7.heap.size < x9.heap.size := (BX.out.bl 3 _ _ _ rfl).size
          have hHeld := And.intro (BX.out.bl 0 _ _ _ rfl) (BX.out.bl 1 _ _ _ rfl)
          refine ⟨_, rfl, ?_⟩
          refine hK _ _ ⟨fun _ => hHeld, ?_⟩
          clear hK K
          try simp only [Act.put, List.getElem_toArray, List.getElem_cons_zero, List.getElem_cons_succ, List.setIfInBounds_toArray, List.set_cons_zero, List.set_cons_succ]
          refine anyB_each (rs := [7]) hShut (by kernel_rfl) (by simp) ?_
          refine List.forall_mem_cons.2 ⟨fun hShut => wpOp_step rfl (fun K hK => ?_), fun _ h => by cases h⟩
          · rw [if_pos (by rfl)]
            refine wp_enter (by go_simp; exact ⟨rfl, rfl⟩) ?_
            refine (psamp_lit su2 la le sp kp2 ki2 kd2 li2 st2 mo2 u f1 f2 f3 HY _ SK0.out.u0 SK0.out.u1 la0 la1 le0 le1 sp0 sp1 PO.out.kp0 PO.out.kp1 PO.out.ki0 PO.out.ki1 PO.out.kd0 PO.out.kd1 PO.out.li0 PO.out.li1 PO.out.st0 PO.out.st1 PO.out.mo0 PO.out.mo1 u0 u1).mono ?_
            rintro e x10 ⟨rfl, hbn⟩
            have bx := BX.out.below hbn
            clear y0 y1 y2 y3
            clear BX hbn hHeld
            have BX := Lib.hid bx
            clear bx
            have y0 : w.heap.size < x10.heap.size := (BX.out.bl 0 _ _ _ rfl).size
            have y1 : w.heap.size + 1 < x10.heap.size := (BX.out.bl 1 _ _ _ rfl).size
            have y2 : x6.heap.size < x10.heap.size := (BX.out.bl 2 _ _ _ rfl).size
            have y3 : x7.heap.size < x10.heap.size := (BX.out.bl 3 _ _ _ rfl).size
            have hHeld := And.intro (BX.out.bl 0 _ _ _ rfl) (BX.out.bl 1 _ _ _ rfl)
            refine ⟨_, rfl, ?_⟩
            refine hK _ _ ⟨fun _ => hHeld, ?_⟩
            clear hK K
            try simp only [Act.put, List.getElem_toArray, List.getElem_cons_zero, List.getElem_cons_succ, List.setIfInBounds_toArray, List.set_cons_zero, List.set_cons_succ]
            refine anyB_each (rs := [10]) hShut (by kernel_rfl) (by simp) ?_
            refine List.forall_mem_cons.2 ⟨fun hShut => wpOp_step rfl (fun K hK => ?_), fun _ h => by cases h⟩
            · have p3_0 : x10.cell? ⟨x7.heap.size, 0, none⟩ = some (.int .i64 0) := (BX.out.bl 3 _ _ _ rfl).val rfl
              have p3_1 : x10.cell? ⟨x7.heap.size, 1, none⟩ = some (.int .i64 0) := (BX.out.bl 3 _ _ _ rfl).val rfl
              have p3_2 : x10.cell? ⟨x7.heap.size, 2, none⟩ = some (.int .i64 0) := (BX.out.bl 3 _ _ _ rfl).val rfl
              have z3 : ∀ k, x10.frozen? ⟨x7.heap.size, k, none⟩ = false := (BX.out.bl 3 _ _ _ rfl).free
              go_simp
              refine unheld hK (by kernel_rfl) ?_
              clear hK K
              try simp only [Act.put, List.getElem_toArray, List.getElem_cons_zero, List.getElem_cons_succ, List.setIfInBounds_toArray, List.set_cons_zero, List.set_cons_succ]
              clear y0 y1 y2 y3 p3_0 p3_1 p3_2 z3
              refine anyB_world (fun wx => Bxs w wx [(w.heap.size, 24, [.int .i64 su2, .int .i64 la, .int .i64 le]), (w.heap.size + 1, 26, [.int .i64 sp, .int .i64 kp2, .int .i64 ki2, .int .i64 kd2, .int .i64 li2, .int .i64 st2, .int .i64 mo2]), (x6.heap.size, 24, [.int .i64 0, .int .i64 0, .int .i64 0]), (x7.heap.size, 24, [.int .i64 c1, .int .i64 c2, .int .i64 c3])]) ((((BX.out).set_ 3 0 rfl _).set_ 3 1 rfl _).set_ 3 2 rfl _) ?_
              clear BX hHeld
              rintro x11 bx
              have BX := Lib.hid bx
              clear bx
              have y0 : w.heap.size < x11.heap.size := (BX.out.bl 0 _ _ _ rfl).size
              have y1 : w.heap.size + 1 < x11.heap.size := (BX.out.bl 1 _ _ _ rfl).size
              have y2 : x6.heap.size < x11.heap.size := (BX.out.bl 2 _ _ _ rfl).size
              have y3 : x7.heap.size < x11.heap.size := (BX.out.bl 3 _ _ _ rfl).size
              refine anyB_each (rs := [11]) hShut (by kernel_rfl) (by simp) ?_
              refine List.forall_mem_cons.2 ⟨fun hShut => wpOp_step rfl (fun K hK => ?_), fun _ h => by cases h⟩
              · have p2_0 : x11.cell? ⟨x6.heap.size, 0, none⟩ = some (.int .i64 0) := (BX.out.bl 2 _ _ _ rfl).val rfl
                have p2_1 : x11.cell? ⟨x6.heap.size, 1, none⟩ = some (.int .i64 0) := (BX.out.bl 2 _ _ _ rfl).val rfl
                have p2_2 : x11.cell? ⟨x6.heap.size, 2, none⟩ = some (.int .i64 0) := (BX.out.bl 2 _ _ _ rfl).val rfl
                have z2 : ∀ k, x11.frozen? ⟨x6.heap.size, k, none⟩ = false := (BX.out.bl 2 _ _ _ rfl).free
                go_simp
                refine unheld hK (by kernel_rfl) ?_
                clear hK K
                try simp only [Act.put, List.getElem_toArray, List.getElem_cons_zero, List.getElem_cons_succ, List.setIfInBounds_toArray, List.set_cons_zero, List.set_cons_succ]
                clear y0 y1 y2 y3 p2_0 p2_1 p2_2 z2
                refine anyB_world (fun wx => Bxs w wx [(w.heap.size, 24, [.int .i64 su2, .int .i64 la, .int .i64 le]), (w.heap.size + 1, 26, [.int .i64 sp, .int .i64 kp2, .int .i64 ki2, .int .i64 kd2, .int .i64 li2, .int .i64 st2, .int .i64 mo2]), (x6.heap.size, 24, [.int .i64 f1, .int .i64 f2, .int .i64 f3]), (x7.heap.size, 24, [.int .i64 c1, .int .i64 c2, .int .i64 c3])]) ((((BX.out).set_ 2 0 rfl _).set_ 2 1 rfl _).set_ 2 2 rfl _) ?_
                clear BX
                rintro x12 bx
                have BX := Lib.hid bx
                clear bx
                have y0 : w.heap.size < x12.heap.size := (BX.out.bl 0 _ _ _ rfl).size
                have y1 : w.heap.size + 1 < x12.heap.size := (BX.out.bl 1 _ _ _ rfl).size
                have y2 : x6.heap.size < x12.heap.size := (BX.out.bl 2 _ _ _ rfl).size
                have y3 : x7.heap.size < x12.heap.size := (BX.out.bl 3 _ _ _ rfl).size
                clear y0 y1 y2 y3
                have p2_0 : x12.cell? ⟨x6.heap.size, 0, none⟩ = some (.int .i64 f1) := (BX.out.bl 2 _ _ _ rfl).val rfl
                have p2_1 : x12.cell? ⟨x6.heap.size, 1, none⟩ = some (.int .i64 f2) := (BX.out.bl 2 _ _ _ rfl).val rfl
                have p2_2 : x12.cell? ⟨x6.heap.size, 2, none⟩ = some (.int .i64 f3) := (BX.out.bl 2 _ _ _ rfl).val rfl
                have z2 : ∀ k, x12.frozen? ⟨x6.heap.size, k, none⟩ = false := (BX.out.bl 2 _ _ _ rfl).free
                have y2 : x6.heap.size < x12.heap.size := (BX.out.bl 2 _ _ _ rfl).size
                have p3_0 : x12.cell? ⟨x7.heap.size, 0, none⟩ = some (.int .i64 c1) := (BX.out.bl 3 _ _ _ rfl).val rfl
                have p3_1 : x12.cell? ⟨x7.heap.size, 1, none⟩ = some (.int .i64 c2) := (BX.out.bl 3 _ _ _ rfl).val rfl
                have p3_2 : x12.cell? ⟨x7.heap.size, 2, none⟩ = some (.int .i64 c3) := (BX.out.bl 3 _ _ _ rfl).val rfl
                have z3 : ∀ k, x12.frozen? ⟨x7.heap.size, k, none⟩ = false := (BX.out.bl 3 _ _ _ rfl).free
                have y3 : x7.heap.size < x12.heap.size := (BX.out.bl 3 _ _ _ rfl).size
                refine anyB_done (by kernel_rfl) ?_ _
                refine NoPanic.normal ?_
                go_wp2_with fail
                refine bodyPost_ret (v := .bool true) (by simp [results, Try.results6, go_sem, *]) rfl ⟨rfl, BX.out.be⟩
  · obtain ⟨⟨c1, c2, c3⟩, hz⟩ : ∃ z, sampP ⟨su2, la, le⟩ ⟨sp, kp2, ki2, kd2, li2, st2, mo2⟩ u = z := ⟨_, rfl⟩
    obtain ⟨⟨f1, f2, f3⟩, hy⟩ : ∃ z, sampP ⟨su2, la, le⟩ ⟨sp, kp2, ki2, kd2, li2, st2, mo2⟩ v = z := ⟨_, rfl⟩
    have hm := samp_mono ⟨su2, la, le⟩ ⟨sp, kp2, ki2, kd2, li2, st2, mo2⟩ u v (by omega) SK0.out PO.out kp20 ki20 kd20 st20 li20 mo20
    rw [hz, hy] at hm
    simp only at hm
    have HZ := Lib.hid hz
    have HY := Lib.hid hy
    clear hz hy
    go_upto_region 7 with fail
    refine wp_region_noPanic ?_
    refine begun (fun w' => Blk w' (w.heap.size) 24 [.int .i64 su2, .int .i64 la, .int .i64 le].toArray ∧ Blk w' (w.heap.size + 1) 26 [.int .i64 sp, .int .i64 kp2, .int .i64 ki2, .int .i64 kd2, .int .i64 li2, .int .i64 st2, .int .i64 mo2].toArray) [10, 11] (by kernel_rfl) (show _ from ⟨BX.out.bl 0 _ _ _ rfl, BX.out.bl 1 _ _ _ rfl⟩) (fun hShut hHeld => ?_)
    refine anyB_take 16 (i := 0) (v := ?_) rfl (by kernel_rfl) (by kernel_rfl) (by kernel_rfl) (by kernel_rfl) (by kernel_rfl) (fun _ _ _ h => h) hShut hHeld (Or.inl ⟨by rfl, ?_⟩) (fun hShut => ?_)
    rotate_left
    · (intro wS hSw; have r0_0 : wS.cell? ⟨w.heap.size, 0, none⟩ = some (.int .i64 su2) := (hSw.1).val rfl; have r0_1 : wS.cell? ⟨w.heap.size, 1, none⟩ = some (.int .i64 la) := (hSw.1).val rfl; have r0_2 : wS.cell? ⟨w.heap.size, 2, none⟩ = some (.int .i64 le) := (hSw.1).val rfl; have r1_0 : wS.cell? ⟨w.heap.size + 1, 0, none⟩ = some (.int .i64 sp) := (hSw.2).val rfl; have r1_1 : wS.cell? ⟨w.heap.size + 1, 1, none⟩ = some (.int .i64 kp2) := (hSw.2).val rfl; have r1_2 : wS.cell? ⟨w.heap.size + 1, 2, none⟩ = some (.int .i64 ki2) := (hSw.2).val rfl; have r1_3 : wS.cell? ⟨w.heap.size + 1, 3, none⟩ = some (.int .i64 kd2) := (hSw.2).val rfl; have r1_4 : wS.cell? ⟨w.heap.size + 1, 4, none⟩ = some (.int .i64 li2) := (hSw.2).val rfl; have r1_5 : wS.cell? ⟨w.heap.size + 1, 5, none⟩ = some (.int .i64 st2) := (hSw.2).val rfl; have r1_6 : wS.cell? ⟨w.heap.size + 1, 6, none⟩ = some (.int .i64 mo2) := (hSw.2).val rfl; (first | (go_simp; done) | (go_simp; with_reducible rfl)))
    try simp only [Act.put, List.getElem_toArray, List.getElem_cons_zero, List.getElem_cons_succ, List.setIfInBounds_toArray, List.set_cons_zero, List.set_cons_succ]
    refine anyB_take 16 (i := 1) (v := ?_) rfl (by kernel_rfl) (by kernel_rfl) (by kernel_rfl) (by kernel_rfl) (by kernel_rfl) (fun _ _ _ h => h) hShut hHeld (Or.inl ⟨by rfl, ?_⟩) (fun hShut => ?_)
    rotate_left
    · (intro wS hSw; have r0_0 : wS.cell? ⟨w.heap.size, 0, none⟩ = some (.int .i64 su2) := (hSw.1).val rfl; have r0_1 : wS.cell? ⟨w.heap.size, 1, none⟩ = some (.int .i64 la) := (hSw.1).val rfl; have r0_2 : wS.cell? ⟨w.heap.size, 2, none⟩ = some (.int .i64 le) := (hSw.1).val rfl; have r1_0 : wS.cell? ⟨w.heap.size + 1, 0, none⟩ = some (.int .i64 sp) := (hSw.2).val rfl; have r1_1 : wS.cell? ⟨w.heap.size + 1, 1, none⟩ = some (.int .i64 kp2) := (hSw.2).val rfl; have r1_2 : wS.cell? ⟨w.heap.size + 1, 2, none⟩ = some (.int .i64 ki2) := (hSw.2).val rfl; have r1_3 : wS.cell? ⟨w.heap.size + 1, 3, none⟩ = some (.int .i64 kd2) := (hSw.2).val rfl; have r1_4 : wS.cell? ⟨w.heap.size + 1, 4, none⟩ = some (.int .i64 li2) := (hSw.2).val rfl; have r1_5 : wS.cell? ⟨w.heap.size + 1, 5, none⟩ = some (.int .i64 st2) := (hSw.2).val rfl; have r1_6 : wS.cell? ⟨w.heap.size + 1, 6, none⟩ = some (.int .i64 mo2) := (hSw.2).val rfl; (first | (go_simp; done) | (go_simp; with_reducible rfl)))
    try simp only [Act.put, List.getElem_toArray, List.getElem_cons_zero, List.getElem_cons_succ, List.setIfInBounds_toArray, List.set_cons_zero, List.set_cons_succ]
    refine anyB_take 16 (i := 2) (v := ?_) rfl (by kernel_rfl) (by kernel_rfl) (by kernel_rfl) (by kernel_rfl) (by kernel_rfl) (fun _ _ _ h => h) hShut hHeld (Or.inl ⟨by rfl, ?_⟩) (fun hShut => ?_)
    rotate_left
    · (intro wS hSw; have r0_0 : wS.cell? ⟨w.heap.size, 0, none⟩ = some (.int .i64 su2) := (hSw.1).val rfl; have r0_1 : wS.cell? ⟨w.heap.size, 1, none⟩ = some (.int .i64 la) := (hSw.1).val rfl; have r0_2 : wS.cell? ⟨w.heap.size, 2, none⟩ = some (.int .i64 le) := (hSw.1).val rfl; have r1_0 : wS.cell? ⟨w.heap.size + 1, 0, none⟩ = some (.int .i64 sp) := (hSw.2).val rfl; have r1_1 : wS.cell? ⟨w.heap.size + 1, 1, none⟩ = some (.int .i64 kp2) := (hSw.2).val rfl; have r1_2 : wS.cell? ⟨w.heap.size + 1, 2, none⟩ = some (.int .i64 ki2) := (hSw.2).val rfl; have r1_3 : wS.cell? ⟨w.heap.size + 1, 3, none⟩ = some (.int .i64 kd2) := (hSw.2).val rfl; have r1_4 : wS.cell? ⟨w.heap.size + 1, 4, none⟩ = some (.int .i64 li2) := (hSw.2).val rfl; have r1_5 : wS.cell? ⟨w.heap.size + 1, 5, none⟩ = some (.int .i64 st2) := (hSw.2).val rfl; have r1_6 : wS.cell? ⟨w.heap.size + 1, 6, none⟩ = some (.int .i64 mo2) := (hSw.2).val rfl; (first | (go_simp; done) | (go_simp; with_reducible rfl)))
    try simp only [Act.put, List.getElem_toArray, List.getElem_cons_zero, List.getElem_cons_succ, List.setIfInBounds_toArray, List.set_cons_zero, List.set_cons_succ]
    refine anyB_take 16 (i := 4) (v := ?_) rfl (by kernel_rfl) (by kernel_rfl) (by kernel_rfl) (by kernel_rfl) (by kernel_rfl) (fun _ _ _ h => h) hShut hHeld (Or.inl ⟨by rfl, ?_⟩) (fun hShut => ?_)
    rotate_left
    · (intro wS hSw; have r0_0 : wS.cell? ⟨w.heap.size, 0, none⟩ = some (.int .i64 su2) := (hSw.1).val rfl; have r0_1 : wS.cell? ⟨w.heap.size, 1, none⟩ = some (.int .i64 la) := (hSw.1).val rfl; have r0_2 : wS.cell? ⟨w.heap.size, 2, none⟩ = some (.int .i64 le) := (hSw.1).val rfl; have r1_0 : wS.cell? ⟨w.heap.size + 1, 0, none⟩ = some (.int .i64 sp) := (hSw.2).val rfl; have r1_1 : wS.cell? ⟨w.heap.size + 1, 1, none⟩ = some (.int .i64 kp2) := (hSw.2).val rfl; have r1_2 : wS.cell? ⟨w.heap.size + 1, 2, none⟩ = some (.int .i64 ki2) := (hSw.2).val rfl; have r1_3 : wS.cell? ⟨w.heap.size + 1, 3, none⟩ = some (.int .i64 kd2) := (hSw.2).val rfl; have r1_4 : wS.cell? ⟨w.heap.size + 1, 4, none⟩ = some (.int .i64 li2) := (hSw.2).val rfl; have r1_5 : wS.cell? ⟨w.heap.size + 1, 5, none⟩ = some (.int .i64 st2) := (hSw.2).val rfl; have r1_6 : wS.cell? ⟨w.heap.size + 1, 6, none⟩ = some (.int .i64 mo2) := (hSw.2).val rfl; (first | (go_simp; done) | (go_simp; with_reducible rfl)))
    try simp only [Act.put, List.getElem_toArray, List.getElem_cons_zero, List.getElem_cons_succ, List.setIfInBounds_toArray, List.set_cons_zero, List.set_cons_succ]
    refine anyB_take 16 (i := 5) (v := ?_) rfl (by kernel_rfl) (by kernel_rfl) (by kernel_rfl) (by kernel_rfl) (by kernel_rfl) (fun _ _ _ h => h) hShut hHeld (Or.inl ⟨by rfl, ?_⟩) (fun hShut => ?_)
    rotate_left
    · (intro wS hSw; have r0_0 : wS.cell? ⟨w.heap.size, 0, none⟩ = some (.int .i64 su2) := (hSw.1).val rfl; have r0_1 : wS.cell? ⟨w.heap.size, 1, none⟩ = some (.int .i64 la) := (hSw.1).val rfl; have r0_2 : wS.cell? ⟨w.heap.size, 2, none⟩ = some (.int .i64 le) := (hSw.1).val rfl; have r1_0 : wS.cell? ⟨w.heap.size + 1, 0, none⟩ = some (.int .i64 sp) := (hSw.2).val rfl; have r1_1 : wS.cell? ⟨w.heap.size + 1, 1, none⟩ = some (.int .i64 kp2) := (hSw.2).val rfl; have r1_2 : wS.cell? ⟨w.heap.size + 1, 2, none⟩ = some (.int .i64 ki2) := (hSw.2).val rfl; have r1_3 : wS.cell? ⟨w.heap.size + 1, 3, none⟩ = some (.int .i64 kd2) := (hSw.2).val rfl; have r1_4 : wS.cell? ⟨w.heap.size + 1, 4, none⟩ = some (.int .i64 li2) := (hSw.2).val rfl; have r1_5 : wS.cell? ⟨w.heap.size + 1, 5, none⟩ = some (.int .i64 st2) := (hSw.2).val rfl; have r1_6 : wS.cell? ⟨w.heap.size + 1, 6, none⟩ = some (.int .i64 mo2) := (hSw.2).val rfl; (first | (go_simp; done) | (go_simp; with_reducible rfl)))
    try simp only [Act.put, List.getElem_toArray, List.getElem_cons_zero, List.getElem_cons_succ, List.setIfInBounds_toArray, List.set_cons_zero, List.set_cons_succ]
    refine anyB_take 16 (i := 6) (v := ?_) rfl (by kernel_rfl) (by kernel_rfl) (by kernel_rfl) (by kernel_rfl) (by kernel_rfl) (fun _ _ _ h => h) hShut hHeld (Or.inl ⟨by rfl, ?_⟩) (fun hShut => ?_)
    rotate_left
    · (intro wS hSw; have r0_0 : wS.cell? ⟨w.heap.size, 0, none⟩ = some (.int .i64 su2) := (hSw.1).val rfl; have r0_1 : wS.cell? ⟨w.heap.size, 1, none⟩ = some (.int .i64 la) := (hSw.1).val rfl; have r0_2 : wS.cell? ⟨w.heap.size, 2, none⟩ = some (.int .i64 le) := (hSw.1).val rfl; have r1_0 : wS.cell? ⟨w.heap.size + 1, 0, none⟩ = some (.int .i64 sp) := (hSw.2).val rfl; have r1_1 : wS.cell? ⟨w.heap.size + 1, 1, none⟩ = some (.int .i64 kp2) := (hSw.2).val rfl; have r1_2 : wS.cell? ⟨w.heap.size + 1, 2, none⟩ = some (.int .i64 ki2) := (hSw.2).val rfl; have r1_3 : wS.cell? ⟨w.heap.size + 1, 3, none⟩ = some (.int .i64 kd2) := (hSw.2).val rfl; have r1_4 : wS.cell? ⟨w.heap.size + 1, 4, none⟩ = some (.int .i64 li2) := (hSw.2).val rfl; have r1_5 : wS.cell? ⟨w.heap.size + 1, 5, none⟩ = some (.int .i64 st2) := (hSw.2).val rfl; have r1_6 : wS.cell? ⟨w.heap.size + 1, 6, none⟩ = some (.int .i64 mo2) := (hSw.2).val rfl; (first | (go_simp; done) | (go_simp; with_reducible rfl)))
    try simp only [Act.put, List.getElem_toArray, List.getElem_cons_zero, List.getElem_cons_succ, List.setIfInBounds_toArray, List.set_cons_zero, List.set_cons_succ]
    clear p0_0 p0_1 p0_2 z0 y0 p1_0 p1_1 p1_2 p1_3 p1_4 p1_5 p1_6 z1 y1
    refine anyB_world (fun wx => Bxs w wx [(w.heap.size, 24, [.int .i64 su2, .int .i64 la, .int .i64 le]), (w.heap.size + 1, 26, [.int .i64 sp, .int .i64 kp2, .int .i64 ki2, .int .i64 kd2, .int .i64 li2, .int .i64 st2, .int .i64 mo2])]) ((BX.out).drew_) ?_
    clear BX hHeld
    rintro x6 bx
    have BX := Lib.hid bx
    clear bx
    have y0 : w.heap.size < x6.heap.size := (BX.out.bl 0 _ _ _ rfl).size
    have y1 : w.heap.size + 1 < x6.heap.size := (BX.out.bl 1 _ _ _ rfl).size
    have hHeld := And.intro (BX.out.bl 0 _ _ _ rfl) (BX.out.bl 1 _ _ _ rfl)
    refine anyB_each (rs := [3, 8, 9]) hShut (by kernel_rfl) (by simp) ?_
    refine List.forall_mem_cons.2 ⟨fun hShut => wpOp_step rfl (fun K hK => ?_), ?_⟩
    · rw [if_pos (by rfl)]
      refine wp_enter (by go_simp; exact ⟨rfl, rfl⟩) ?_
      refine (psamp_lit su2 la le sp kp2 ki2 kd2 li2 st2 mo2 u c1 c2 c3 HZ _ SK0.out.u0 SK0.out.u1 la0 la1 le0 le1 sp0 sp1 PO.out.kp0 PO.out.kp1 PO.out.ki0 PO.out.ki1 PO.out.kd0 PO.out.kd1 PO.out.li0 PO.out.li1 PO.out.st0 PO.out.st1 PO.out.mo0 PO.out.mo1 u0 u1).mono ?_
      rintro e x7 ⟨rfl, hbn⟩
      have bx := BX.out.below hbn
      clear y0 y1
      clear BX hbn hHeld
      have BX := Lib.hid bx
      clear bx
      have y0 : w.heap.size < x7.heap.size := (BX.out.bl 0 _ _ _ rfl).size
      have y1 : w.heap.size + 1 < x7.heap.size := (BX.out.bl 1 _ _ _ rfl).size
      have hHeld := And.intro (BX.out.bl 0 _ _ _ rfl) (BX.out.bl 1 _ _ _ rfl)
      refine ⟨_, rfl, ?_⟩
      refine hK _ _ ⟨fun _ => hHeld, ?_⟩
      clear hK K
      try simp only [Act.put, List.getElem_toArray, List.getElem_cons_zero, List.getElem_cons_succ, List.setIfInBounds_toArray, List.set_cons_zero, List.set_cons_succ]
      refine anyB_each (rs := [7, 8, 9]) hShut (by kernel_rfl) (by simp) ?_
      refine List.forall_mem_cons.2 ⟨fun hShut => wpOp_step rfl (fun K hK => ?_), ?_⟩
      · rw [if_pos (by rfl)]
        refine wp_enter (by go_simp; exact ⟨rfl, rfl⟩) ?_
        refine (psamp_lit su2 la le sp kp2 ki2 kd2 li2 st2 mo2 v f1 f2 f3 HY _ SK0.out.u0 SK0.out.u1 la0 la1 le0 le1 sp0 sp1 PO.out.kp0 PO.out.kp1 PO.out.ki0 PO.out.ki1 PO.out.kd0 PO.out.kd1 PO.out.li0 PO.out.li1 PO.out.st0 PO.out.st1 PO.out.mo0 PO.out.mo1 v0 v1).mono ?_
        rintro e x8 ⟨rfl, hbn⟩
        have bx := BX.out.below hbn
        clear y0 y1
        clear BX hbn hHeld
        have BX := Lib.hid bx
        clear bx
        have y0 : w.heap.size < x8.heap.size := (BX.out.bl 0 _ _ _ rfl).size
        have y1 : w.heap.size + 1 < x8.heap.size := (BX.out.bl 1 _ _ _ rfl).size
        have hHeld := And.intro (BX.out.bl 0 _ _ _ rfl) (BX.out.bl 1 _ _ _ rfl)
        refine ⟨_, rfl, ?_⟩
        refine hK _ _ ⟨fun _ => hHeld, ?_⟩
        clear hK K
        try simp only [Act.put, List.getElem_toArray, List.getElem_cons_zero, List.getElem_cons_succ, List.setIfInBounds_toArray, List.set_cons_zero, List.set_cons_succ]
        refine anyB_each (rs := [8, 9]) hShut (by kernel_rfl) (by simp) ?_
        refine List.forall_mem_cons.2 ⟨fun hShut => wpOp_step rfl (fun K hK => ?_), ?_⟩
        · go_simp
          refine hK _ _ ⟨fun _ => ⟨(BX.out.bl 0 _ _ _ rfl).alloc_ _, (BX.out.bl 1 _ _ _ rfl).alloc_ _⟩, ?_⟩
          clear hK K
          try simp only [Act.put, List.getElem_toArray, List.getElem_cons_zero, List.getElem_cons_succ, List.setIfInBounds_toArray, List.set_cons_zero, List.set_cons_succ]
          have gs0_x8 : w.heap.size < x8.heap.size := y0
          have gs1_x8 : w.heap.size + 1 < x8.heap.size := y1
          clear y0 y1
          refine anyB_world (fun wx => Bxs w wx [(w.heap.size, 24, [.int .i64 su2, .int .i64 la, .int .i64 le]), (w.heap.size + 1, 26, [.int .i64 sp, .int .i64 kp2, .int .i64 ki2, .int .i64 kd2, .int .i64 li2, .int .i64 st2, .int .i64 mo2]), (x8.heap.size, 24, [.int .i64 0, .int .i64 0, .int .i64 0])]) ((BX.out).alloc_ _ _ (by simp)) ?_
          clear BX hHeld
          rintro x9 bx
          have BX := Lib.hid bx
          clear bx
          have y0 : w.heap.size < x9.heap.size := (BX.out.bl 0 _ _ _ rfl).size
          have y1 : w.heap.size + 1 < x9.heap.size := (BX.out.bl 1 _ _ _ rfl).size
          have y2 : x8.heap.size < x9.heap.size := (BX.out.bl 2 _ _ _ rfl).size
          have hHeld := And.intro (BX.out.bl 0 _ _ _ rfl) (BX.out.bl 1 _ _ _ rfl)
          refine anyB_each (rs := [9]) hShut (by kernel_rfl) (by simp) ?_
          refine List.forall_mem_cons.2 ⟨fun hShut => wpOp_step rfl (fun K hK => ?_), fun _ h => by cases h⟩
          · go_simp
            refine hK _ _ ⟨fun _ => ⟨(BX.out.bl 0 _ _ _ rfl).alloc_ _, (BX.out.bl 1 _ _ _ rfl).alloc_ _⟩, ?_⟩
            clear hK K
            try simp only [Act.put, List.getElem_toArray, List.getElem_cons_zero, List.getElem_cons_succ, List.setIfInBounds_toArray, List.set_cons_zero, List.set_cons_succ]
            have gs0_x9 : w.heap.size < x9.heap.size := y0
            have gs1_x9 : w.heap.size + 1 < x9.heap.size := y1
            have gs2_x9 : x8.heap.size < x9.heap.size := y2
            clear y0 y1 y2
            refine anyB_world (fun wx => Bxs w wx [(w.heap.size, 24, [.int .i64 su2, .int .i64 la, .int .i64 le]), (w.heap.size + 1, 26, [.int .i64 sp, .int .i64 kp2, .int .i64 ki2, .int .i64 kd2, .int .i64 li2, .int .i64 st2, .int .i64 mo2]), (x8.heap.size, 24, [.int .i64 0, .int .i64 0, .int .i64 0]), (x9.heap.size, 24, [.int .i64 0, .int .i64 0, .int .i64 0])]) ((BX.out).alloc_ _ _ (by simp)) ?_
            clear BX hHeld
            rintro x10 bx
            have BX := Lib.hid bx
            clear bx
            have y0 : w.heap.size < x10.heap.size := (BX.out.bl 0 _ _ _ rfl).size
            have y1 : w.heap.size + 1 < x10.heap.size := (BX.out.bl 1 _ _ _ rfl).size
            have y2 : x8.heap.size < x10.heap.size := (BX.out.bl 2 _ _ _ rfl).size
            have y3 : x9.heap.size < x10.heap.size := (BX.out.bl 3 _ _ _ rfl).size
            have hHeld := And.intro (BX.out.bl 0 _ _ _ rfl) (BX.out.bl 1 _ _ _ rfl)
            refine anyB_each (rs := [10]) hShut (by kernel_rfl) (by simp) ?_
            refine List.forall_mem_cons.2 ⟨fun hShut => wpOp_step rfl (fun K hK => ?_), fun _ h => by cases h⟩
            · have p2_0 : x10.cell? ⟨x8.heap.size, 0, none⟩ = some (.int .i64 0) := (BX.out.bl 2 _ _ _ rfl).val rfl
              have p2_1 : x10.cell? ⟨x8.heap.size, 1, none⟩ = some (.int .i64 0) := (BX.out.bl 2 _ _ _ rfl).val rfl
              have p2_2 : x10.cell? ⟨x8.heap.size, 2, none⟩ = some (.int .i64 0) := (BX.out.bl 2 _ _ _ rfl).val rfl
              have z2 : ∀ k, x10.frozen? ⟨x8.heap.size, k, none⟩ = false := (BX.out.bl 2 _ _ _ rfl).free
              go_simp
              refine unheld hK (by kernel_rfl) ?_
              clear hK K
              try simp only [Act.put, List.getElem_toArray, List.getElem_cons_zero, List.getElem_cons_succ, List.setIfInBounds_toArray, List.set_cons_zero, List.set_cons_succ]
              clear y0 y1 y2 y3 p2_0 p2_1 p2_2 z2
              refine anyB_world (fun wx => Bxs w wx [(w.heap.size, 24, [.int .i64 su2, .int .i64 la, .int .i64 le]), (w.heap.size + 1, 26, [.int .i64 sp, .int .i64 kp2, .int .i64 ki2, .int .i64 kd2, .int .i64 li2, .int .i64 st2, .int .i64 mo2]), (x8.heap.size, 24, [.int .i64 c1, .int .i64 c2, .int .i64 c3]), (x9.heap.size, 24, [.int .i64 0, .int .i64 0, .int .i64 0])]) ((((BX.out).set_ 2 0 rfl _).set_ 2 1 rfl _).set_ 2 2 rfl _) ?_
              clear BX hHeld
              rintro x11 bx
              have BX := Lib.hid bx
              clear bx
              have y0 : w.heap.size < x11.heap.size := (BX.out.bl 0 _ _ _ rfl).size
              have y1 : w.heap.size + 1 < x11.heap.size := (BX.out.bl 1 _ _ _ rfl).size
              have y2 : x8.heap.size < x11.heap.size := (BX.out.bl 2 _ _ _ rfl).size
              have y3 : x9.heap.size < x11.heap.size := (BX.out.bl 3 _ _ _ rfl).size
              refine anyB_each (rs := [11]) hShut (by kernel_rfl) (by simp) ?_
              refine List.forall_mem_cons.2 ⟨fun hShut => wpOp_step rfl (fun K hK => ?_), fun _ h => by cases h⟩
              · have p3_0 : x11.cell? ⟨x9.heap.size, 0, none⟩ = some (.int .i64 0) := (BX.out.bl 3 _ _ _ rfl).val rfl
                have p3_1 : x11.cell? ⟨x9.heap.size, 1, none⟩ = some (.int .i64 0) := (BX.out.bl 3 _ _ _ rfl).val rfl
                have p3_2 : x11.cell? ⟨x9.heap.size, 2, none⟩ = some (.int .i64 0) := (BX.out.bl 3 _ _ _ rfl).val rfl
                have z3 : ∀ k, x11.frozen? ⟨x9.heap.size, k, none⟩ = false := (BX.out.bl 3 _ _ _ rfl).free
                go_simp
                refine unheld hK (by kernel_rfl) ?_
                clear hK K
                try simp only [Act.put, List.getElem_toArray, List.getElem_cons_zero, List.getElem_cons_succ, List.setIfInBounds_toArray, List.set_cons_zero, List.set_cons_succ]
                clear y0 y1 y2 y3 p3_0 p3_1 p3_2 z3
                refine anyB_world (fun wx => Bxs w wx [(w.heap.size, 24, [.int .i64 su2, .int .i64 la, .int .i64 le]), (w.heap.size + 1, 26, [.int .i64 sp, .int .i64 kp2, .int .i64 ki2, .int .i64 kd2, .int .i64 li2, .int .i64 st2, .int .i64 mo2]), (x8.heap.size, 24, [.int .i64 c1, .int .i64 c2, .int .i64 c3]), (x9.heap.size, 24, [.int .i64 f1, .int .i64 f2, .int .i64 f3])]) ((((BX.out).set_ 3 0 rfl _).set_ 3 1 rfl _).set_ 3 2 rfl _) ?_
                clear BX
                rintro x12 bx
                have BX := Lib.hid bx
                clear bx
                have y0 : w.heap.size < x12.heap.size := (BX.out.bl 0 _ _ _ rfl).size
                have y1 : w.heap.size + 1 < x12.heap.size := (BX.out.bl 1 _ _ _ rfl).size
                have y2 : x8.heap.size < x12.heap.size := (BX.out.bl 2 _ _ _ rfl).size
                have y3 : x9.heap.size < x12.heap.size := (BX.out.bl 3 _ _ _ rfl).size
                clear y0 y1 y2 y3
                have p2_0 : x12.cell? ⟨x8.heap.size, 0, none⟩ = some (.int .i64 c1) := (BX.out.bl 2 _ _ _ rfl).val rfl
                have p2_1 : x12.cell? ⟨x8.heap.size, 1, none⟩ = some (.int .i64 c2) := (BX.out.bl 2 _ _ _ rfl).val rfl
                have p2_2 : x12.cell? ⟨x8.heap.size, 2, none⟩ = some (.int .i64 c3) := (BX.out.bl 2 _ _ _ rfl).val rfl
                have z2 : ∀ k, x12.frozen? ⟨x8.heap.size, k, none⟩ = false := (BX.out.bl 2 _ _ _ rfl).free
                have y2 : x8.heap.size < x12.heap.size := (BX.out.bl 2 _ _ _ rfl).size
                have p3_0 : x12.cell? ⟨x9.heap.size, 0, none⟩ = some (.int .i64 f1) := (BX.out.bl 3 _ _ _ rfl).val rfl
                have p3_1 : x12.cell? ⟨x9.heap.size, 1, none⟩ = some (.int .i64 f2) := (BX.out.bl 3 _ _ _ rfl).val rfl
                have p3_2 : x12.cell? ⟨x9.heap.size, 2, none⟩ = some (.int .i64 f3) := (BX.out.bl 3 _ _ _ rfl).val rfl
                have z3 : ∀ k, x12.frozen? ⟨x9.heap.size, k, none⟩ = false := (BX.out.bl 3 _ _ _ rfl).free
                have y3 : x9.heap.size < x12.heap.size := (BX.out.bl 3 _ _ _ rfl).size
                refine anyB_done (by kernel_rfl) ?_ _
                refine NoPanic.normal ?_
                go_wp2_with fail
                refine bodyPost_ret (v := .bool true) (by simp [results, Try.results6, go_sem, *]) rfl ⟨rfl, BX.out.be⟩
        refine List.forall_mem_cons.2 ⟨fun hShut => wpOp_step rfl (fun K hK => ?_), fun _ h => by cases h⟩
        · go_simp
          refine hK _ _ ⟨fun _ => ⟨(BX.out.bl 0 _ _ _ rfl).alloc_ _, (BX.out.bl 1 _ _ _ rfl).alloc_ _⟩, ?_⟩
          clear hK K
          try simp only [Act.put, List.getElem_toArray, List.getElem_cons_zero, List.getElem_cons_succ, List.setIfInBounds_toArray, List.set_cons_zero, List.set_cons_succ]
          have gs0_x8 : w.heap.size < x8.heap.size := y0
          have gs1_x8 : w.heap.size + 1 < x8.heap.size := y1
          clear y0 y1
          refine anyB_world (fun wx => Bxs w wx [(w.heap.size, 24, [.int .i64 su2, .int .i64 la, .int .i64 le]), (w.heap.size + 1, 26, [.int .i64 sp, .int .i64 kp2, .int .i64 ki2, .int .i64 kd2, .int .i64 li2, .int .i64 st2, .int .i64 mo2]), (x8.heap.size, 24, [.int .i64 0, .int .i64 0, .int .i64 0])]) ((BX.out).alloc_ _ _ (by simp)) ?_
          clear BX hHeld
          rintro x9 bx
          have BX := Lib.hid bx
          clear bx
          have y0 : w.heap.size < x9.heap.size := (BX.out.bl 0 _ _ _ rfl).size
          have y1 : w.heap.size + 1 < x9.heap.size := (BX.out.bl 1 _ _ _ rfl).size
          have y2 : x8.heap.size < x9.heap.size := (BX.out.bl 2 _ _ _ rfl).size
          have hHeld := And.intro (BX.out.bl 0 _ _ _ rfl) (BX.out.bl 1 _ _ _ rfl)
          refine anyB_each (rs := [8]) hShut (by kernel_rfl) (by simp) ?_
          refine List.forall_mem_cons.2 ⟨fun hShut => wpOp_step rfl (fun K hK => ?_), fun _ h => by cases h⟩
          · go_simp
            refine hK _ _ ⟨fun _ => ⟨(BX.out.bl 0 _ _ _ rfl).alloc_ _, (BX.out.bl 1 _ _ _ rfl).alloc_ _⟩, ?_⟩
            clear hK K
            try simp only [Act.put, List.getElem_toArray, List.getElem_cons_zero, List.getElem_cons_succ, List.setIfInBounds_toArray, List.set_cons_zero, List.set_cons_succ]
            have gs0_x9 : w.heap.size < x9.heap.size := y0
            have gs1_x9 : w.heap.size + 1 < x9.heap.size := y1
            have gs2_x9 : x8.heap.size < x9.heap.size := y2
            clear y0 y1 y2
            refine anyB_world (fun wx => Bxs w wx [(w.heap.size, 24, [.int .i64 su2, .int .i64 la, .int .i64 le]), (w.heap.size + 1, 26, [.int .i64 sp, .int .i64 kp2, .int .i64 ki2, .int .i64 kd2, .int .i64 li2, .int .i64 st2, .int .i64 mo2]), (x8.heap.size, 24, [.int .i64 0, .int .i64 0, .int .i64 0]), (x9.heap.size, 24, [.int .i64 0, .int .i64 0, .int .i64 0])]) ((BX.out).alloc_ _ _ (by simp)) ?_
            clear BX hHeld
            rintro x10 bx
            have BX := Lib.hid bx
            clear bx
            have y0 : w.heap.size < x10.heap.size := (BX.out.bl 0 _ _ _ rfl).size
            have y1 : w.heap.size + 1 < x10.heap.size := (BX.out.bl 1 _ _ _ rfl).size
            have y2 : x8.heap.size < x10.heap.size := (BX.out.bl 2 _ _ _ rfl).size
            have y3 : x9.heap.size < x10.heap.size := (BX.out.bl 3 _ _ _ rfl).size
            have hHeld := And.intro (BX.out.bl 0 _ _ _ rfl) (BX.out.bl 1 _ _ _ rfl)
            refine anyB_each (rs := [10]) hShut (by kernel_rfl) (by simp) ?_
            refine List.forall_mem_cons.2 ⟨fun hShut => wpOp_step rfl (fun K hK => ?_), fun _ h => by cases h⟩
            · have p3_0 : x10.cell? ⟨x9.heap.size, 0, none⟩ = some (.int .i64 0) := (BX.out.bl 3 _ _ _ rfl).val rfl
              have p3_1 : x10.cell? ⟨x9.heap.size, 1, none⟩ = some (.int .i64 0) := (BX.out.bl 3 _ _ _ rfl).val rfl
              have p3_2 : x10.cell? ⟨x9.heap.size, 2, none⟩ = some (.int .i64 0) := (BX.out.bl 3 _ _ _ rfl).val rfl
              have z3 : ∀ k, x10.frozen? ⟨x9.heap.size, k, none⟩ = false := (BX.out.bl 3 _ _ _ rfl).free
              go_simp
              refine unheld hK (by kernel_rfl) ?_
              clear hK K
              try simp only [Act.put, List.getElem_toArray, List.getElem_cons_zero, List.getElem_cons_succ, List.setIfInBounds_toArray, List.set_cons_zero, List.set_cons_succ]
              clear y0 y1 y2 y3 p3_0 p3_1 p3_2 z3
              refine anyB_world (fun wx => Bxs w wx [(w.heap.size, 24, [.int .i64 su2, .int .i64 la, .int .i64 le]), (w.heap.size + 1, 26, [.int .i64 sp, .int .i64 kp2, .int .i64 ki2, .int .i64 kd2, .int .i64 li2, .int .i64 st2, .int .i64 mo2]), (x8.heap.size, 24, [.int .i64 0, .int .i64 0, .int .i64 0]), (x9.heap.size, 24, [.int .i64 c1, .int .i64 c2, .int .i64 c3])]) ((((BX.out).set_ 3 0 rfl _).set_ 3 1 rfl _).set_ 3 2 rfl _) ?_
              clear BX hHeld
              rintro x11 bx
              have BX := Lib.hid bx
              clear bx
              have y0 : w.heap.size < x11.heap.size := (BX.out.bl 0 _ _ _ rfl).size
              have y1 : w.heap.size + 1 < x11.heap.size := (BX.out.bl 1 _ _ _ rfl).size
              have y2 : x8.heap.size < x11.heap.size := (BX.out.bl 2 _ _ _ rfl).size
              have y3 : x9.heap.size < x11.heap.size := (BX.out.bl 3 _ _ _ rfl).size
              refine anyB_each (rs := [11]) hShut (by kernel_rfl) (by simp) ?_
              refine List.forall_mem_cons.2 ⟨fun hShut => wpOp_step rfl (fun K hK => ?_), fun _ h => by cases h⟩
              · have p2_0 : x11.cell? ⟨x8.heap.size, 0, none⟩ = some (.int .i64 0) := (BX.out.bl 2 _ _ _ rfl).val rfl
                have p2_1 : x11.cell? ⟨x8.heap.size, 1, none⟩ = some (.int .i64 0) := (BX.out.bl 2 _ _ _ rfl).val rfl
                have p2_2 : x11.cell? ⟨x8.heap.size, 2, none⟩ = some (.int .i64 0) := (BX.out.bl 2 _ _ _ rfl).val rfl
                have z2 : ∀ k, x11.frozen? ⟨x8.heap.size, k, none⟩ = false := (BX.out.bl 2 _ _ _ rfl).free
                go_simp
                refine unheld hK (by kernel_rfl) ?_
                clear hK K
                try simp only [Act.put, List.getElem_toArray, List.getElem_cons_zero, List.getElem_cons_succ, List.setIfInBounds_toArray, List.set_cons_zero, List.set_cons_succ]
                clear y0 y1 y2 y3 p2_0 p2_1 p2_2 z2
                refine anyB_world (fun wx => Bxs w wx [(w.heap.size, 24, [.int .i64 su2, .int .i64 la, .int .i64 le]), (w.heap.size + 1, 26, [.int .i64 sp, .int .i64 kp2, .int .i64 ki2, .int .i64 kd2, .int .i64 li2, .int .i64 st2, .int .i64 mo2]), (x8.heap.size, 24, [.int .i64 f1, .int .i64 f2, .int .i64 f3]), (x9.heap.size, 24, [.int .i64 c1, .int .i64 c2, .int .i64 c3])]) ((((BX.out).set_ 2 0 rfl _).set_ 2 1 rfl _).set_ 2 2 rfl _) ?_
                clear BX
                rintro x12 bx
                have BX := Lib.hid bx
                clear bx
                have y0 : w.heap.size < x12.heap.size := (BX.out.bl 0 _ _ _ rfl).size
                have y1 : w.heap.size + 1 < x12.heap.size := (BX.out.bl 1 _ _ _ rfl).size
                have y2 : x8.heap.size < x12.heap.size := (BX.out.bl 2 _ _ _ rfl).size
                have y3 : x9.heap.size < x12.heap.size := (BX.out.bl 3 _ _ _ rfl).size
                clear y0 y1 y2 y3
                have p2_0 : x12.cell? ⟨x8.heap.size, 0, none⟩ = some (.int .i64 f1) := (BX.out.bl 2 _ _ _ rfl).val rfl
                have p2_1 : x12.cell? ⟨x8.heap.size, 1, none⟩ = some (.int .i64 f2) := (BX.out.bl 2 _ _ _ rfl).val rfl
                have p2_2 : x12.cell? ⟨x8.heap.size, 2, none⟩ = some (.int .i64 f3) := (BX.out.bl 2 _ _ _ rfl).val rfl
                have z2 : ∀ k, x12.frozen? ⟨x8.heap.size, k, none⟩ = false := (BX.out.bl 2 _ _ _ rfl).free
                have y2 : x8.heap.size < x12.heap.size := (BX.out.bl 2 _ _ _ rfl).size
                have p3_0 : x12.cell? ⟨x9.heap.size, 0, none⟩ = some (.int .i64 c1) := (BX.out.bl 3 _ _ _ rfl).val rfl
                have p3_1 : x12.cell? ⟨x9.heap.size, 1, none⟩ = some (.int .i64 c2) := (BX.out.bl 3 _ _ _ rfl).val rfl
                have p3_2 : x12.cell? ⟨x9.heap.size, 2, none⟩ = some (.int .i64 c3) := (BX.out.bl 3 _ _ _ rfl).val rfl
                have z3 : ∀ k, x12.frozen? ⟨x9.heap.size, k, none⟩ = false := (BX.out.bl 3 _ _ _ rfl).free
                have y3 : x9.heap.size < x12.heap.size := (BX.out.bl 3 _ _ _ rfl).size
                refine anyB_done (by kernel_rfl) ?_ _
                refine NoPanic.normal ?_
                go_wp2_with fail
                refine bodyPost_ret (v := .bool true) (by simp [results, Try.results6, go_sem, *]) rfl ⟨rfl, BX.out.be⟩
      refine List.forall_mem_cons.2 ⟨fun hShut => wpOp_step rfl (fun K hK => ?_), ?_⟩
      · go_simp
        refine hK _ _ ⟨fun _ => ⟨(BX.out.bl 0 _ _ _ rfl).alloc_ _, (BX.out.bl 1 _ _ _ rfl).alloc_ _⟩, ?_⟩
        clear hK K
        try simp only [Act.put, List.getElem_toArray, List.getElem_cons_zero, List.getElem_cons_succ, List.setIfInBounds_toArray, List.set_cons_zero, List.set_cons_succ]
        have gs0_x7 : w.heap.size < x7.heap.size := y0
        have gs1_x7 : w.heap.size + 1 < x7.heap.size := y1
        clear y0 y1
        refine anyB_world (fun wx => Bxs w wx [(w.heap.size, 24, [.int .i64 su2, .int .i64 la, .int .i64 le]), (w.heap.size + 1, 26, [.int .i64 sp, .int .i64 kp2, .int .i64 ki2, .int .i64 kd2, .int .i64 li2, .int .i64 st2, .int .i64 mo2]), (x7.heap.size, 24, [.int .i64 0, .int .i64 0, .int .i64 0])]) ((BX.out).alloc_ _ _ (by simp)) ?_
        clear BX hHeld
        rintro x8 bx
        have BX := Lib.hid bx
        clear bx
        have y0 : w.heap.size < x8.heap.size := (BX.out.bl 0 _ _ _ rfl).size
        have y1 : w.heap.size + 1 < x8.heap.size := (BX.out.bl 1 _ _ _ rfl).size
        have y2 : x7.heap.size < x8.heap.size := (BX.out.bl 2 _ _ _ rfl).size
        have hHeld := And.intro (BX.out.bl 0 _ _ _ rfl) (BX.out.bl 1 _ _ _ rfl)
        refine anyB_each (rs := [7, 9]) hShut (by kernel_rfl) (by simp) ?_
        refine List.forall_mem_cons.2 ⟨fun hShut => wpOp_step rfl (fun K hK => ?_), ?_⟩
        · rw [if_pos (by rfl)]
          refine wp_enter (by go_simp; exact ⟨rfl, rfl⟩) ?_
          refine (psamp_lit su2 la le sp kp2 ki2 kd2 li2 st2 mo2 v f1 f2 f3 HY _ SK0.out.u0 SK0.out.u1 la0 la1 le0 le1 sp0 sp1 PO.out.kp0 PO.out.kp1 PO.out.ki0 PO.out.ki1 PO.out.kd0 PO.out.kd1 PO.out.li0 PO.out.li1 PO.out.st0 PO.out.st1 PO.out.mo0 PO.out.mo1 v0 v1).mono ?_
          rintro e x9 ⟨rfl, hbn⟩
          have bx := BX.out.below hbn
          clear y0 y1 y2
          clear BX hbn hHeld
          have BX := Lib.hid bx
          clear bx
          have y0 : w.heap.size < x9.heap.size := (BX.out.bl 0 _ _ _ rfl).size
          have y1 : w.heap.size + 1 < x9.heap.size := (BX.out.bl 1 _ _ _ rfl).size
          have y2 : x7.heap.size < x9.heap.size := (BX.out.bl 2 _ _ _ rfl).size
          have hHeld := And.intro (BX.out.bl 0 _ _ _ rfl) (BX.out.bl 1 _ _ _ rfl)
          refine ⟨_, rfl, ?_⟩
          refine hK _ _ ⟨fun _ => hHeld, ?_⟩
          clear hK K
          try simp only [Act.put, List.getElem_toArray, List.getElem_cons_zero, List.getElem_cons_succ, List.setIfInBounds_toArray, List.set_cons_zero, List.set_cons_succ]
          refine anyB_each (rs := [9]) hShut (by kernel_rfl) (by simp) ?_
          refine List.forall_mem_cons.2 ⟨fun hShut => wpOp_step rfl (fun K hK => ?_), fun _ h => by cases h⟩
          · go_simp
            refine hK _ _ ⟨fun _ => ⟨(BX.out.bl 0 _ _ _ rfl).alloc_ _, (BX.out.bl 1 _ _ _ rfl).alloc_ _⟩, ?_⟩
            clear hK K
            try simp only [Act.put, List.getElem_toArray, List.getElem_cons_zero, List.getElem_cons_succ, List.setIfInBounds_toArray, List.set_cons_zero, List.set_cons_succ]
            have gs0_x9 : w.heap.size < x9.heap.size := y0
            have gs1_x9 : w.heap.size + 1 < x9.heap.size := y1
            have gs2_x9 : x7.heap.size < x9.heap.size := y2
            clear y0 y1 y2
            refine anyB_world (fun wx => Bxs w wx [(w.heap.size, 24, [.int .i64 su2, .int .i64 la, .int .i64 le]), (w.heap.size + 1, 26, [.int .i64 sp, .int .i64 kp2, .int .i64 ki2, .int .i64 kd2, .int .i64 li2, .int .i64 st2, .int .i64 mo2]), (x7.heap.size, 24, [.int .i64 0, .int .i64 0, .int .i64 0]), (x9.heap.size, 24, [.int .i64 0, .int .i64 0, .int .i64 0])]) ((BX.out).alloc_ _ _ (by simp)) ?_
            clear BX hHeld
            rintro x10 bx
            have BX := Lib.hid bx
            clear bx
            have y0 : w.heap.size < x10.heap.size := (BX.out.bl 0 _ _ _ rfl).size
            have y1 : w.heap.size + 1 < x10.heap.size := (BX.out.bl 1 _ _ _ rfl).size
            have y2 : x7.heap.size < x10.heap.size := (BX.out.bl 2 _ _ _ rfl).size
            have y3 : x9.heap.size < x10.heap.size := (BX.out.bl 3 _ _ _ rfl).size
            have hHeld := And.intro (BX.out.bl 0 _ _ _ rfl) (BX.out.bl 1 _ _ _ rfl)
            refine anyB_each (rs := [10]) hShut (by kernel_rfl) (by simp) ?_
            refine List.forall_mem_cons.2 ⟨fun hShut => wpOp_step rfl (fun K hK => ?_), fun _ h => by cases h⟩
            · have p2_0 : x10.cell? ⟨x7.heap.size, 0, none⟩ = some (.int .i64 0) := (BX.out.bl 2 _ _ _ rfl).val rfl
              have p2_1 : x10.cell? ⟨x7.heap.size, 1, none⟩ = some (.int .i64 0) := (BX.out.bl 2 _ _ _ rfl).val rfl
              have p2_2 : x10.cell? ⟨x7.heap.size, 2, none⟩ = some (.int .i64 0) := (BX.out.bl 2 _ _ _ rfl).val rfl
              have z2 : ∀ k, x10.frozen? ⟨x7.heap.size, k, none⟩ = false := (BX.out.bl 2 _ _ _ rfl).free
              go_simp
              refine unheld hK (by kernel_rfl) ?_
              clear hK K
              try simp only [Act.put, List.getElem_toArray, List.getElem_cons_zero, List.getElem_cons_succ, List.setIfInBounds_toArray, List.set_cons_zero, List.set_cons_succ]
              clear y0 y1 y2 y3 p2_0 p2_1 p2_2 z2
              refine anyB_world (fun wx => Bxs w wx [(w.heap.size, 24, [.int .i64 su2, .int .i64 la, .int .i64 le]), (w.heap.size + 1, 26, [.int .i64 sp, .int .i64 kp2, .int .i64 ki2, .int .i64 kd2, .int .i64 li2, .int .i64 st2, .int .i64 mo2]), (x7.heap.size, 24, [.int .i64 c1, .int .i64 c2, .int .i64 c3]), (x9.heap.size, 24, [.int .i64 0, .int .i64 0, .int .i64 0])]) ((((BX.out).set_ 2 0 rfl _).set_ 2 1 rfl _).set_ 2 2 rfl _) ?_
              clear BX hHeld
              rintro x11 bx
              have BX := Lib.hid bx
              clear bx
              have y0 : w.heap.size < x11.heap.size := (BX.out.bl 0 _ _ _ rfl).size
              have y1 : w.heap.size + 1 < x11.heap.size := (BX.out.bl 1 _ _ _ rfl).size
              have y2 : x7.heap.size < x11.heap.size := (BX.out.bl 2 _ _ _ rfl).size
              have y3 : x9.heap.size < x11.heap.size := (BX.out.bl 3 _ _ _ rfl).size
              refine anyB_each (rs := [11]) hShut (by kernel_rfl) (by simp) ?_
              refine List.forall_mem_cons.2 ⟨fun hShut => wpOp_step rfl (fun K hK => ?_), fun _ h => by cases h⟩
              · have p3_0 : x11.cell? ⟨x9.heap.size, 0, none⟩ = some (.int .i64 0) := (BX.out.bl 3 _ _ _ rfl).val rfl
                have p3_1 : x11.cell? ⟨x9.heap.size, 1, none⟩ = some (.int .i64 0) := (BX.out.bl 3 _ _ _ rfl).val rfl
                have p3_2 : x11.cell? ⟨x9.heap.size, 2, none⟩ = some (.int .i64 0) := (BX.out.bl 3 _ _ _ rfl).val rfl
                have z3 : ∀ k, x11.frozen? ⟨x9.heap.size, k, none⟩ = false := (BX.out.bl 3 _ _ _ rfl).free
                go_simp
                refine unheld hK (by kernel_rfl) ?_
                clear hK K
                try simp only [Act.put, List.getElem_toArray, List.getElem_cons_zero, List.getElem_cons_succ, List.setIfInBounds_toArray, List.set_cons_zero, List.set_cons_succ]
                clear y0 y1 y2 y3 p3_0 p3_1 p3_2 z3
                refine anyB_world (fun wx => Bxs w wx [(w.heap.size, 24, [.int .i64 su2, .int .i64 la, .int .i64 le]), (w.heap.size + 1, 26, [.int .i64 sp, .int .i64 kp2, .int .i64 ki2, .int .i64 kd2, .int .i64 li2, .int .i64 st2, .int .i64 mo2]), (x7.heap.size, 24, [.int .i64 c1, .int .i64 c2, .int .i64 c3]), (x9.heap.size, 24, [.int .i64 f1, .int .i64 f2, .int .i64 f3])]) ((((BX.out).set_ 3 0 rfl _).set_ 3 1 rfl _).set_ 3 2 rfl _) ?_
                clear BX
                rintro x12 bx
                have BX := Lib.hid bx
                clear bx
                have y0 : w.heap.size < x12.heap.size := (BX.out.bl 0 _ _ _ rfl).size
                have y1 : w.heap.size + 1 < x12.heap.size := (BX.out.bl 1 _ _ _ rfl).size
                have y2 : x7.heap.size < x12.heap.size := (BX.out.bl 2 _ _ _ rfl).size
                have y3 : x9.heap.size < x12.heap.size := (BX.out.bl 3 _ _ _ rfl).size
                clear y0 y1 y2 y3
                have p2_0 : x12.cell? ⟨x7.heap.size, 0, none⟩ = some (.int .i64 c1) := (BX.out.bl 2 _ _ _ rfl).val rfl
                have p2_1 : x12.cell? ⟨x7.heap.size, 1, none⟩ = some (.int .i64 c2) := (BX.out.bl 2 _ _ _ rfl).val rfl
                have p2_2 : x12.cell? ⟨x7.heap.size, 2, none⟩ = some (.int .i64 c3) := (BX.out.bl 2 _ _ _ rfl).val rfl
                have z2 : ∀ k, x12.frozen? ⟨x7.heap.size, k, none⟩ = false := (BX.out.bl 2 _ _ _ rfl).free
                have y2 : x7.heap.size < x12.heap.size := (BX.out.bl 2 _ _ _ rfl).size
                have p3_0 : x12.cell? ⟨x9.heap.size, 0, none⟩ = some (.int .i64 f1) := (BX.out.bl 3 _ _ _ rfl).val rfl
                have p3_1 : x12.cell? ⟨x9.heap.size, 1, none⟩ = some (.int .i64 f2) := (BX.out.bl 3 _ _ _ rfl).val rfl
                have p3_2 : x12.cell? ⟨x9.heap.size, 2, none⟩ = some (.int .i64 f3) := (BX.out.bl 3 _ _ _ rfl).val rfl
                have z3 : ∀ k, x12.frozen? ⟨x9.heap.size, k, none⟩ = false := (BX.out.bl 3 _ _ _ rfl).free
                have y3 : x9.heap.size < x12.heap.size := (BX.out.bl 3 _ _ _ rfl).size
                refine anyB_done (by kernel_rfl) ?_ _
                refine NoPanic.normal ?_
                go_wp2_with fail
                refine bodyPost_ret (v := .bool true) (by simp [results, Try.results6, go_sem, *]) rfl ⟨rfl, BX.out.be⟩
        refine List.forall_mem_cons.2 ⟨fun hShut => wpOp_step rfl (fun K hK => ?_), fun _ h => by cases h⟩
        · go_simp
          refine hK _ _ ⟨fun _ => ⟨(BX.out.bl 0 _ _ _ rfl).alloc_ _, (BX.out.bl 1 _ _ _ rfl).alloc_ _⟩, ?_⟩
          clear hK K
          try simp only [Act.put, List.getElem_toArray, List.getElem_cons_zero, List.getElem_cons_succ, List.setIfInBounds_toArray, List.set_cons_zero, List.set_cons_succ]
          have gs0_x8 : w.heap.size < x8.heap.size := y0
          have gs1_x8 : w.heap.size + 1 < x8.heap.size := y1
          have gs2_x8 : x7.heap.size < x8.heap.size := y2
          clear y0 y1 y2
          refine anyB_world (fun wx => Bxs w wx [(w.heap.size, 24, [.int .i64 su2, .int .i64 la, .int .i64 le]), (w.heap.size + 1, 26, [.int .i64 sp, .int .i64 kp2, .int .i64 ki2, .int .i64 kd2, .int .i64 li2, .int .i64 st2, .int .i64 mo2]), (x7.heap.size, 24, [.int .i64 0, .int .i64 0, .int .i64 0]), (x8.heap.size, 24, [.int .i64 0, .int .i64 0, .int .i64 0])]) ((BX.out).alloc_ _ _ (by simp)) ?_
          clear BX hHeld
          rintro x9 bx
          have BX := Lib.hid bx
          clear bx
          have y0 : w.heap.size < x9.heap.size := (BX.out.bl 0 _ _ _ rfl).size
          have y1 : w.heap.size + 1 < x9.heap.size := (BX.out.bl 1 _ _ _ rfl).size
          have y2 : x7.heap.size < x9.heap.size := (BX.out.bl 2 _ _ _ rfl).size
          have y3 : x8.heap.size < x9.heap.size := (BX.out.bl 3 _ _ _ rfl).size
          have hHeld := And.intro (BX.out.bl 0 _ _ _ rfl) (BX.out.bl 1 _ _ _ rfl)
          refine anyB_each (rs := [7]) hShut (by kernel_rfl) (by simp) ?_
          refine List.forall_mem_cons.2 ⟨fun hShut => wpOp_step rfl (fun K hK => ?_), fun _ h => by cases h⟩
          · rw [if_pos (by rfl)]
            refine wp_enter (by go_simp; exact ⟨rfl, rfl⟩) ?_
            refine (psamp_lit su2 la le sp kp2 ki2 kd2 li2 st2 mo2 v f1 f2 f3 HY _ SK0.out.u0 SK0.out.u1 la0 la1 le0 le1 sp0 sp1 PO.out.kp0 PO.out.kp1 PO.out.ki0 PO.out.ki1 PO.out.kd0 PO.out.kd1 PO.out.li0 PO.out.li1 PO.out.st0 PO.out.st1 PO.out.mo0 PO.out.mo1 v0 v1).mono ?_
            rintro e x10 ⟨rfl, hbn⟩
            have bx := BX.out.below hbn
            clear y0 y1 y2 y3
            clear BX hbn hHeld
            have BX := Lib.hid bx
            clear bx
            have y0 : w.heap.size < x10.heap.size := (BX.out.bl 0 _ _ _ rfl).size
            have y1 : w.heap.size + 1 < x10.heap.size := (BX.out.bl 1 _ _ _ rfl).size
            have y2 : x7.heap.size < x10.heap.size := (BX.out.bl 2 _ _ _ rfl).size
            have y3 : x8.heap.size < x10.heap.size := (BX.out.bl 3 _ _ _ rfl).size
            have hHeld := And.intro (BX.out.bl 0 _ _ _ rfl) (BX.out.bl 1 _ _ _ rfl)
            refine ⟨_, rfl, ?_⟩
            refine hK _ _ ⟨fun _ => hHeld, ?_⟩
            clear hK K
            try simp only [Act.put, List.getElem_toArray, List.getElem_cons_zero, List.getElem_cons_succ, List.setIfInBounds_toArray, List.set_cons_zero, List.set_cons_succ]
            refine anyB_each (rs := [10]) hShut (by kernel_rfl) (by simp) ?_
            refine List.forall_mem_cons.2 ⟨fun hShut => wpOp_step rfl (fun K hK => ?_), fun _ h => by cases h⟩
            · have p2_0 : x10.cell? ⟨x7.heap.size, 0, none⟩ = some (.int .i64 0) := (BX.out.bl 2 _ _ _ rfl).val rfl
              have p2_1 : x10.cell? ⟨x7.heap.size, 1, none⟩ = some (.int .i64 0) := (BX.out.bl 2 _ _ _ rfl).val rfl
              have p2_2 : x10.cell? ⟨x7.heap.size, 2, none⟩ = some (.int .i64 0) := (BX.out.bl 2 _ _ _ rfl).val rfl
              have z2 : ∀ k, x10.frozen? ⟨x7.heap.size, k, none⟩ = false := (BX.out.bl 2 _ _ _ rfl).free
              go_simp
              refine unheld hK (by kernel_rfl) ?_
              clear hK K
              try simp only [Act.put, List.getElem_toArray, List.getElem_cons_zero, List.getElem_cons_succ, List.setIfInBounds_toArray, List.set_cons_zero, List.set_cons_succ]
              clear y0 y1 y2 y3 p2_0 p2_1 p2_2 z2
              refine anyB_world (fun wx => Bxs w wx [(w.heap.size, 24, [.int .i64 su2, .int .i64 la, .int .i64 le]), (w.heap.size + 1, 26, [.int .i64 sp, .int .i64 kp2, .int .i64 ki2, .int .i64 kd2, .int .i64 li2, .int .i64 st2, .int .i64 mo2]), (x7.heap.size, 24, [.int .i64 c1, .int .i64 c2, .int .i64 c3]), (x8.heap.size, 24, [.int .i64 0, .int .i64 0, .int .i64 0])]) ((((BX.out).set_ 2 0 rfl _).set_ 2 1 rfl _).set_ 2 2 rfl _) ?_
              clear BX hHeld
              rintro x11 bx
              have BX := Lib.hid bx
              clear bx
              have y0 : w.heap.size < x11.heap.size := (BX.out.bl 0 _ _ _ rfl).size
              have y1 : w.heap.size + 1 < x11.heap.size := (BX.out.bl 1 _ _ _ rfl).size
              have y2 : x7.heap.size < x11.heap.size := (BX.out.bl 2 _ _ _ rfl).size
              have y3 : x8.heap.size < x11.heap.size := (BX.out.bl 3 _ _ _ rfl).size
              refine anyB_each (rs := [11]) hShut (by kernel_rfl) (by simp) ?_
              refine List.forall_mem_cons.2 ⟨fun hShut => wpOp_step rfl (fun K hK => ?_), fun _ h => by cases h⟩
              · have p3_0 : x11.cell? ⟨x8.heap.size, 0, none⟩ = some (.int .i64 0) := (BX.out.bl 3 _ _ _ rfl).val rfl
                have p3_1 : x11.cell? ⟨x8.heap.size, 1, none⟩ = some (.int .i64 0) := (BX.out.bl 3 _ _ _ rfl).val rfl
                have p3_2 : x11.cell? ⟨x8.heap.size, 2, none⟩ = some (.int .i64 0) := (BX.out.bl 3 _ _ _ rfl).val rfl
                have z3 : ∀ k, x11.frozen? ⟨x8.heap.size, k, none⟩ = false := (BX.out.bl 3 _ _ _ rfl).free
                go_simp
                refine unheld hK (by kernel_rfl) ?_
                clear hK K
                try simp only [Act.put, List.getElem_toArray, List.getElem_cons_zero, List.getElem_cons_succ, List.setIfInBounds_toArray, List.set_cons_zero, List.set_cons_succ]
                clear y0 y1 y2 y3 p3_0 p3_1 p3_2 z3
                refine anyB_world (fun wx => Bxs w wx [(w.heap.size, 24, [.int .i64 su2, .int .i64 la, .int .i64 le]), (w.heap.size + 1, 26, [.int .i64 sp, .int .i64 kp2, .int .i64 ki2, .int .i64 kd2, .int .i64 li2, .int .i64 st2, .int .i64 mo2]), (x7.heap.size, 24, [.int .i64 c1, .int .i64 c2, .int .i64 c3]), (x8.heap.size, 24, [.int .i64 f1, .int .i64 f2, .int .i64 f3])]) ((((BX.out).set_ 3 0 rfl _).set_ 3 1 rfl _).set_ 3 2 rfl _) ?_
                clear BX
                rintro x12 bx
                have BX := Lib.hid bx
                clear bx
                have y0 : w.heap.size < x12.heap.size := (BX.out.bl 0 _ _ _ rfl).size
                have y1 : w.heap.size + 1 < x12.heap.size := (BX.out.bl 1 _ _ _ rfl).size
                have y2 : x7.heap.size < x12.heap.size := (BX.out.bl 2 _ _ _ rfl).size
                have y3 : x8.heap.size < x12.heap.size := (BX.out.bl 3 _ _ _ rfl).size
                clear y0 y1 y2 y3
                have p2_0 : x12.cell? ⟨x7.heap.size, 0, none⟩ = some (.int .i64 c1) := (BX.out.bl 2 _ _ _ rfl).val rfl
                have p2_1 : x12.cell? ⟨x7.heap.size, 1, none⟩ = some (.int .i64 c2) := (BX.out.bl 2 _ _ _ rfl).val rfl
                have p2_2 : x12.cell? ⟨x7.heap.size, 2, none⟩ = some (.int .i64 c3) := (BX.out.bl 2 _ _ _ rfl).val rfl
                have z2 : ∀ k, x12.frozen? ⟨x7.heap.size, k, none⟩ = false := (BX.out.bl 2 _ _ _ rfl).free
                have y2 : x7.heap.size < x12.heap.size := (BX.out.bl 2 _ _ _ rfl).size
                have p3_0 : x12.cell? ⟨x8.heap.size, 0, none⟩ = some (.int .i64 f1) := (BX.out.bl 3 _ _ _ rfl).val rfl
                have p3_1 : x12.cell? ⟨x8.heap.size, 1, none⟩ = some (.int .i64 f2) := (BX.out.bl 3 _ _ _ rfl).val rfl
                have p3_2 : x12.cell? ⟨x8.heap.size, 2, none⟩ = some (.int .i64 f3) := (BX.out.bl 3 _ _ _ rfl).val rfl
                have z3 : ∀ k, x12.frozen? ⟨x8.heap.size, k, none⟩ = false := (BX.out.bl 3 _ _ _ rfl).free
                have y3 : x8.heap.size < x12.heap.size := (BX.out.bl 3 _ _ _ rfl).size
                refine anyB_done (by kernel_rfl) ?_ _
                refine NoPanic.normal ?_
                go_wp2_with fail
                refine bodyPost_ret (v := .bool true) (by simp [results, Try.results6, go_sem, *]) rfl ⟨rfl, BX.out.be⟩
      refine List.forall_mem_cons.2 ⟨fun hShut => wpOp_step rfl (fun K hK => ?_), fun _ h => by cases h⟩
      · go_simp
        refine hK _ _ ⟨fun _ => ⟨(BX.out.bl 0 _ _ _ rfl).alloc_ _, (BX.out.bl 1 _ _ _ rfl).alloc_ _⟩, ?_⟩
        clear hK K
        try simp only [Act.put, List.getElem_toArray, List.getElem_cons_zero, List.getElem_cons_succ, List.setIfInBounds_toArray, List.set_cons_zero, List.set_cons_succ]
        have gs0_x7 : w.heap.size < x7.heap.size := y0
        have gs1_x7 : w.heap.size + 1 < x7.heap.size := y1
        clear y0 y1
        refine anyB_world (fun wx => Bxs w wx [(w.heap.size, 24, [.int .i64 su2, .int .i64 la, .int .i64 le]), (w.heap.size + 1, 26, [.int .i64 sp, .int .i64 kp2, .int .i64 ki2, .int .i64 kd2, .int .i64 li2, .int .i64 st2, .int .i64 mo2]), (x7.heap.size, 24, [.int .i64 0, .int .i64 0, .int .i64 0])]) ((BX.out).alloc_ _ _ (by simp)) ?_
        clear BX hHeld
        rintro x8 bx
        have BX := Lib.hid bx
        clear bx
        have y0 : w.heap.size < x8.heap.size := (BX.out.bl 0 _ _ _ rfl).size
        have y1 : w.heap.size + 1 < x8.heap.size := (BX.out.bl 1 _ _ _ rfl).size
        have y2 : x7.heap.size < x8.heap.size := (BX.out.bl 2 _ _ _ rfl).size
        have hHeld := And.intro (BX.out.bl 0 _ _ _ rfl) (BX.out.bl 1 _ _ _ rfl)
        refine anyB_each (rs := [7, 8]) hShut (by kernel_rfl) (by simp) ?_
        refine List.forall_mem_cons.2 ⟨fun hShut => wpOp_step rfl (fun K hK => ?_), ?_⟩
        · rw [if_pos (by rfl)]
          refine wp_enter (by go_simp; exact ⟨rfl, rfl⟩) ?_
          refine (psamp_lit su2 la le sp kp2 ki2 kd2 li2 st2 mo2 v f1 f2 f3 HY _ SK0.out.u0 SK0.out.u1 la0 la1 le0 le1 sp0 sp1 PO.out.kp0 PO.out.kp1 PO.out.ki0 PO.out.ki1 PO.out.kd0 PO.out.kd1 PO.out.li0 PO.out.li1 PO.out.st0 PO.out.st1 PO.out.mo0 PO.out.mo1 v0 v1).mono ?_
          rintro e x9 ⟨rfl, hbn⟩
          have bx := BX.out.below hbn
          clear y0 y1 y2
          clear BX hbn hHeld
          have BX := Lib.hid bx
          clear bx
          have y0 : w.heap.size < x9.heap.size := (BX.out.bl 0 _ _ _ rfl).size
          have y1 : w.heap.size + 1 < x9.heap.size := (BX.out.bl 1 _ _ _ rfl).size
          have y2 : x7.heap.size < x9.heap.size := (BX.out.bl 2 _ _ _ rfl).size
          have hHeld := And.intro (BX.out.bl 0 _ _ _ rfl) (BX.out.bl 1 _ _ _ rfl)
          refine ⟨_, rfl, ?_⟩
          refine hK _ _ ⟨fun _ => hHeld, ?_⟩
          clear hK K
          try simp only [Act.put, List.getElem_toArray, List.getElem_cons_zero, List.getElem_cons_succ, List.setIfInBounds_toArray, List.set_cons_zero, List.set_cons_succ]
          refine anyB_each (rs := [8]) hShut (by kernel_rfl) (by simp) ?_
          refine List.forall_mem_cons.2 ⟨fun hShut => wpOp_step rfl (fun K hK => ?_), fun _ h => by cases h⟩
          · go_simp
            refine hK _ _ ⟨fun _ => ⟨(BX.out.bl 0 _ _ _ rfl).alloc_ _, (BX.out.bl 1 _ _ _ rfl).alloc_ _⟩, ?_⟩
            clear hK K
            try simp only [Act.put, List.getElem_toArray, List.getElem_cons_zero, List.getElem_cons_succ, List.setIfInBounds_toArray, List.set_cons_zero, List.set_cons_succ]
            have gs0_x9 : w.heap.size < x9.heap.size := y0
            have gs1_x9 : w.heap.size + 1 < x9.heap.size := y1
            have gs2_x9 : x7.heap.size < x9.heap.size := y2
            clear y0 y1 y2
            refine anyB_world (fun wx => Bxs w wx [(w.heap.size, 24, [.int .i64 su2, .int .i64 la, .int .i64 le]), (w.heap.size + 1, 26, [.int .i64 sp, .int .i64 kp2, .int .i64 ki2, .int .i64 kd2, .int .i64 li2, .int .i64 st2, .int .i64 mo2]), (x7.heap.size, 24, [.int .i64 0, .int .i64 0, .int .i64 0]), (x9.heap.size, 24, [.int .i64 0, .int .i64 0, .int .i64 0])]) ((BX.out).alloc_ _ _ (by simp)) ?_
            clear BX hHeld
            rintro x10 bx
            have BX := Lib.hid bx
            clear bx
            have y0 : w.heap.size < x10.heap.size := (BX.out.bl 0 _ _ _ rfl).size
            have y1 : w.heap.size + 1 < x10.heap.size := (BX.out.bl 1 _ _ _ rfl).size
            have y2 : x7.heap.size < x10.heap.size := (BX.out.bl 2 _ _ _ rfl).size
            have y3 : x9.heap.size < x10.heap.size := (BX.out.bl 3 _ _ _ rfl).size
            have hHeld := And.intro (BX.out.bl 0 _ _ _ rfl) (BX.out.bl 1 _ _ _ rfl)
            refine anyB_each (rs := [10]) hShut (by kernel_rfl) (by simp) ?_
            refine List.forall_mem_cons.2 ⟨fun hShut => wpOp_step rfl (fun K hK => ?_), fun _ h => by cases h⟩
            · have p3_0 : x10.cell? ⟨x9.heap.size, 0, none⟩ = some (.int .i64 0) := (BX.out.bl 3 _ _ _ rfl).val rfl
              have p3_1 : x10.cell? ⟨x9.heap.size, 1, none⟩ = some (.int .i64 0) := (BX.out.bl 3 _ _ _ rfl).val rfl
              have p3_2 : x10.cell? ⟨x9.heap.size, 2, none⟩ = some (.int .i64 0) := (BX.out.bl 3 _ _ _ rfl).val rfl
              have z3 : ∀ k, x10.frozen? ⟨x9.heap.size, k, none⟩ = false := (BX.out.bl 3 _ _ _ rfl).free
              go_simp
              refine unheld hK (by kernel_rfl) ?_
              clear hK K
              try simp only [Act.put, List.getElem_toArray, List.getElem_cons_zero, List.getElem_cons_succ, List.setIfInBounds_toArray, List.set_cons_zero, List.set_cons_succ]
              clear y0 y1 y2 y3 p3_0 p3_1 p3_2 z3
              refine anyB_world (fun wx => Bxs w wx [(w.heap.size, 24, [.int .i64 su2, .int .i64 la, .int .i64 le]), (w.heap.size + 1, 26, [.int .i64 sp, .int .i64 kp2, .int .i64 ki2, .int .i64 kd2, .int .i64 li2, .int .i64 st2, .int .i64 mo2]), (x7.heap.size, 24, [.int .i64 0, .int .i64 0, .int .i64 0]), (x9.heap.size, 24, [.int .i64 c1, .int .i64 c2, .int .i64 c3])]) ((((BX.out).set_ 3 0 rfl _).set_ 3 1 rfl _).set_ 3 2 rfl _) ?_
              clear BX hHeld
              rintro x11 bx
              have BX := Lib.hid bx
              clear bx
              have y0 : w.heap.size < x11.heap.size := (BX.out.bl 0 _ _ _ rfl).size
              have y1 : w.heap.size + 1 < x11.heap.size := (BX.out.bl 1 _ _ _ rfl).size
              have y2 : x7.heap.size < x11.heap.size := (BX.out.bl 2 _ _ _ rfl).size
              have y3 : x9.heap.size < x11.heap.size := (BX.out.bl 3 _ _ _ rfl).size
              refine anyB_each (rs := [11]) hShut (by kernel_rfl) (by simp) ?_
              refine List.forall_mem_cons.2 ⟨fun hShut => wpOp_step rfl (fun K hK => ?_), fun _ h => by cases h⟩
              · have p2_0 : x11.cell? ⟨x7.heap.size, 0, none⟩ = some (.int .i64 0) := (BX.out.bl 2 _ _ _ rfl).val rfl
                have p2_1 : x11.cell? ⟨x7.heap.size, 1, none⟩ = some (.int .i64 0) := (BX.out.bl 2 _ _ _ rfl).val rfl
                have p2_2 : x11.cell? ⟨x7.heap.size, 2, none⟩ = some (.int .i64 0) := (BX.out.bl 2 _ _ _ rfl).val rfl
                have z2 : ∀ k, x11.frozen? ⟨x7.heap.size, k, none⟩ = false := (BX.out.bl 2 _ _ _ rfl).free
                go_simp
                refine unheld hK (by kernel_rfl) ?_
                clear hK K
                try simp only [Act.put, List.getElem_toArray, List.getElem_cons_zero, List.getElem_cons_succ, List.setIfInBounds_toArray, List.set_cons_zero, List.set_cons_succ]
                clear y0 y1 y2 y3 p2_0 p2_1 p2_2 z2
                refine anyB_world (fun wx => Bxs w wx [(w.heap.size, 24, [.int .i64 su2, .int .i64 la, .int .i64 le]), (w.heap.size + 1, 26, [.int .i64 sp, .int .i64 kp2, .int .i64 ki2, .int .i64 kd2, .int .i64 li2, .int .i64 st2, .int .i64 mo2]), (x7.heap.size, 24, [.int .i64 f1, .int .i64 f2, .int .i64 f3]), (x9.heap.size, 24, [.int .i64 c1, .int .i64 c2, .int .i64 c3])]) ((((BX.out).set_ 2 0 rfl _).set_ 2 1 rfl _).set_ 2 2 rfl _) ?_
                clear BX
                rintro x12 bx
                have BX := Lib.hid bx
                clear bx
                have y0 : w.heap.size < x12.heap.size := (BX.out.bl 0 _ _ _ rfl).size
                have y1 : w.heap.size + 1 < x12.heap.size := (BX.out.bl 1 _ _ _ rfl).size
                have y2 : x7.heap.size < x12.heap.size := (BX.out.bl 2 _ _ _ rfl).size
                have y3 : x9.heap.size < x12.heap.size := (BX.out.bl 3 _ _ _ rfl).size
                clear y0 y1 y2 y3
                have p2_0 : x12.cell? ⟨x7.heap.size, 0, none⟩ = some (.int .i64 f1) := (BX.out.bl 2 _ _ _ rfl).val rfl
                have p2_1 : x12.cell? ⟨x7.heap.size, 1, none⟩ = some (.int .i64 f2) := (BX.out.bl 2 _ _ _ rfl).val rfl
                have p2_2 : x12.cell? ⟨x7.heap.size, 2, none⟩ = some (.int .i64 f3) := (BX.out.bl 2 _ _ _ rfl).val rfl
                have z2 : ∀ k, x12.frozen? ⟨x7.heap.size, k, none⟩ = false := (BX.out.bl 2 _ _ _ rfl).free
                have y2 : x7.heap.size < x12.heap.size := (BX.out.bl 2 _ _ _ rfl).size
                have p3_0 : x12.cell? ⟨x9.heap.size, 0, none⟩ = some (.int .i64 c1) := (BX.out.bl 3 _ _ _ rfl).val rfl
                have p3_1 : x12.cell? ⟨x9.heap.size, 1, none⟩ = some (.int .i64 c2) := (BX.out.bl 3 _ _ _ rfl).val rfl
                have p3_2 : x12.cell? ⟨x9.heap.size, 2, none⟩ = some (.int .i64 c3) := (BX.out.bl 3 _ _ _ rfl).val rfl
                have z3 : ∀ k, x12.frozen? ⟨x9.heap.size, k, none⟩ = false := (BX.out.bl 3 _ _ _ rfl).free
                have y3 : x9.heap.size < x12.heap.size := (BX.out.bl 3 _ _ _ rfl).size
                refine anyB_done (by kernel_rfl) ?_ _
                refine NoPanic.normal ?_
                go_wp2_with fail
                refine bodyPost_ret (v := .bool true) (by simp [results, Try.results6, go_sem, *]) rfl ⟨rfl, BX.out.be⟩
        refine List.forall_mem_cons.2 ⟨fun hShut => wpOp_step rfl (fun K hK => ?_), fun _ h => by cases h⟩
        · go_simp
          refine hK _ _ ⟨fun _ => ⟨(BX.out.bl 0 _ _ _ rfl).alloc_ _, (BX.out.bl 1 _ _ _ rfl).alloc_ _⟩, ?_⟩
          clear hK K
          try simp only [Act.put, List.getElem_toArray, List.getElem_cons_zero, List.getElem_cons_succ, List.setIfInBounds_toArray, List.set_cons_zero, List.set_cons_succ]
          have gs0_x8 : w.heap.size < x8.heap.size := y0
          have gs1_x8 : w.heap.size + 1 < x8.heap.size := y1
          have gs2_x8 : x7.heap.size < x8.heap.size := y2
          clear y0 y1 y2
          refine anyB_world (fun wx => Bxs w wx [(w.heap.size, 24, [.int .i64 su2, .int .i64 la, .int .i64 le]), (w.heap.size + 1, 26, [.int .i64 sp, .int .i64 kp2, .int .i64 ki2, .int .i64 kd2, .int .i64 li2, .int .i64 st2, .int .i64 mo2]), (x7.heap.size, 24, [.int .i64 0, .int .i64 0, .int .i64 0]), (x8.heap.size, 24, [.int .i64 0, .int .i64 0, .int .i64 0])]) ((BX.out).alloc_ _ _ (by simp)) ?_
          clear BX hHeld
          rintro x9 bx
          have BX := Lib.hid bx
          clear bx
          have y0 : w.heap.size < x9.heap.size := (BX.out.bl 0 _ _ _ rfl).size
          have y1 : w.heap.size + 1 < x9.heap.size := (BX.out.bl 1 _ _ _ rfl).size
          have y2 : x7.heap.size < x9.heap.size := (BX.out.bl 2 _ _ _ rfl).size
          have y3 : x8.heap.size < x9.heap.size := (BX.out.bl 3 _ _ _ rfl).size
          have hHeld := And.intro (BX.out.bl 0 _ _ _ rfl) (BX.out.bl 1 _ _ _ rfl)
          refine anyB_each (rs := [7]) hShut (by kernel_rfl) (by simp) ?_
          refine List.forall_mem_cons.2 ⟨fun hShut => wpOp_step rfl (fun K hK => ?_), fun _ h => by cases h⟩
          · rw [if_pos (by rfl)]
            refine wp_enter (by go_simp; exact ⟨rfl, rfl⟩) ?_
            refine (psamp_lit su2 la le sp kp2 ki2 kd2 li2 st2 mo2 v f1 f2 f3 HY _ SK0.out.u0 SK0.out.u1 la0 la1 le0 le1 sp0 sp1 PO.out.kp0 PO.out.kp1 PO.out.ki0 PO.out.ki1 PO.out.kd0 PO.out.kd1 PO.out.li0 PO.out.li1 PO.out.st0 PO.out.st1 PO.out.mo0 PO.out.mo1 v0 v1).mono ?_
            rintro e x10 ⟨rfl, hbn⟩
            have bx := BX.out.below hbn
            clear y0 y1 y2 y3
            clear BX hbn hHeld
            have BX := Lib.hid bx
            clear bx
            have y0 : w.heap.size < x10.heap.size := (BX.out.bl 0 _ _ _ rfl).size
            have y1 : w.heap.size + 1 < x10.heap.size := (BX.out.bl 1 _ _ _ rfl).size
            have y2 : x7.heap.size < x10.heap.size := (BX.out.bl 2 _ _ _ rfl).size
            have y3 : x8.heap.size < x10.heap.size := (BX.out.bl 3 _ _ _ rfl).size
            have hHeld := And.intro (BX.out.bl 0 _ _ _ rfl) (BX.out.bl 1 _ _ _ rfl)
            refine ⟨_, rfl, ?_⟩
            refine hK _ _ ⟨fun _ => hHeld, ?_⟩
            clear hK K
            try simp only [Act.put, List.getElem_toArray, List.getElem_cons_zero, List.getElem_cons_succ, List.setIfInBounds_toArray, List.set_cons_zero, List.set_cons_succ]
            refine anyB_each (rs := [10]) hShut (by kernel_rfl) (by simp) ?_
            refine List.forall_mem_cons.2 ⟨fun hShut => wpOp_step rfl (fun K hK => ?_), fun _ h => by cases h⟩
            · have p3_0 : x10.cell? ⟨x8.heap.size, 0, none⟩ = some (.int .i64 0) := (BX.out.bl 3 _ _ _ rfl).val rfl
              have p3_1 : x10.cell? ⟨x8.heap.size, 1, none⟩ = some (.int .i64 0) := (BX.out.bl 3 _ _ _ rfl).val rfl
              have p3_2 : x10.cell? ⟨x8.heap.size, 2, none⟩ = some (.int .i64 0) := (BX.out.bl 3 _ _ _ rfl).val rfl
              have z3 : ∀ k, x10.frozen? ⟨x8.heap.size, k, none⟩ = false := (BX.out.bl 3 _ _ _ rfl).free
              go_simp
              refine unheld hK (by kernel_rfl) ?_
              clear hK K
              try simp only [Act.put, List.getElem_toArray, List.getElem_cons_zero, List.getElem_cons_succ, List.setIfInBounds_toArray, List.set_cons_zero, List.set_cons_succ]
              clear y0 y1 y2 y3 p3_0 p3_1 p3_2 z3
              refine anyB_world (fun wx => Bxs w wx [(w.heap.size, 24, [.int .i64 su2, .int .i64 la, .int .i64 le]), (w.heap.size + 1, 26, [.int .i64 sp, .int .i64 kp2, .int .i64 ki2, .int .i64 kd2, .int .i64 li2, .int .i64 st2, .int .i64 mo2]), (x7.heap.size, 24, [.int .i64 0, .int .i64 0, .int .i64 0]), (x8.heap.size, 24, [.int .i64 c1, .int .i64 c2, .int .i64 c3])]) ((((BX.out).set_ 3 0 rfl _).set_ 3 1 rfl _).set_ 3 2 rfl _) ?_
              clear BX hHeld
              rintro x11 bx
              have BX := Lib.hid bx
              clear bx
              have y0 : w.heap.size < x11.heap.size := (BX.out.bl 0 _ _ _ rfl).size
              have y1 : w.heap.size + 1 < x11.heap.size := (BX.out.bl 1 _ _ _ rfl).size
              have y2 : x7.heap.size < x11.heap.size := (BX.out.bl 2 _ _ _ rfl).size
              have y3 : x8.heap.size < x11.heap.size := (BX.out.bl 3 _ _ _ rfl).size
              refine anyB_each (rs := [11]) hShut (by kernel_rfl) (by simp) ?_
              refine List.forall_mem_cons.2 ⟨fun hShut => wpOp_step rfl (fun K hK => ?_), fun _ h => by cases h⟩
              · have p2_0 : x11.cell? ⟨x7.heap.size, 0, none⟩ = some (.int .i64 0) := (BX.out.bl 2 _ _ _ rfl).val rfl
                have p2_1 : x11.cell? ⟨x7.heap.size, 1, none⟩ = some (.int .i64 0) := (BX.out.bl 2 _ _ _ rfl).val rfl
                have p2_2 : x11.cell? ⟨x7.heap.size, 2, none⟩ = some (.int .i64 0) := (BX.out.bl 2 _ _ _ rfl).val rfl
                have z2 : ∀ k, x11.frozen? ⟨x7.heap.size, k, none⟩ = false := (BX.out.bl 2 _ _ _ rfl).free
                go_simp
                refine unheld hK (by kernel_rfl) ?_
                clear hK K
                try simp only [Act.put, List.getElem_toArray, List.getElem_cons_zero, List.getElem_cons_succ, List.setIfInBounds_toArray, List.set_cons_zero, List.set_cons_succ]
                clear y0 y1 y2 y3 p2_0 p2_1 p2_2 z2
                refine anyB_world (fun wx => Bxs w wx [(w.heap.size, 24, [.int .i64 su2, .int .i64 la, .int .i64 le]), (w.heap.size + 1, 26, [.int .i64 sp, .int .i64 kp2, .int .i64 ki2, .int .i64 kd2, .int .i64 li2, .int .i64 st2, .int .i64 mo2]), (x7.heap.size, 24, [.int .i64 f1, .int .i64 f2, .int .i64 f3]), (x8.heap.size, 24, [.int .i64 c1, .int .i64 c2, .int .i64 c3])]) ((((BX.out).set_ 2 0 rfl _).set_ 2 1 rfl _).set_ 2 2 rfl _) ?_
                clear BX
                rintro x12 bx
                have BX := Lib.hid bx
                clear bx
                have y0 : w.heap.size < x12.heap.size := (BX.out.bl 0 _ _ _ rfl).size
                have y1 : w.heap.size + 1 < x12.heap.size := (BX.out.bl 1 _ _ _ rfl).size
                have y2 : x7.heap.size < x12.heap.size := (BX.out.bl 2 _ _ _ rfl).size
                have y3 : x8.heap.size < x12.heap.size := (BX.out.bl 3 _ _ _ rfl).size
                clear y0 y1 y2 y3
                have p2_0 : x12.cell? ⟨x7.heap.size, 0, none⟩ = some (.int .i64 f1) := (BX.out.bl 2 _ _ _ rfl).val rfl
                have p2_1 : x12.cell? ⟨x7.heap.size, 1, none⟩ = some (.int .i64 f2) := (BX.out.bl 2 _ _ _ rfl).val rfl
                have p2_2 : x12.cell? ⟨x7.heap.size, 2, none⟩ = some (.int .i64 f3) := (BX.out.bl 2 _ _ _ rfl).val rfl
                have z2 : ∀ k, x12.frozen? ⟨x7.heap.size, k, none⟩ = false := (BX.out.bl 2 _ _ _ rfl).free
                have y2 : x7.heap.size < x12.heap.size := (BX.out.bl 2 _ _ _ rfl).size
                have p3_0 : x12.cell? ⟨x8.heap.size, 0, none⟩ = some (.int .i64 c1) := (BX.out.bl 3 _ _ _ rfl).val rfl
                have p3_1 : x12.cell? ⟨x8.heap.size, 1, none⟩ = some (.int .i64 c2) := (BX.out.bl 3 _ _ _ rfl).val rfl
                have p3_2 : x12.cell? ⟨x8.heap.size, 2, none⟩ = some (.int .i64 c3) := (BX.out.bl 3 _ _ _ rfl).val rfl
                have z3 : ∀ k, x12.frozen? ⟨x8.heap.size, k, none⟩ = false := (BX.out.bl 3 _ _ _ rfl).free
                have y3 : x8.heap.size < x12.heap.size := (BX.out.bl 3 _ _ _ rfl).size
                refine anyB_done (by kernel_rfl) ?_ _
                refine NoPanic.normal ?_
                go_wp2_with fail
                refine bodyPost_ret (v := .bool true) (by simp [results, Try.results6, go_sem, *]) rfl ⟨rfl, BX.out.be⟩
    refine List.forall_mem_cons.2 ⟨fun hShut => wpOp_step rfl (fun K hK => ?_), ?_⟩
    · go_simp
      refine hK _ _ ⟨fun _ => ⟨(BX.out.bl 0 _ _ _ rfl).alloc_ _, (BX.out.bl 1 _ _ _ rfl).alloc_ _⟩, ?_⟩
      clear hK K
      try simp only [Act.put, List.getElem_toArray, List.getElem_cons_zero, List.getElem_cons_succ, List.setIfInBounds_toArray, List.set_cons_zero, List.set_cons_succ]
      have gs0_x6 : w.heap.size < x6.heap.size := y0
      have gs1_x6 : w.heap.size + 1 < x6.heap.size := y1
      clear y0 y1
      refine anyB_world (fun wx => Bxs w wx [(w.heap.size, 24, [.int .i64 su2, .int .i64 la, .int .i64 le]), (w.heap.size + 1, 26, [.int .i64 sp, .int .i64 kp2, .int .i64 ki2, .int .i64 kd2, .int .i64 li2, .int .i64 st2, .int .i64 mo2]), (x6.heap.size, 24, [.int .i64 0, .int .i64 0, .int .i64 0])]) ((BX.out).alloc_ _ _ (by simp)) ?_
      clear BX hHeld
      rintro x7 bx
      have BX := Lib.hid bx
      clear bx
      have y0 : w.heap.size < x7.heap.size := (BX.out.bl 0 _ _ _ rfl).size
      have y1 : w.heap.size + 1 < x7.heap.size := (BX.out.bl 1 _ _ _ rfl).size
      have y2 : x6.heap.size < x7.heap.size := (BX.out.bl 2 _ _ _ rfl).size
      have hHeld := And.intro (BX.out.bl 0 _ _ _ rfl) (BX.out.bl 1 _ _ _ rfl)
      refine anyB_each (rs := [3, 9]) hShut (by kernel_rfl) (by simp) ?_
      refine List.forall_mem_cons.2 ⟨fun hShut => wpOp_step rfl (fun K hK => ?_), ?_⟩
      · rw [if_pos (by rfl)]
        refine wp_enter (by go_simp; exact ⟨rfl, rfl⟩) ?_
        refine (psamp_lit su2 la le sp kp2 ki2 kd2 li2 st2 mo2 u c1 c2 c3 HZ _ SK0.out.u0 SK0.out.u1 la0 la1 le0 le1 sp0 sp1 PO.out.kp0 PO.out.kp1 PO.out.ki0 PO.out.ki1 PO.out.kd0 PO.out.kd1 PO.out.li0 PO.out.li1 PO.out.st0 PO.out.st1 PO.out.mo0 PO.out.mo1 u0 u1).mono ?_
        rintro e x8 ⟨rfl, hbn⟩
        have bx := BX.out.below hbn
        clear y0 y1 y2
        clear BX hbn hHeld
        have BX := Lib.hid bx
        clear bx
        have y0 : w.heap.size < x8.heap.size := (BX.out.bl 0 _ _ _ rfl).size
        have y1 : w.heap.size + 1 < x8.heap.size := (BX.out.bl 1 _ _ _ rfl).size
        have y2 : x6.heap.size < x8.heap.size := (BX.out.bl 2 _ _ _ rfl).size
        have hHeld := And.intro (BX.out.bl 0 _ _ _ rfl) (BX.out.bl 1 _ _ _ rfl)
        refine ⟨_, rfl, ?_⟩
        refine hK _ _ ⟨fun _ => hHeld, ?_⟩
        clear hK K
        try simp only [Act.put, List.getElem_toArray, List.getElem_cons_zero, List.getElem_cons_succ, List.setIfInBounds_toArray, List.set_cons_zero, List.set_cons_succ]
        refine anyB_each (rs := [7, 9]) hShut (by kernel_rfl) (by simp) ?_
        refine List.forall_mem_cons.2 ⟨fun hShut => wpOp_step rfl (fun K hK => ?_), ?_⟩
        · rw [if_pos (by rfl)]
          refine wp_enter (by go_simp; exact ⟨rfl, rfl⟩) ?_
          refine (psamp_lit su2 la le sp kp2 ki2 kd2 li2 st2 mo2 v f1 f2 f3 HY _ SK0.out.u0 SK0.out.u1 la0 la1 le0 le1 sp0 sp1 PO.out.kp0 PO.out.kp1 PO.out.ki0 PO.out.ki1 PO.out.kd0 PO.out.kd1 PO.out.li0 PO.out.li1 PO.out.st0 PO.out.st1 PO.out.mo0 PO.out.mo1 v0 v1).mono ?_
          rintro e x9 ⟨rfl, hbn⟩
          have bx := BX.out.below hbn
          clear y0 y1 y2
          clear BX hbn hHeld
          have BX := Lib.hid bx
          clear bx
          have y0 : w.heap.size < x9.heap.size := (BX.out.bl 0 _ _ _ rfl).size
          have y1 : w.heap.size + 1 < x9.heap.size := (BX.out.bl 1 _ _ _ rfl).size
          have y2 : x6.heap.size < x9.heap.size := (BX.out.bl 2 _ _ _ rfl).size
          have hHeld := And.intro (BX.out.bl 0 _ _ _ rfl) (BX.out.bl 1 _ _ _ rfl)
          refine ⟨_, rfl, ?_⟩
          refine hK _ _ ⟨fun _ => hHeld, ?_⟩
          clear hK K
          try simp only [Act.put, List.getElem_toArray, List.getElem_cons_zero, List.getElem_cons_succ, List.setIfInBounds_toArray, List.set_cons_zero, List.set_cons_succ]
          refine anyB_each (rs := [9]) hShut (by kernel_rfl) (by simp) ?_
          refine List.forall_mem_cons.2 ⟨fun hShut => wpOp_step rfl (fun K hK => ?_), fun _ h => by cases h⟩
          · go_simp
            refine hK _ _ ⟨fun _ => ⟨(BX.out.bl 0 _ _ _ rfl).alloc_ _, (BX.out.bl 1 _ _ _ rfl).alloc_ _⟩, ?_⟩
            clear hK K
            try simp only [Act.put, List.getElem_toArray, List.getElem_cons_zero, List.getElem_cons_succ, List.setIfInBounds_toArray, List.set_cons_zero, List.set_cons_succ]
            have gs0_x9 : w.heap.size < x9.heap.size := y0
            have gs1_x9 : w.heap.size + 1 < x9.heap.size := y1
            have gs2_x9 : x6.heap.size < x9.heap.size := y2
            clear y0 y1 y2
            refine anyB_world (fun wx => Bxs w wx [(w.heap.size, 24, [.int .i64 su2, .int .i64 la, .int .i64 le]), (w.heap.size + 1, 26, [.int .i64 sp, .int .i64 kp2, .int .i64 ki2, .int .i64 kd2, .int .i64 li2, .int .i64 st2, .int .i64 mo2]), (x6.heap.size, 24, [.int .i64 0, .int .i64 0, .int .i64 0]), (x9.heap.size, 24, [.int .i64 0, .int .i64 0, .int .i64 0])]) ((BX.out).alloc_ _ _ (by simp)) ?_
            clear BX hHeld
            rintro x10 bx
            have BX := Lib.hid bx
            clear bx
            have y0 : w.heap.size < x10.heap.size := (BX.out.bl 0 _ _ _ rfl).size
            have y1 : w.heap.size + 1 < x10.heap.size := (BX.out.bl 1 _ _ _ rfl).size
            have y2 : x6.heap.size < x10.heap.size := (BX.out.bl 2 _ _ _ rfl).size
            have y3 : x9.heap.size < x10.heap.size := (BX.out.bl 3 _ _ _ rfl).size
            have hHeld := And.intro (BX.out.bl 0 _ _ _ rfl) (BX.out.bl 1 _ _ _ rfl)
            refine anyB_each (rs := [10]) hShut (by kernel_rfl) (by simp) ?_
            refine List.forall_mem_cons.2 ⟨fun hShut => wpOp_step rfl (fun K hK => ?_), fun _ h => by cases h⟩
            · have p2_0 : x10.cell? ⟨x6.heap.size, 0, none⟩ = some (.int .i64 0) := (BX.out.bl 2 _ _ _ rfl).val rfl
              have p2_1 : x10.cell? ⟨x6.heap.size, 1, none⟩ = some (.int .i64 0) := (BX.out.bl 2 _ _ _ rfl).val rfl
              have p2_2 : x10.cell? ⟨x6.heap.size, 2, none⟩ = some (.int .i64 0) := (BX.out.bl 2 _ _ _ rfl).val rfl
              have z2 : ∀ k, x10.frozen? ⟨x6.heap.size, k, none⟩ = false := (BX.out.bl 2 _ _ _ rfl).free
              go_simp
              refine unheld hK (by kernel_rfl) ?_
              clear hK K
              try simp only [Act.put, List.getElem_toArray, List.getElem_cons_zero, List.getElem_cons_succ, List.setIfInBounds_toArray, List.set_cons_zero, List.set_cons_succ]
              clear y0 y1 y2 y3 p2_0 p2_1 p2_2 z2
              refine anyB_world (fun wx => Bxs w wx [(w.heap.size, 24, [.int .i64 su2, .int .i64 la, .int .i64 le]), (w.heap.size + 1, 26, [.int .i64 sp, .int .i64 kp2, .int .i64 ki2, .int .i64 kd2, .int .i64 li2, .int .i64 st2, .int .i64 mo2]), (x6.heap.size, 24, [.int .i64 c1, .int .i64 c2, .int .i64 c3]), (x9.heap.size, 24, [.int .i64 0, .int .i64 0, .int .i64 0])]) ((((BX.out).set_ 2 0 rfl _).set_ 2 1 rfl _).set_ 2 2 rfl _) ?_
              clear BX hHeld
              rintro x11 bx
              have BX := Lib.hid bx
              clear bx
              have y0 : w.heap.size < x11.heap.size := (BX.out.bl 0 _ _ _ rfl).size
              have y1 : w.heap.size + 1 < x11.heap.size := (BX.out.bl 1 _ _ _ rfl).size
              have y2 : x6.heap.size < x11.heap.size := (BX.out.bl 2 _ _ _ rfl).size
              have y3 : x9.heap.size < x11.heap.size := (BX.out.bl 3 _ _ _ rfl).size
              refine anyB_each (rs := [11]) hShut (by kernel_rfl) (by simp) ?_
              refine List.forall_mem_cons.2 ⟨fun hShut => wpOp_step rfl (fun K hK => ?_), fun _ h => by cases h⟩
              · have p3_0 : x11.cell? ⟨x9.heap.size, 0, none⟩ = some (.int .i64 0) := (BX.out.bl 3 _ _ _ rfl).val rfl
                have p3_1 : x11.cell? ⟨x9.heap.size, 1, none⟩ = some (.int .i64 0) := (BX.out.bl 3 _ _ _ rfl).val rfl
                have p3_2 : x11.cell? ⟨x9.heap.size, 2, none⟩ = some (.int .i64 0) := (BX.out.bl 3 _ _ _ rfl).val rfl
                have z3 : ∀ k, x11.frozen? ⟨x9.heap.size, k, none⟩ = false := (BX.out.bl 3 _ _ _ rfl).free
                go_simp
                refine unheld hK (by kernel_rfl) ?_
                clear hK K
                try simp only [Act.put, List.getElem_toArray, List.getElem_cons_zero, List.getElem_cons_succ, List.setIfInBounds_toArray, List.set_cons_zero, List.set_cons_succ]
                clear y0 y1 y2 y3 p3_0 p3_1 p3_2 z3
                refine anyB_world (fun wx => Bxs w wx [(w.heap.size, 24, [.int .i64 su2, .int .i64 la, .int .i64 le]), (w.heap.size + 1, 26, [.int .i64 sp, .int .i64 kp2, .int .i64 ki2, .int .i64 kd2, .int .i64 li2, .int .i64 st2, .int .i64 mo2]), (x6.heap.size, 24, [.int .i64 c1, .int .i64 c2, .int .i64 c3]), (x9.heap.size, 24, [.int .i64 f1, .int .i64 f2, .int .i64 f3])]) ((((BX.out).set_ 3 0 rfl _).set_ 3 1 rfl _).set_ 3 2 rfl _) ?_
                clear BX
                rintro x12 bx
                have BX := Lib.hid bx
                clear bx
                have y0 : w.heap.size < x12.heap.size := (BX.out.bl 0 _ _ _ rfl).size
                have y1 : w.heap.size + 1 < x12.heap.size := (BX.out.bl 1 _ _ _ rfl).size
                have y2 : x6.heap.size < x12.heap.size := (BX.out.bl 2 _ _ _ rfl).size
                have y3 : x9.heap.size < x12.heap.size := (BX.out.bl 3 _ _ _ rfl).size
                clear y0 y1 y2 y3
                have p2_0 : x12.cell? ⟨x6.heap.size, 0, none⟩ = some (.int .i64 c1) := (BX.out.bl 2 _ _ _ rfl).val rfl
                have p2_1 : x12.cell? ⟨x6.heap.size, 1, none⟩ = some (.int .i64 c2) := (BX.out.bl 2 _ _ _ rfl).val rfl
                have p2_2 : x12.cell? ⟨x6.heap.size, 2, none⟩ = some (.int .i64 c3) := (BX.out.bl 2 _ _ _ rfl).val rfl
                have z2 : ∀ k, x12.frozen? ⟨x6.heap.size, k, none⟩ = false := (BX.out.bl 2 _ _ _ rfl).free
                have y2 : x6.heap.size < x12.heap.size := (BX.out.bl 2 _ _ _ rfl).size
                have p3_0 : x12.cell? ⟨x9.heap.size, 0, none⟩ = some (.int .i64 f1) := (BX.out.bl 3 _ _ _ rfl).val rfl
                have p3_1 : x12.cell? ⟨x9.heap.size, 1, none⟩ = some (.int .i64 f2) := (BX.out.bl 3 _ _ _ rfl).val rfl
                have p3_2 : x12.cell? ⟨x9.heap.size, 2, none⟩ = some (.int .i64 f3) := (BX.out.bl 3 _ _ _ rfl).val rfl
                have z3 : ∀ k, x12.frozen? ⟨x9.heap.size, k, none⟩ = false := (BX.out.bl 3 _ _ _ rfl).free
                have y3 : x9.heap.size < x12.heap.size := (BX.out.bl 3 _ _ _ rfl).size
                refine anyB_done (by kernel_rfl) ?_ _
                refine NoPanic.normal ?_
                go_wp2_with fail
                refine bodyPost_ret (v := .bool true) (by simp [results, Try.results6, go_sem, *]) rfl ⟨rfl, BX.out.be⟩
        refine List.forall_mem_cons.2 ⟨fun hShut => wpOp_step rfl (fun K hK => ?_), fun _ h => by cases h⟩
        · go_simp
          refine hK _ _ ⟨fun _ => ⟨(BX.out.bl 0 _ _ _ rfl).alloc_ _, (BX.out.bl 1 _ _ _ rfl).alloc_ _⟩, ?_⟩
          clear hK K
          try simp only [Act.put, List.getElem_toArray, List.getElem_cons_zero, List.getElem_cons_succ, List.setIfInBounds_toArray, List.set_cons_zero, List.set_cons_succ]
          have gs0_x8 : w.heap.size < x8.heap.size := y0
          have gs1_x8 : w.heap.size + 1 < x8.heap.size := y1
          have gs2_x8 : x6.heap.size < x8.heap.size := y2
          clear y0 y1 y2
          refine anyB_world (fun wx => Bxs w wx [(w.heap.size, 24, [.int .i64 su2, .int .i64 la, .int .i64 le]), (w.heap.size + 1, 26, [.int .i64 sp, .int .i64 kp2, .int .i64 ki2, .int .i64 kd2, .int .i64 li2, .int .i64 st2, .int .i64 mo2]), (x6.heap.size, 24, [.int .i64 0, .int .i64 0, .int .i64 0]), (x8.heap.size, 24, [.int .i64 0, .int .i64 0, .int .i64 0])]) ((BX.out).alloc_ _ _ (by simp)) ?_
          clear BX hHeld
          rintro x9 bx
          have BX := Lib.hid bx
          clear bx
          have y0 : w.heap.size < x9.heap.size := (BX.out.bl 0 _ _ _ rfl).size
          have y1 : w.heap.size + 1 < x9.heap.size := (BX.out.bl 1 _ _ _ rfl).size
          have y2 : x6.heap.size < x9.heap.size := (BX.out.bl 2 _ _ _ rfl).size
          have y3 : x8.heap.size < x9.heap.size := (BX.out.bl 3 _ _ _ rfl).size
          have hHeld := And.intro (BX.out.bl 0 _ _ _ rfl) (BX.out.bl 1 _ _ _ rfl)
          refine anyB_each (rs := [7]) hShut (by kernel_rfl) (by simp) ?_
          refine List.forall_mem_cons.2 ⟨fun hShut => wpOp_step rfl (fun K hK => ?_), fun _ h => by cases h⟩
          · rw [if_pos (by rfl)]
            refine wp_enter (by go_simp; exact ⟨rfl, rfl⟩) ?_
            refine (psamp_lit su2 la le sp kp2 ki2 kd2 li2 st2 mo2 v f1 f2 f3 HY _ SK0.out.u0 SK0.out.u1 la0 la1 le0 le1 sp0 sp1 PO.out.kp0 PO.out.kp1 PO.out.ki0 PO.out.ki1 PO.out.kd0 PO.out.kd1 PO.out.li0 PO.out.li1 PO.out.st0 PO.out.st1 PO.out.mo0 PO.out.mo1 v0 v1).mono ?_
            rintro e x10 ⟨rfl, hbn⟩
            have bx := BX.out.below hbn
            clear y0 y1 y2 y3
            clear BX hbn hHeld
            have BX := Lib.hid bx
            clear bx
            have y0 : w.heap.size < x10.heap.size := (BX.out.bl 0 _ _ _ rfl).size
            have y1 : w.heap.size + 1 < x10.heap.size := (BX.out.bl 1 _ _ _ rfl).size
            have y2 : x6.heap.size < x10.heap.size := (BX.out.bl 2 _ _ _ rfl).size
            have y3 : x8.heap.size < x10.heap.size := (BX.out.bl 3 _ _ _ rfl).size
            have hHeld := And.intro (BX.out.bl 0 _ _ _ rfl) (BX.out.bl 1 _ _ _ rfl)
            refine ⟨_, rfl, ?_⟩
            refine hK _ _ ⟨fun _ => hHeld, ?_⟩
            clear hK K
            try simp only [Act.put, List.getElem_toArray, List.getElem_cons_zero, List.getElem_cons_succ, List.setIfInBounds_toArray, List.set_cons_zero, List.set_cons_succ]
            refine anyB_each (rs := [10]) hShut (by kernel_rfl) (by simp) ?_
            refine List.forall_mem_cons.2 ⟨fun hShut => wpOp_step rfl (fun K hK => ?_), fun _ h => by cases h⟩
            · have p2_0 : x10.cell? ⟨x6.heap.size, 0, none⟩ = some (.int .i64 0) := (BX.out.bl 2 _ _ _ rfl).val rfl
              have p2_1 : x10.cell? ⟨x6.heap.size, 1, none⟩ = some (.int .i64 0) := (BX.out.bl 2 _ _ _ rfl).val rfl
              have p2_2 : x10.cell? ⟨x6.heap.size, 2, none⟩ = some (.int .i64 0) := (BX.out.bl 2 _ _ _ rfl).val rfl
              have z2 : ∀ k, x10.frozen? ⟨x6.heap.size, k, none⟩ = false := (BX.out.bl 2 _ _ _ rfl).free
              go_simp
              refine unheld hK (by kernel_rfl) ?_
              clear hK K
              try simp only [Act.put, List.getElem_toArray, List.getElem_cons_zero, List.getElem_cons_succ, List.setIfInBounds_toArray, List.set_cons_zero, List.set_cons_succ]
              clear y0 y1 y2 y3 p2_0 p2_1 p2_2 z2
              refine anyB_world (fun wx => Bxs w wx [(w.heap.size, 24, [.int .i64 su2, .int .i64 la, .int .i64 le]), (w.heap.size + 1, 26, [.int .i64 sp, .int .i64 kp2, .int .i64 ki2, .int .i64 kd2, .int .i64 li2, .int .i64 st2, .int .i64 mo2]), (x6.heap.size, 24, [.int .i64 c1, .int .i64 c2, .int .i64 c3]), (x8.heap.size, 24, [.int .i64 0, .int .i64 0, .int .i64 0])]) ((((BX.out).set_ 2 0 rfl _).set_ 2 1 rfl _).set_ 2 2 rfl _) ?_
              clear BX hHeld
              rintro x11 bx
              have BX := Lib.hid bx
              clear bx
              have y0 : w.heap.size < x11.heap.size := (BX.out.bl 0 _ _ _ rfl).size
              have y1 : w.heap.size + 1 < x11.heap.size := (BX.out.bl 1 _ _ _ rfl).size
              have y2 : x6.heap.size < x11.heap.size := (BX.out.bl 2 _ _ _ rfl).size
              have y3 : x8.heap.size < x11.heap.size := (BX.out.bl 3 _ _ _ rfl).size
              refine anyB_each (rs := [11]) hShut (by kernel_rfl) (by simp) ?_
              refine List.forall_mem_cons.2 ⟨fun hShut => wpOp_step rfl (fun K hK => ?_), fun _ h => by cases h⟩
              · have p3_0 : x11.cell? ⟨x8.heap.size, 0, none⟩ = some (.int .i64 0) := (BX.out.bl 3 _ _ _ rfl).val rfl
                have p3_1 : x11.cell? ⟨x8.heap.size, 1, none⟩ = some (.int .i64 0) := (BX.out.bl 3 _ _ _ rfl).val rfl
                have p3_2 : x11.cell? ⟨x8.heap.size, 2, none⟩ = some (.int .i64 0) := (BX.out.bl 3 _ _ _ rfl).val rfl
                have z3 : ∀ k, x11.frozen? ⟨x8.heap.size, k, none⟩ = false := (BX.out.bl 3 _ _ _ rfl).free
                go_simp
                refine unheld hK (by kernel_rfl) ?_
                clear hK K
                try simp only [Act.put, List.getElem_toArray, List.getElem_cons_zero, List.getElem_cons_succ, List.setIfInBounds_toArray, List.set_cons_zero, List.set_cons_succ]
                clear y0 y1 y2 y3 p3_0 p3_1 p3_2 z3
                refine anyB_world (fun wx => Bxs w wx [(w.heap.size, 24, [.int .i64 su2, .int .i64 la, .int .i64 le]), (w.heap.size + 1, 26, [.int .i64 sp, .int .i64 kp2, .int .i64 ki2, .int .i64 kd2, .int .i64 li2, .int .i64 st2, .int .i64 mo2]), (x6.heap.size, 24, [.int .i64 c1, .int .i64 c2, .int .i64 c3]), (x8.heap.size, 24, [.int .i64 f1, .int .i64 f2, .int .i64 f3])]) ((((BX.out).set_ 3 0 rfl _).set_ 3 1 rfl _).set_ 3 2 rfl _) ?_
                clear BX
                rintro x12 bx
                have BX := Lib.hid bx
                clear bx
                have y0 : w.heap.size < x12.heap.size := (BX.out.bl 0 _ _ _ rfl).size
                have y1 : w.heap.size + 1 < x12.heap.size := (BX.out.bl 1 _ _ _ rfl).size
                have y2 : x6.heap.size < x12.heap.size := (BX.out.bl 2 _ _ _ rfl).size
                have y3 : x8.heap.size < x12.heap.size := (BX.out.bl 3 _ _ _ rfl).size
                clear y0 y1 y2 y3
                have p2_0 : x12.cell? ⟨x6.heap.size, 0, none⟩ = some (.int .i64 c1) := (BX.out.bl 2 _ _ _ rfl).val rfl
                have p2_1 : x12.cell? ⟨x6.heap.size, 1, none⟩ = some (.int .i64 c2) := (BX.out.bl 2 _ _ _ rfl).val rfl
                have p2_2 : x12.cell? ⟨x6.heap.size, 2, none⟩ = some (.int .i64 c3) := (BX.out.bl 2 _ _ _ rfl).val rfl
                have z2 : ∀ k, x12.frozen? ⟨x6.heap.size, k, none⟩ = false := (BX.out.bl 2 _ _ _ rfl).free
                have y2 : x6.heap.size < x12.heap.size := (BX.out.bl 2 _ _ _ rfl).size
                have p3_0 : x12.cell? ⟨x8.heap.size, 0, none⟩ = some (.int .i64 f1) := (BX.out.bl 3 _ _ _ rfl).val rfl
                have p3_1 : x12.cell? ⟨x8.heap.size, 1, none⟩ = some (.int .i64 f2) := (BX.out.bl 3 _ _ _ rfl).val rfl
                have p3_2 : x12.cell? ⟨x8.heap.size, 2, none⟩ = some (.int .i64 f3) := (BX.out.bl 3 _ _ _ rfl).val rfl
                have z3 : ∀ k, x12.frozen? ⟨x8.heap.size, k, none⟩ = false := (BX.out.bl 3 _ _ _ rfl).free
                have y3 : x8.heap.size < x12.heap.size := (BX.out.bl 3 _ _ _ rfl).size
                refine anyB_done (by kernel_rfl) ?_ _
                refine NoPanic.normal ?_
                go_wp2_with fail
                refine bodyPost_ret (v := .bool true) (by simp [results, Try.results6, go_sem, *]) rfl ⟨rfl, BX.out.be⟩
      refine List.forall_mem_cons.2 ⟨fun hShut => wpOp_step rfl (fun K hK => ?_), fun _ h => by cases h⟩
      · go_simp
        refine hK _ _ ⟨fun _ => ⟨(BX.out.bl 0 _ _ _ rfl).alloc_ _, (BX.out.bl 1 _ _ _ rfl).alloc_ _⟩, ?_⟩
        clear hK K
        try simp only [Act.put, List.getElem_toArray, List.getElem_cons_zero, List.getElem_cons_succ, List.setIfInBounds_toArray, List.set_cons_zero, List.set_cons_succ]
        have gs0_x7 : w.heap.size < x7.heap.size := y0
        have gs1_x7 : w.heap.size + 1 < x7.heap.size := y1
        have gs2_x7 : x6.heap.size < x7.heap.size := y2
        clear y0 y1 y2
        refine anyB_world (fun wx => Bxs w wx [(w.heap.size, 24, [.int .i64 su2, .int .i64 la, .int .i64 le]), (w.heap.size + 1, 26, [.int .i64 sp, .int .i64 kp2, .int .i64 ki2, .int .i64 kd2, .int .i64 li2, .int .i64 st2, .int .i64 mo2]), (x6.heap.size, 24, [.int .i64 0, .int .i64 0, .int .i64 0]), (x7.heap.size, 24, [.int .i64 0, .int .i64 0, .int .i64 0])]) ((BX.out).alloc_ _ _ (by simp)) ?_
        clear BX hHeld
        rintro x8 bx
        have BX := Lib.hid bx
        clear bx
        have y0 : w.heap.size < x8.heap.size := (BX.out.bl 0 _ _ _ rfl).size
        have y1 : w.heap.size + 1 < x8.heap.size := (BX.out.bl 1 _ _ _ rfl).size
        have y2 : x6.heap.size < x8.heap.size := (BX.out.bl 2 _ _ _ rfl).size
        have y3 : x7.heap.size < x8.heap.size := (BX.out.bl 3 _ _ _ rfl).size
        have hHeld := And.intro (BX.out.bl 0 _ _ _ rfl) (BX.out.bl 1 _ _ _ rfl)
        refine anyB_each (rs := [3]) hShut (by kernel_rfl) (by simp) ?_
        refine List.forall_mem_cons.2 ⟨fun hShut => wpOp_step rfl (fun K hK => ?_), fun _ h => by cases h⟩
        · rw [if_pos (by rfl)]
          refine wp_enter (by go_simp; exact ⟨rfl, rfl⟩) ?_
          refine (psamp_lit su2 la le sp kp2 ki2 kd2 li2 st2 mo2 u c1 c2 c3 HZ _ SK0.out.u0 SK0.out.u1 la0 la1 le0 le1 sp0 sp1 PO.out.kp0 PO.out.kp1 PO.out.ki0 PO.out.ki1 PO.out.kd0 PO.out.kd1 PO.out.li0 PO.out.li1 PO.out.st0 PO.out.st1 PO.out.mo0 PO.out.mo1 u0 u1).mono ?_
          rintro e x9 ⟨rfl, hbn⟩
          have bx := BX.out.below hbn
          clear y0 y1 y2 y3
          clear BX hbn hHeld
          have BX := Lib.hid bx
          clear bx
          have y0 : w.heap.size < x9.heap.size := (BX.out.bl 0 _ _ _ rfl).size
          have y1 : w.heap.size + 1 < x9.heap.size := (BX.out.bl 1 _ _ _ rfl).size
          have y2 : x6.heap.size < x9.heap.size := (BX.out.bl 2 _ _ _ rfl).size
          have y3 : x7.heap.size < x9.heap.size := (BX.out.bl 3 _ _ _ rfl).size
          have hHeld := And.intro (BX.out.bl 0 _ _ _ rfl) (BX.out.bl 1 _ _ _ rfl)
          refine ⟨_, rfl, ?_⟩
          refine hK _ _ ⟨fun _ => hHeld, ?_⟩
          clear hK K
          try simp only [Act.put, List.getElem_toArray, List.getElem_cons_zero, List.getElem_cons_succ, List.setIfInBounds_toArray, List.set_cons_zero, List.set_cons_succ]
          refine anyB_each (rs := [7]) hShut (by kernel_rfl) (by simp) ?_
          refine List.forall_mem_cons.2 ⟨fun hShut => wpOp_step rfl (fun K hK => ?_), fun _ h => by cases h⟩
          · rw [if_pos (by rfl)]
            refine wp_enter (by go_simp; exact ⟨rfl, rfl⟩) ?_
            refine (psamp_lit su2 la le sp kp2 ki2 kd2 li2 st2 mo2 v f1 f2 f3 HY _ SK0.out.u0 SK0.out.u1 la0 la1 le0 le1 sp0 sp1 PO.out.kp0 PO.out.kp1 PO.out.ki0 PO.out.ki1 PO.out.kd0 PO.out.kd1 PO.out.li0 PO.out.li1 PO.out.st0 PO.out.st1 PO.out.mo0 PO.out.mo1 v0 v1).mono ?_
            rintro e x10 ⟨rfl, hbn⟩
            have bx := BX.out.below hbn
            clear y0 y1 y2 y3
            clear BX hbn hHeld
            have BX := Lib.hid bx
            clear bx
            have y0 : w.heap.size < x10.heap.size := (BX.out.bl 0 _ _ _ rfl).size
            have y1 : w.heap.size + 1 < x10.heap.size := (BX.out.bl 1 _ _ _ rfl).size
            have y2 : x6.heap.size < x10.heap.size := (BX.out.bl 2 _ _ _ rfl).size
            have y3 : x7.heap.size < x10.heap.size := (BX.out.bl 3 _ _ _ rfl).size
            have hHeld := And.intro (BX.out.bl 0 _ _ _ rfl) (BX.out.bl 1 _ _ _ rfl)
            refine ⟨_, rfl, ?_⟩
            refine hK _ _ ⟨fun _ => hHeld, ?_⟩
            clear hK K
            try simp only [Act.put, List.getElem_toArray, List.getElem_cons_zero, List.getElem_cons_succ, List.setIfInBounds_toArray, List.set_cons_zero, List.set_cons_succ]
            refine anyB_each (rs := [10]) hShut (by kernel_rfl) (by simp) ?_
            refine List.forall_mem_cons.2 ⟨fun hShut => wpOp_step rfl (fun K hK => ?_), fun _ h => by cases h⟩
            · have p2_0 : x10.cell? ⟨x6.heap.size, 0, none⟩ = some (.int .i64 0) := (BX.out.bl 2 _ _ _ rfl).val rfl
              have p2_1 : x10.cell? ⟨x6.heap.size, 1, none⟩ = some (.int .i64 0) := (BX.out.bl 2 _ _ _ rfl).val rfl
              have p2_2 : x10.cell? ⟨x6.heap.size, 2, none⟩ = some (.int .i64 0) := (BX.out.bl 2 _ _ _ rfl).val rfl
              have z2 : ∀ k, x10.frozen? ⟨x6.heap.size, k, none⟩ = false := (BX.out.bl 2 _ _ _ rfl).free
              go_simp
              refine unheld hK (by kernel_rfl) ?_
              clear hK K
              try simp only [Act.put, List.getElem_toArray, List.getElem_cons_zero, List.getElem_cons_succ, List.setIfInBounds_toArray, List.set_cons_zero, List.set_cons_succ]
              clear y0 y1 y2 y3 p2_0 p2_1 p2_2 z2
              refine anyB_world (fun wx => Bxs w wx [(w.heap.size, 24, [.int .i64 su2, .int .i64 la, .int .i64 le]), (w.heap.size + 1, 26, [.int .i64 sp, .int .i64 kp2, .int .i64 ki2, .int .i64 kd2, .int .i64 li2, .int .i64 st2, .int .i64 mo2]), (x6.heap.size, 24, [.int .i64 c1, .int .i64 c2, .int .i64 c3]), (x7.heap.size, 24, [.int .i64 0, .int .i64 0, .int .i64 0])]) ((((BX.out).set_ 2 0 rfl _).set_ 2 1 rfl _).set_ 2 2 rfl _) ?_
              clear BX hHeld
              rintro x11 bx
              have BX := Lib.hid bx
              clear bx
              have y0 : w.heap.size < x11.heap.size := (BX.out.bl 0 _ _ _ rfl).size
              have y1 : w.heap.size + 1 < x11.heap.size := (BX.out.bl 1 _ _ _ rfl).size
              have y2 : x6.heap.size < x11.heap.size := (BX.out.bl 2 _ _ _ rfl).size
              have y3 : x7.heap.size < x11.heap.size := (BX.out.bl 3 _ _ _ rfl).size
              refine anyB_each (rs := [11]) hShut (by kernel_rfl) (by simp) ?_
              refine List.forall_mem_cons.2 ⟨fun hShut => wpOp_step rfl (fun K hK => ?_), fun _ h => by cases h⟩
              · have p3_0 : x11.cell? ⟨x7.heap.size, 0, none⟩ = some (.int .i64 0) := (BX.out.bl 3 _ _ _ rfl).val rfl
                have p3_1 : x11.cell? ⟨x7.heap.size, 1, none⟩ = some (.int .i64 0) := (BX.out.bl 3 _ _ _ rfl).val rfl
                have p3_2 : x11.cell? ⟨x7.heap.size, 2, none⟩ = some (.int .i64 0) := (BX.out.bl 3 _ _ _ rfl).val rfl
                have z3 : ∀ k, x11.frozen? ⟨x7.heap.size, k, none⟩ = false := (BX.out.bl 3 _ _ _ rfl).free
                go_simp
                refine unheld hK (by kernel_rfl) ?_
                clear hK K
                try simp only [Act.put, List.getElem_toArray, List.getElem_cons_zero, List.getElem_cons_succ, List.setIfInBounds_toArray, List.set_cons_zero, List.set_cons_succ]
                clear y0 y1 y2 y3 p3_0 p3_1 p3_2 z3
                refine anyB_world (fun wx => Bxs w wx [(w.heap.size, 24, [.int .i64 su2, .int .i64 la, .int .i64 le]), (w.heap.size + 1, 26, [.int .i64 sp, .int .i64 kp2, .int .i64 ki2, .int .i64 kd2, .int .i64 li2, .int .i64 st2, .int .i64 mo2]), (x6.heap.size, 24, [.int .i64 c1, .int .i64 c2, .int .i64 c3]), (x7.heap.size, 24, [.int .i64 f1, .int .i64 f2, .int .i64 f3])]) ((((BX.out).set_ 3 0 rfl _).set_ 3 1 rfl _).set_ 3 2 rfl _) ?_
                clear BX
                rintro x12 bx
                have BX := Lib.hid bx
                clear bx
                have y0 : w.heap.size < x12.heap.size := (BX.out.bl 0 _ _ _ rfl).size
                have y1 : w.heap.size + 1 < x12.heap.size := (BX.out.bl 1 _ _ _ rfl).size
                have y2 : x6.heap.size < x12.heap.size := (BX.out.bl 2 _ _ _ rfl).size
                have y3 : x7.heap.size < x12.heap.size := (BX.out.bl 3 _ _ _ rfl).size
                clear y0 y1 y2 y3
                have p2_0 : x12.cell? ⟨x6.heap.size, 0, none⟩ = some (.int .i64 c1) := (BX.out.bl 2 _ _ _ rfl).val rfl
                have p2_1 : x12.cell? ⟨x6.heap.size, 1, none⟩ = some (.int .i64 c2) := (BX.out.bl 2 _ _ _ rfl).val rfl
                have p2_2 : x12.cell? ⟨x6.heap.size, 2, none⟩ = some (.int .i64 c3) := (BX.out.bl 2 _ _ _ rfl).val rfl
                have z2 : ∀ k, x12.frozen? ⟨x6.heap.size, k, none⟩ = false := (BX.out.bl 2 _ _ _ rfl).free
                have y2 : x6.heap.size < x12.heap.size := (BX.out.bl 2 _ _ _ rfl).size
                have p3_0 : x12.cell? ⟨x7.heap.size, 0, none⟩ = some (.int .i64 f1) := (BX.out.bl 3 _ _ _ rfl).val rfl
                have p3_1 : x12.cell? ⟨x7.heap.size, 1, none⟩ = some (.int .i64 f2) := (BX.out.bl 3 _ _ _ rfl).val rfl
                have p3_2 : x12.cell? ⟨x7.heap.size, 2, none⟩ = some (.int .i64 f3) := (BX.out.bl 3 _ _ _ rfl).val rfl
                have z3 : ∀ k, x12.frozen? ⟨x7.heap.size, k, none⟩ = false := (BX.out.bl 3 _ _ _ rfl).free
                have y3 : x7.heap.size < x12.heap.size := (BX.out.bl 3 _ _ _ rfl).size
                refine anyB_done (by kernel_rfl) ?_ _
                refine NoPanic.normal ?_
                go_wp2_with fail
                refine bodyPost_ret (v := .bool true) (by simp [results, Try.results6, go_sem, *]) rfl ⟨rfl, BX.out.be⟩
    refine List.forall_mem_cons.2 ⟨fun hShut => wpOp_step rfl (fun K hK => ?_), fun _ h => by cases h⟩
    · go_simp
      refine hK _ _ ⟨fun _ => ⟨(BX.out.bl 0 _ _ _ rfl).alloc_ _, (BX.out.bl 1 _ _ _ rfl).alloc_ _⟩, ?_⟩
      clear hK K
      try simp only [Act.put, List.getElem_toArray, List.getElem_cons_zero, List.getElem_cons_succ, List.setIfInBounds_toArray, List.set_cons_zero, List.set_cons_succ]
      have gs0_x6 : w.heap.size < x6.heap.size := y0
      have gs1_x6 : w.heap.size + 1 < x6.heap.size := y1
      clear y0 y1
      refine anyB_world (fun wx => Bxs w wx [(w.heap.size, 24, [.int .i64 su2, .int .i64 la, .int .i64 le]), (w.heap.size + 1, 26, [.int .i64 sp, .int .i64 kp2, .int .i64 ki2, .int .i64 kd2, .int .i64 li2, .int .i64 st2, .int .i64 mo2]), (x6.heap.size, 24, [.int .i64 0, .int .i64 0, .int .i64 0])]) ((BX.out).alloc_ _ _ (by simp)) ?_
      clear BX hHeld
      rintro x7 bx
      have BX := Lib.hid bx
      clear bx
      have y0 : w.heap.size < x7.heap.size := (BX.out.bl 0 _ _ _ rfl).size
      have y1 : w.heap.size + 1 < x7.heap.size := (BX.out.bl 1 _ _ _ rfl).size
      have y2 : x6.heap.size < x7.heap.size := (BX.out.bl 2 _ _ _ rfl).size
      have hHeld := And.intro (BX.out.bl 0 _ _ _ rfl) (BX.out.bl 1 _ _ _ rfl)
      refine anyB_each (rs := [3, 8]) hShut (by kernel_rfl) (by simp) ?_
      refine List.forall_mem_cons.2 ⟨fun hShut => wpOp_step rfl (fun K hK => ?_), ?_⟩
      · rw [if_pos (by rfl)]
        refine wp_enter (by go_simp; exact ⟨rfl, rfl⟩) ?_
        refine (psamp_lit su2 la le sp kp2 ki2 kd2 li2 st2 mo2 u c1 c2 c3 HZ _ SK0.out.u0 SK0.out.u1 la0 la1 le0 le1 sp0 sp1 PO.out.kp0 PO.out.kp1 PO.out.ki0 PO.out.ki1 PO.out.kd0 PO.out.kd1 PO.out.li0 PO.out.li1 PO.out.st0 PO.out.st1 PO.out.mo0 PO.out.mo1 u0 u1).mono ?_
        rintro e x8 ⟨rfl, hbn⟩
        have bx := BX.out.below hbn
        clear y0 y1 y2
        clear BX hbn hHeld
        have BX := Lib.hid bx
        clear bx
        have y0 : w.heap.size < x8.heap.size := (BX.out.bl 0 _ _ _ rfl).size
        have y1 : w.heap.size + 1 < x8.heap.size := (BX.out.bl 1 _ _ _ rfl).size
        have y2 : x6.heap.size < x8.heap.size := (BX.out.bl 2 _ _ _ rfl).size
        have hHeld := And.intro (BX.out.bl 0 _ _ _ rfl) (BX.out.bl 1 _ _ _ rfl)
        refine ⟨_, rfl, ?_⟩
        refine hK _ _ ⟨fun _ => hHeld, ?_⟩
        clear hK K
        try simp only [Act.put, List.getElem_toArray, List.getElem_cons_zero, List.getElem_cons_succ, List.setIfInBounds_toArray, List.set_cons_zero, List.set_cons_succ]
        refine anyB_each (rs := [7, 8]) hShut (by kernel_rfl) (by simp) ?_
        refine List.forall_mem_cons.2 ⟨fun hShut => wpOp_step rfl (fun K hK => ?_), ?_⟩
        · rw [if_pos (by rfl)]
          refine wp_enter (by go_simp; exact ⟨rfl, rfl⟩) ?_
          refine (psamp_lit su2 la le sp kp2 ki2 kd2 li2 st2 mo2 v f1 f2 f3 HY _ SK0.out.u0 SK0.out.u1 la0 la1 le0 le1 sp0 sp1 PO.out.kp0 PO.out.kp1 PO.out.ki0 PO.out.ki1 PO.out.kd0 PO.out.kd1 PO.out.li0 PO.out.li1 PO.out.st0 PO.out.st1 PO.out.mo0 PO.out.mo1 v0 v1).mono ?_
          rintro e x9 ⟨rfl, hbn⟩
          have bx := BX.out.below hbn
          clear y0 y1 y2
          clear BX hbn hHeld
          have BX := Lib.hid bx
          clear bx
          have y0 : w.heap.size < x9.heap.size := (BX.out.bl 0 _ _ _ rfl).size
          have y1 : w.heap.size + 1 < x9.heap.size := (BX.out.bl 1 _ _ _ rfl).size
          have y2 : x6.heap.size < x9.heap.size := (BX.out.bl 2 _ _ _ rfl).size
          have hHeld := And.intro (BX.out.bl 0 _ _ _ rfl) (BX.out.bl 1 _ _ _ rfl)
          refine ⟨_, rfl, ?_⟩
          refine hK _ _ ⟨fun _ => hHeld, ?_⟩
          clear hK K
          try simp only [Act.put, List.getElem_toArray, List.getElem_cons_zero, List.getElem_cons_succ, List.setIfInBounds_toArray, List.set_cons_zero, List.set_cons_succ]
          refine anyB_each (rs := [8]) hShut (by kernel_rfl) (by simp) ?_
          refine List.forall_mem_cons.2 ⟨fun hShut => wpOp_step rfl (fun K hK => ?_), fun _ h => by cases h⟩
          · go_simp
            refine hK _ _ ⟨fun _ => ⟨(BX.out.bl 0 _ _ _ rfl).alloc_ _, (BX.out.bl 1 _ _ _ rfl).alloc_ _⟩, ?_⟩
            clear hK K
            try simp only [Act.put, List.getElem_toArray, List.getElem_cons_zero, List.getElem_cons_succ, List.setIfInBounds_toArray, List.set_cons_zero, List.set_cons_succ]
            have gs0_x9 : w.heap.size < x9.heap.size := y0
            have gs1_x9 : w.heap.size + 1 < x9.heap.size := y1
            have gs2_x9 : x6.heap.size < x9.heap.size := y2
            clear y0 y1 y2
            refine anyB_world (fun wx => Bxs w wx [(w.heap.size, 24, [.int .i64 su2, .int .i64 la, .int .i64 le]), (w.heap.size + 1, 26, [.int .i64 sp, .int .i64 kp2, .int .i64 ki2, .int .i64 kd2, .int .i64 li2, .int .i64 st2, .int .i64 mo2]), (x6.heap.size, 24, [.int .i64 0, .int .i64 0, .int .i64 0]), (x9.heap.size, 24, [.int .i64 0, .int .i64 0, .int .i64 0])]) ((BX.out).alloc_ _ _ (by simp)) ?_
            clear BX hHeld
            rintro x10 bx
            have BX := Lib.hid bx
            clear bx
            have y0 : w.heap.size < x10.heap.size := (BX.out.bl 0 _ _ _ rfl).size
            have y1 : w.heap.size + 1 < x10.heap.size := (BX.out.bl 1 _ _ _ rfl).size
            have y2 : x6.heap.size < x10.heap.size := (BX.out.bl 2 _ _ _ rfl).size
            have y3 : x9.heap.size < x10.heap.size := (BX.out.bl 3 _ _ _ rfl).size
            have hHeld := And.intro (BX.out.bl 0 _ _ _ rfl) (BX.out.bl 1 _ _ _ rfl)
            refine anyB_each (rs := [10]) hShut (by kernel_rfl) (by simp) ?_
            refine List.forall_mem_cons.2 ⟨fun hShut => wpOp_step rfl (fun K hK => ?_), fun _ h => by cases h⟩
            · have p3_0 : x10.cell? ⟨x9.heap.size, 0, none⟩ = some (.int .i64 0) := (BX.out.bl 3 _ _ _ rfl).val rfl
              have p3_1 : x10.cell? ⟨x9.heap.size, 1, none⟩ = some (.int .i64 0) := (BX.out.bl 3 _ _ _ rfl).val rfl
              have p3_2 : x10.cell? ⟨x9.heap.size, 2, none⟩ = some (.int .i64 0) := (BX.out.bl 3 _ _ _ rfl).val rfl
              have z3 : ∀ k, x10.frozen? ⟨x9.heap.size, k, none⟩ = false := (BX.out.bl 3 _ _ _ rfl).free
              go_simp
              refine unheld hK (by kernel_rfl) ?_
              clear hK K
              try simp only [Act.put, List.getElem_toArray, List.getElem_cons_zero, List.getElem_cons_succ, List.setIfInBounds_toArray, List.set_cons_zero, List.set_cons_succ]
              clear y0 y1 y2 y3 p3_0 p3_1 p3_2 z3
              refine anyB_world (fun wx => Bxs w wx [(w.heap.size, 24, [.int .i64 su2, .int .i64 la, .int .i64 le]), (w.heap.size + 1, 26, [.int .i64 sp, .int .i64 kp2, .int .i64 ki2, .int .i64 kd2, .int .i64 li2, .int .i64 st2, .int .i64 mo2]), (x6.heap.size, 24, [.int .i64 0, .int .i64 0, .int .i64 0]), (x9.heap.size, 24, [.int .i64 c1, .int .i64 c2, .int .i64 c3])]) ((((BX.out).set_ 3 0 rfl _).set_ 3 1 rfl _).set_ 3 2 rfl _) ?_
              clear BX hHeld
              rintro x11 bx
              have BX := Lib.hid bx
              clear bx
              have y0 : w.heap.size < x11.heap.size := (BX.out.bl 0 _ _ _ rfl).size
              have y1 : w.heap.size + 1 < x11.heap.size := (BX.out.bl 1 _ _ _ rfl).size
              have y2 : x6.heap.size < x11.heap.size := (BX.out.bl 2 _ _ _ rfl).size
              have y3 : x9.heap.size < x11.heap.size := (BX.out.bl 3 _ _ _ rfl).size
              refine anyB_each (rs := [11]) hShut (by kernel_rfl) (by simp) ?_
              refine List.forall_mem_cons.2 ⟨fun hShut => wpOp_step rfl (fun K hK => ?_), fun _ h => by cases h⟩
              · have p2_0 : x11.cell? ⟨x6.heap.size, 0, none⟩ = some (.int .i64 0) := (BX.out.bl 2 _ _ _ rfl).val rfl
                have p2_1 : x11.cell? ⟨x6.heap.size, 1, none⟩ = some (.int .i64 0) := (BX.out.bl 2 _ _ _ rfl).val rfl
                have p2_2 : x11.cell? ⟨x6.heap.size, 2, none⟩ = some (.int .i64 0) := (BX.out.bl 2 _ _ _ rfl).val rfl
                have z2 : ∀ k, x11.frozen? ⟨x6.heap.size, k, none⟩ = false := (BX.out.bl 2 _ _ _ rfl).free
                go_simp
                refine unheld hK (by kernel_rfl) ?_
                clear hK K
                try simp only [Act.put, List.getElem_toArray, List.getElem_cons_zero, List.getElem_cons_succ, List.setIfInBounds_toArray, List.set_cons_zero, List.set_cons_succ]
                clear y0 y1 y2 y3 p2_0 p2_1 p2_2 z2
                refine anyB_world (fun wx => Bxs w wx [(w.heap.size, 24, [.int .i64 su2, .int .i64 la, .int .i64 le]), (w.heap.size + 1, 26, [.int .i64 sp, .int .i64 kp2, .int .i64 ki2, .int .i64 kd2, .int .i64 li2, .int .i64 st2, .int .i64 mo2]), (x6.heap.size, 24, [.int .i64 f1, .int .i64 f2, .int .i64 f3]), (x9.heap.size, 24, [.int .i64 c1, .int .i64 c2, .int .i64 c3])]) ((((BX.out).set_ 2 0 rfl _).set_ 2 1 rfl _).set_ 2 2 rfl _) ?_
                clear BX
                rintro x12 bx
                have BX := Lib.hid bx
                clear bx
                have y0 : w.heap.size < x12.heap.size := (BX.out.bl 0 _ _ _ rfl).size
                have y1 : w.heap.size + 1 < x12.heap.size := (BX.out.bl 1 _ _ _ rfl).size
                have y2 : x6.heap.size < x12.heap.size := (BX.out.bl 2 _ _ _ rfl).size
                have y3 : x9.heap.size < x12.heap.size := (BX.out.bl 3 _ _ _ rfl).size
                clear y0 y1 y2 y3
                have p2_0 : x12.cell? ⟨x6.heap.size, 0, none⟩ = some (.int .i64 f1) := (BX.out.bl 2 _ _ _ rfl).val rfl
                have p2_1 : x12.cell? ⟨x6.heap.size, 1, none⟩ = some (.int .i64 f2) := (BX.out.bl 2 _ _ _ rfl).val rfl
                have p2_2 : x12.cell? ⟨x6.heap.size, 2, none⟩ = some (.int .i64 f3) := (BX.out.bl 2 _ _ _ rfl).val rfl
                have z2 : ∀ k, x12.frozen? ⟨x6.heap.size, k, none⟩ = false := (BX.out.bl 2 _ _ _ rfl).free
                have y2 : x6.heap.size < x12.heap.size := (BX.out.bl 2 _ _ _ rfl).size
                have p3_0 : x12.cell? ⟨x9.heap.size, 0, none⟩ = some (.int .i64 c1) := (BX.out.bl 3 _ _ _ rfl).val rfl
                have p3_1 : x12.cell? ⟨x9.heap.size, 1, none⟩ = some (.int .i64 c2) := (BX.out.bl 3 _ _ _ rfl).val rfl
                have p3_2 : x12.cell? ⟨x9.heap.size, 2, none⟩ = some (.int .i64 c3) := (BX.out.bl 3 _ _ _ rfl).val rfl
                have z3 : ∀ k, x12.frozen? ⟨x9.heap.size, k, none⟩ = false := (BX.out.bl 3 _ _ _ rfl).free
                have y3 : x9.heap.size < x12.heap.size := (BX.out.bl 3 _ _ _ rfl).size
                refine anyB_done (by kernel_rfl) ?_ _
                refine NoPanic.normal ?_
                go_wp2_with fail
                refine bodyPost_ret (v := .bool true) (by simp [results, Try.results6, go_sem, *]) rfl ⟨rfl, BX.out.be⟩
        refine List.forall_mem_cons.2 ⟨fun hShut => wpOp_step rfl (fun K hK => ?_), fun _ h => by cases h⟩
        · go_simp
          refine hK _ _ ⟨fun _ => ⟨(BX.out.bl 0 _ _ _ rfl).alloc_ _, (BX.out.bl 1 _ _ _ rfl).alloc_ _⟩, ?_⟩
          clear hK K
          try simp only [Act.put, List.getElem_toArray, List.getElem_cons_zero, List.getElem_cons_succ, List.setIfInBounds_toArray, List.set_cons_zero, List.set_cons_succ]
          have gs0_x8 : w.heap.size < x8.heap.size := y0
          have gs1_x8 : w.heap.size + 1 < x8.heap.size := y1
          have gs2_x8 : x6.heap.size < x8.heap.size := y2
          clear y0 y1 y2
          refine anyB_world (fun wx => Bxs w wx [(w.heap.size, 24, [.int .i64 su2, .int .i64 la, .int .i64 le]), (w.heap.size + 1, 26, [.int .i64 sp, .int .i64 kp2, .int .i64 ki2, .int .i64 kd2, .int .i64 li2, .int .i64 st2, .int .i64 mo2]), (x6.heap.size, 24, [.int .i64 0, .int .i64 0, .int .i64 0]), (x8.heap.size, 24, [.int .i64 0, .int .i64 0, .int .i64 0])]) ((BX.out).alloc_ _ _ (by simp)) ?_
          clear BX hHeld
          rintro x9 bx
          have BX := Lib.hid bx
          clear bx
          have y0 : w.heap.size < x9.heap.size := (BX.out.bl 0 _ _ _ rfl).size
          have y1 : w.heap.size + 1 < x9.heap.size := (BX.out.bl 1 _ _ _ rfl).size
          have y2 : x6.heap.size < x9.heap.size := (BX.out.bl 2 _ _ _ rfl).size
          have y3 : x8.heap.size < x9.heap.size := (BX.out.bl 3 _ _ _ rfl).size
          have hHeld := And.intro (BX.out.bl 0 _ _ _ rfl) (BX.out.bl 1 _ _ _ rfl)
          refine anyB_each (rs := [7]) hShut (by kernel_rfl) (by simp) ?_
          refine List.forall_mem_cons.2 ⟨fun hShut => wpOp_step rfl (fun K hK => ?_), fun _ h => by cases h⟩
          · rw [if_pos (by rfl)]
            refine wp_enter (by go_simp; exact ⟨rfl, rfl⟩) ?_
            refine (psamp_lit su2 la le sp kp2 ki2 kd2 li2 st2 mo2 v f1 f2 f3 HY _ SK0.out.u0 SK0.out.u1 la0 la1 le0 le1 sp0 sp1 PO.out.kp0 PO.out.kp1 PO.out.ki0 PO.out.ki1 PO.out.kd0 PO.out.kd1 PO.out.li0 PO.out.li1 PO.out.st0 PO.out.st1 PO.out.mo0 PO.out.mo1 v0 v1).mono ?_
            rintro e x10 ⟨rfl, hbn⟩
            have bx := BX.out.below hbn
            clear y0 y1 y2 y3
            clear BX hbn hHeld
            have BX := Lib.hid bx
            clear bx
            have y0 : w.heap.size < x10.heap.size := (BX.out.bl 0 _ _ _ rfl).size
            have y1 : w.heap.size + 1 < x10.heap.size := (BX.out.bl 1 _ _ _ rfl).size
            have y2 : x6.heap.size < x10.heap.size := (BX.out.bl 2 _ _ _ rfl).size
            have y3 : x8.heap.size < x10.heap.size := (BX.out.bl 3 _ _ _ rfl).size
            have hHeld := And.intro (BX.out.bl 0 _ _ _ rfl) (BX.out.bl 1 _ _ _ rfl)
            refine ⟨_, rfl, ?_⟩
            refine hK _ _ ⟨fun _ => hHeld, ?_⟩
            clear hK K
            try simp only [Act.put, List.getElem_toArray, List.getElem_cons_zero, List.getElem_cons_succ, List.setIfInBounds_toArray, List.set_cons_zero, List.set_cons_succ]
            refine anyB_each (rs := [10]) hShut (by kernel_rfl) (by simp) ?_
            refine List.forall_mem_cons.2 ⟨fun hShut => wpOp_step rfl (fun K hK => ?_), fun _ h => by cases h⟩
            · have p3_0 : x10.cell? ⟨x8.heap.size, 0, none⟩ = some (.int .i64 0) := (BX.out.bl 3 _ _ _ rfl).val rfl
              have p3_1 : x10.cell? ⟨x8.heap.size, 1, none⟩ = some (.int .i64 0) := (BX.out.bl 3 _ _ _ rfl).val rfl
              have p3_2 : x10.cell? ⟨x8.heap.size, 2, none⟩ = some (.int .i64 0) := (BX.out.bl 3 _ _ _ rfl).val rfl
              have z3 : ∀ k, x10.frozen? ⟨x8.heap.size, k, none⟩ = false := (BX.out.bl 3 _ _ _ rfl).free
              go_simp
              refine unheld hK (by kernel_rfl) ?_
              clear hK K
              try simp only [Act.put, List.getElem_toArray, List.getElem_cons_zero, List.getElem_cons_succ, List.setIfInBounds_toArray, List.set_cons_zero, List.set_cons_succ]
              clear y0 y1 y2 y3 p3_0 p3_1 p3_2 z3
              refine anyB_world (fun wx => Bxs w wx [(w.heap.size, 24, [.int .i64 su2, .int .i64 la, .int .i64 le]), (w.heap.size + 1, 26, [.int .i64 sp, .int .i64 kp2, .int .i64 ki2, .int .i64 kd2, .int .i64 li2, .int .i64 st2, .int .i64 mo2]), (x6.heap.size, 24, [.int .i64 0, .int .i64 0, .int .i64 0]), (x8.heap.size, 24, [.int .i64 c1, .int .i64 c2, .int .i64 c3])]) ((((BX.out).set_ 3 0 rfl _).set_ 3 1 rfl _).set_ 3 2 rfl _) ?_
              clear BX hHeld
              rintro x11 bx
              have BX := Lib.hid bx
              clear bx
              have y0 : w.heap.size < x11.heap.size := (BX.out.bl 0 _ _ _ rfl).size
              have y1 : w.heap.size + 1 < x11.heap.size := (BX.out.bl 1 _ _ _ rfl).size
              have y2 : x6.heap.size < x11.heap.size := (BX.out.bl 2 _ _ _ rfl).size
              have y3 : x8.heap.size < x11.heap.size := (BX.out.bl 3 _ _ _ rfl).size
              refine anyB_each (rs := [11]) hShut (by kernel_rfl) (by simp) ?_
              refine List.forall_mem_cons.2 ⟨fun hShut => wpOp_step rfl (fun K hK => ?_), fun _ h => by cases h⟩
              · have p2_0 : x11.cell? ⟨x6.heap.size, 0, none⟩ = some (.int .i64 0) := (BX.out.bl 2 _ _ _ rfl).val rfl
                have p2_1 : x11.cell? ⟨x6.heap.size, 1, none⟩ = some (.int .i64 0) := (BX.out.bl 2 _ _ _ rfl).val rfl
                have p2_2 : x11.cell? ⟨x6.heap.size, 2, none⟩ = some (.int .i64 0) := (BX.out.bl 2 _ _ _ rfl).val rfl
                have z2 : ∀ k, x11.frozen? ⟨x6.heap.size, k, none⟩ = false := (BX.out.bl 2 _ _ _ rfl).free
                go_simp
                refine unheld hK (by kernel_rfl) ?_
                clear hK K
                try simp only [Act.put, List.getElem_toArray, List.getElem_cons_zero, List.getElem_cons_succ, List.setIfInBounds_toArray, List.set_cons_zero, List.set_cons_succ]
                clear y0 y1 y2 y3 p2_0 p2_1 p2_2 z2
                refine anyB_world (fun wx => Bxs w wx [(w.heap.size, 24, [.int .i64 su2, .int .i64 la, .int .i64 le]), (w.heap.size + 1, 26, [.int .i64 sp, .int .i64 kp2, .int .i64 ki2, .int .i64 kd2, .int .i64 li2, .int .i64 st2, .int .i64 mo2]), (x6.heap.size, 24, [.int .i64 f1, .int .i64 f2, .int .i64 f3]), (x8.heap.size, 24, [.int .i64 c1, .int .i64 c2, .int .i64 c3])]) ((((BX.out).set_ 2 0 rfl _).set_ 2 1 rfl _).set_ 2 2 rfl _) ?_
                clear BX
                rintro x12 bx
                have BX := Lib.hid bx
                clear bx
                have y0 : w.heap.size < x12.heap.size := (BX.out.bl 0 _ _ _ rfl).size
                have y1 : w.heap.size + 1 < x12.heap.size := (BX.out.bl 1 _ _ _ rfl).size
                have y2 : x6.heap.size < x12.heap.size := (BX.out.bl 2 _ _ _ rfl).size
                have y3 : x8.heap.size < x12.heap.size := (BX.out.bl 3 _ _ _ rfl).size
                clear y0 y1 y2 y3
                have p2_0 : x12.cell? ⟨x6.heap.size, 0, none⟩ = some (.int .i64 f1) := (BX.out.bl 2 _ _ _ rfl).val rfl
                have p2_1 : x12.cell? ⟨x6.heap.size, 1, none⟩ = some (.int .i64 f2) := (BX.out.bl 2 _ _ _ rfl).val rfl
                have p2_2 : x12.cell? ⟨x6.heap.size, 2, none⟩ = some (.int .i64 f3) := (BX.out.bl 2 _ _ _ rfl).val rfl
                have z2 : ∀ k, x12.frozen? ⟨x6.heap.size, k, none⟩ = false := (BX.out.bl 2 _ _ _ rfl).free
                have y2 : x6.heap.size < x12.heap.size := (BX.out.bl 2 _ _ _ rfl).size
                have p3_0 : x12.cell? ⟨x8.heap.size, 0, none⟩ = some (.int .i64 c1) := (BX.out.bl 3 _ _ _ rfl).val rfl
                have p3_1 : x12.cell? ⟨x8.heap.size, 1, none⟩ = some (.int .i64 c2) := (BX.out.bl 3 _ _ _ rfl).val rfl
                have p3_2 : x12.cell? ⟨x8.heap.size, 2, none⟩ = some (.int .i64 c3) := (BX.out.bl 3 _ _ _ rfl).val rfl
                have z3 : ∀ k, x12.frozen? ⟨x8.heap.size, k, none⟩ = false := (BX.out.bl 3 _ _ _ rfl).free
                have y3 : x8.heap.size < x12.heap.size := (BX.out.bl 3 _ _ _ rfl).size
                refine anyB_done (by kernel_rfl) ?_ _
                refine NoPanic.normal ?_
                go_wp2_with fail
                refine bodyPost_ret (v := .bool true) (by simp [results, Try.results6, go_sem, *]) rfl ⟨rfl, BX.out.be⟩
      refine List.forall_mem_cons.2 ⟨fun hShut => wpOp_step rfl (fun K hK => ?_), fun _ h => by cases h⟩
      · go_simp
        refine hK _ _ ⟨fun _ => ⟨(BX.out.bl 0 _ _ _ rfl).alloc_ _, (BX.out.bl 1 _ _ _ rfl).alloc_ _⟩, ?_⟩
        clear hK K
        try simp only [Act.put, List.getElem_toArray, List.getElem_cons_zero, List.getElem_cons_succ, List.setIfInBounds_toArray, List.set_cons_zero, List.set_cons_succ]
        have gs0_x7 : w.heap.size < x7.heap.size := y0
        have gs1_x7 : w.heap.size + 1 < x7.heap.size := y1
        have gs2_x7 : x6.heap.size < x7.heap.size := y2
        clear y0 y1 y2
        refine anyB_world (fun wx => Bxs w wx [(w.heap.size, 24, [.int .i64 su2, .int .i64 la, .int .i64 le]), (w.heap.size + 1, 26, [.int .i64 sp, .int .i64 kp2, .int .i64 ki2, .int .i64 kd2, .int .i64 li2, .int .i64 st2, .int .i64 mo2]), (x6.heap.size, 24, [.int .i64 0, .int .i64 0, .int .i64 0]), (x7.heap.size, 24, [.int .i64 0, .int .i64 0, .int .i64 0])]) ((BX.out).alloc_ _ _ (by simp)) ?_
        clear BX hHeld
        rintro x8 bx
        have BX := Lib.hid bx
        clear bx
        have y0 : w.heap.size < x8.heap.size := (BX.out.bl 0 _ _ _ rfl).size
        have y1 : w.heap.size + 1 < x8.heap.size := (BX.out.bl 1 _ _ _ rfl).size
        have y2 : x6.heap.size < x8.heap.size := (BX.out.bl 2 _ _ _ rfl).size
        have y3 : x7.heap.size < x8.heap.size := (BX.out.bl 3 _ _ _ rfl).size
        have hHeld := And.intro (BX.out.bl 0 _ _ _ rfl) (BX.out.bl 1 _ _ _ rfl)
        refine anyB_each (rs := [3]) hShut (by kernel_rfl) (by simp) ?_
        refine List.forall_mem_cons.2 ⟨fun hShut => wpOp_step rfl (fun K hK => ?_), fun _ h => by cases h⟩
        · rw [if_pos (by rfl)]
          refine wp_enter (by go_simp; exact ⟨rfl, rfl⟩) ?_
          refine (psamp_lit su2 la le sp kp2 ki2 kd2 li2 st2 mo2 u c1 c2 c3 HZ _ SK0.out.u0 SK0.out.u1 la0 la1 le0 le1 sp0 sp1 PO.out.kp0 PO.out.kp1 PO.out.ki0 PO.out.ki1 PO.out.kd0 PO.out.kd1 PO.out.li0 PO.out.li1 PO.out.st0 PO.out.st1 PO.out.mo0 PO.out.mo1 u0 u1).mono ?_
          rintro e x9 ⟨rfl, hbn⟩
          have bx := BX.out.below hbn
          clear y0 y1 y2 y3
          clear BX hbn hHeld
          have BX := Lib.hid bx
          clear bx
          have y0 : w.heap.size < x9.heap.size := (BX.out.bl 0 _ _ _ rfl).size
          have y1 : w.heap.size + 1 < x9.heap.size := (BX.out.bl 1 _ _ _ rfl).size
          have y2 : x6.heap.size < x9.heap.size := (BX.out.bl 2 _ _ _ rfl).size
          have y3 : x7.heap.size < x9.heap.size := (BX.out.bl 3 _ _ _ rfl).size
          have hHeld := And.intro (BX.out.bl 0 _ _ _ rfl) (BX.out.bl 1 _ _ _ rfl)
          refine ⟨_, rfl, ?_⟩
          refine hK _ _ ⟨fun _ => hHeld, ?_⟩
          clear hK K
          try simp only [Act.put, List.getElem_toArray, List.getElem_cons_zero, List.getElem_cons_succ, List.setIfInBounds_toArray, List.set_cons_zero, List.set_cons_succ]
          refine anyB_each (rs := [7]) hShut (by kernel_rfl) (by simp) ?_
          refine List.forall_mem_cons.2 ⟨fun hShut => wpOp_step rfl (fun K hK => ?_), fun _ h => by cases h⟩
          · rw [if_pos (by rfl)]
            refine wp_enter (by go_simp; exact ⟨rfl, rfl⟩) ?_
            refine (psamp_lit su2 la le sp kp2 ki2 kd2 li2 st2 mo2 v f1 f2 f3 HY _ SK0.out.u0 SK0.out.u1 la0 la1 le0 le1 sp0 sp1 PO.out.kp0 PO.out.kp1 PO.out.ki0 PO.out.ki1 PO.out.kd0 PO.out.kd1 PO.out.li0 PO.out.li1 PO.out.st0 PO.out.st1 PO.out.mo0 PO.out.mo1 v0 v1).mono ?_
            rintro e x10 ⟨rfl, hbn⟩
            have bx := BX.out.below hbn
            clear y0 y1 y2 y3
            clear BX hbn hHeld
            have BX := Lib.hid bx
            clear bx
            have y0 : w.heap.size < x10.heap.size := (BX.out.bl 0 _ _ _ rfl).size
            have y1 : w.heap.size + 1 < x10.heap.size := (BX.out.bl 1 _ _ _ rfl).size
            have y2 : x6.heap.size < x10.heap.size := (BX.out.bl 2 _ _ _ rfl).size
            have y3 : x7.heap.size < x10.heap.size := (BX.out.bl 3 _ _ _ rfl).size
            have hHeld := And.intro (BX.out.bl 0 _ _ _ rfl) (BX.out.bl 1 _ _ _ rfl)
            refine ⟨_, rfl, ?_⟩
            refine hK _ _ ⟨fun _ => hHeld, ?_⟩
            clear hK K
            try simp only [Act.put, List.getElem_toArray, List.getElem_cons_zero, List.getElem_cons_succ, List.setIfInBounds_toArray, List.set_cons_zero, List.set_cons_succ]
            refine anyB_each (rs := [10]) hShut (by kernel_rfl) (by simp) ?_
            refine List.forall_mem_cons.2 ⟨fun hShut => wpOp_step rfl (fun K hK => ?_), fun _ h => by cases h⟩
            · have p3_0 : x10.cell? ⟨x7.heap.size, 0, none⟩ = some (.int .i64 0) := (BX.out.bl 3 _ _ _ rfl).val rfl
              have p3_1 : x10.cell? ⟨x7.heap.size, 1, none⟩ = some (.int .i64 0) := (BX.out.bl 3 _ _ _ rfl).val rfl
              have p3_2 : x10.cell? ⟨x7.heap.size, 2, none⟩ = some (.int .i64 0) := (BX.out.bl 3 _ _ _ rfl).val rfl
              have z3 : ∀ k, x10.frozen? ⟨x7.heap.size, k, none⟩ = false := (BX.out.bl 3 _ _ _ rfl).free
              go_simp
              refine unheld hK (by kernel_rfl) ?_
              clear hK K
              try simp only [Act.put, List.getElem_toArray, List.getElem_cons_zero, List.getElem_cons_succ, List.setIfInBounds_toArray, List.set_cons_zero, List.set_cons_succ]
              clear y0 y1 y2 y3 p3_0 p3_1 p3_2 z3
              refine anyB_world (fun wx => Bxs w wx [(w.heap.size, 24, [.int .i64 su2, .int .i64 la, .int .i64 le]), (w.heap.size + 1, 26, [.int .i64 sp, .int .i64 kp2, .int .i64 ki2, .int .i64 kd2, .int .i64 li2, .int .i64 st2, .int .i64 mo2]), (x6.heap.size, 24, [.int .i64 0, .int .i64 0, .int .i64 0]), (x7.heap.size, 24, [.int .i64 c1, .int .i64 c2, .int .i64 c3])]) ((((BX.out).set_ 3 0 rfl _).set_ 3 1 rfl _).set_ 3 2 rfl _) ?_
              clear BX hHeld
              rintro x11 bx
              have BX := Lib.hid bx
              clear bx
              have y0 : w.heap.size < x11.heap.size := (BX.out.bl 0 _ _ _ rfl).size
              have y1 : w.heap.size + 1 < x11.heap.size := (BX.out.bl 1 _ _ _ rfl).size
              have y2 : x6.heap.size < x11.heap.size := (BX.out.bl 2 _ _ _ rfl).size
              have y3 : x7.heap.size < x11.heap.size := (BX.out.bl 3 _ _ _ rfl).size
              refine anyB_each (rs := [11]) hShut (by kernel_rfl) (by simp) ?_
              refine List.forall_mem_cons.2 ⟨fun hShut => wpOp_step rfl (fun K hK => ?_), fun _ h => by cases h⟩
              · have p2_0 : x11.cell? ⟨x6.heap.size, 0, none⟩ = some (.int .i64 0) := (BX.out.bl 2 _ _ _ rfl).val rfl
                have p2_1 : x11.cell? ⟨x6.heap.size, 1, none⟩ = some (.int .i64 0) := (BX.out.bl 2 _ _ _ rfl).val rfl
                have p2_2 : x11.cell? ⟨x6.heap.size, 2, none⟩ = some (.int .i64 0) := (BX.out.bl 2 _ _ _ rfl).val rfl
                have z2 : ∀ k, x11.frozen? ⟨x6.heap.size, k, none⟩ = false := (BX.out.bl 2 _ _ _ rfl).free
                go_simp
                refine unheld hK (by kernel_rfl) ?_
                clear hK K
                try simp only [Act.put, List.getElem_toArray, List.getElem_cons_zero, List.getElem_cons_succ, List.setIfInBounds_toArray, List.set_cons_zero, List.set_cons_succ]
                clear y0 y1 y2 y3 p2_0 p2_1 p2_2 z2
                refine anyB_world (fun wx => Bxs w wx [(w.heap.size, 24, [.int .i64 su2, .int .i64 la, .int .i64 le]), (w.heap.size + 1, 26, [.int .i64 sp, .int .i64 kp2, .int .i64 ki2, .int .i64 kd2, .int .i64 li2, .int .i64 st2, .int .i64 mo2]), (x6.heap.size, 24, [.int .i64 f1, .int .i64 f2, .int .i64 f3]), (x7.heap.size, 24, [.int .i64 c1, .int .i64 c2, .int .i64 c3])]) ((((BX.out).set_ 2 0 rfl _).set_ 2 1 rfl _).set_ 2 2 rfl _) ?_
                clear BX
                rintro x12 bx
                have BX := Lib.hid bx
                clear bx
                have y0 : w.heap.size < x12.heap.size := (BX.out.bl 0 _ _ _ rfl).size
                have y1 : w.heap.size + 1 < x12.heap.size := (BX.out.bl 1 _ _ _ rfl).size
                have y2 : x6.heap.size < x12.heap.size := (BX.out.bl 2 _ _ _ rfl).size
                have y3 : x7.heap.size < x12.heap.size := (BX.out.bl 3 _ _ _ rfl).size
                clear y0 y1 y2 y3
                have p2_0 : x12.cell? ⟨x6.heap.size, 0, none⟩ = some (.int .i64 f1) := (BX.out.bl 2 _ _ _ rfl).val rfl
                have p2_1 : x12.cell? ⟨x6.heap.size, 1, none⟩ = some (.int .i64 f2) := (BX.out.bl 2 _ _ _ rfl).val rfl
                have p2_2 : x12.cell? ⟨x6.heap.size, 2, none⟩ = some (.int .i64 f3) := (BX.out.bl 2 _ _ _ rfl).val rfl
                have z2 : ∀ k, x12.frozen? ⟨x6.heap.size, k, none⟩ = false := (BX.out.bl 2 _ _ _ rfl).free
                have y2 : x6.heap.size < x12.heap.size := (BX.out.bl 2 _ _ _ rfl).size
                have p3_0 : x12.cell? ⟨x7.heap.size, 0, none⟩ = some (.int .i64 c1) := (BX.out.bl 3 _ _ _ rfl).val rfl
                have p3_1 : x12.cell? ⟨x7.heap.size, 1, none⟩ = some (.int .i64 c2) := (BX.out.bl 3 _ _ _ rfl).val rfl
                have p3_2 : x12.cell? ⟨x7.heap.size, 2, none⟩ = some (.int .i64 c3) := (BX.out.bl 3 _ _ _ rfl).val rfl
                have z3 : ∀ k, x12.frozen? ⟨x7.heap.size, k, none⟩ = false := (BX.out.bl 3 _ _ _ rfl).free
                have y3 : x7.heap.size < x12.heap.size := (BX.out.bl 3 _ _ _ rfl).size
                refine anyB_done (by kernel_rfl) ?_ _
                refine NoPanic.normal ?_
                go_wp2_with fail
                refine bodyPost_ret (v := .bool true) (by simp [results, Try.results6, go_sem, *]) rfl ⟨rfl, BX.out.be⟩
set_option maxRecDepth 100000 in
theorem lifted (os : Os) (started : os.Started) (H : Type) (enc : TypeId × Value → H) :
    ReturnsInHanded {} Try.checked os 6 .any (Rows.pidRisesSpec.pre6 enc Try.prog Try.f6 Rows.pidRisesRow.domain false) (Rows.pidRisesSpec.post enc Try.prog Try.f6 false true false false) := by
  refine returnsInHanded_of_change (C := Try.checked) own started (by kernel_rfl) Try.func6
    (ChangeSpec.witness6 (enc := enc) (C := Try.checked) false ⟨#[], #[.agg #[.int .i64 0, .int .i64 0, .int .i64 0], .agg #[.int .i64 0, .int .i64 0, .int .i64 0, .int .i64 0, .int .i64 0, .int .i64 0, .int .i64 0], .int .i64 0, .int .i64 0], []⟩ 8 (by kernel_rfl) (by kernel_rfl) (by kernel_rfl) (by kernel_rfl)) ?_
  intro W base args ds gs before hval0 hW hcnd _
  have hval : ∀ (j : Nat) t v, Try.f6.params[j]? = some t → args[j]? = some v → Value.okWide Try.prog W .any base t v := hval0
  have hW' := hW
  obtain ⟨p, q, hA0, hV, rfl, hfz, hnd⟩ := hW
  have hA : DataW.TrodAll enc Try.prog W 0 (fun _ => true) true Try.f6.params.toList args.toList ds p := hA0
  rw [Try.params6] at hA hval
  obtain ⟨v0, vs0, d0, ds0, p0, q0, hargs, rfl, rfl, h0, r0⟩ := trodAll_cons hA
  obtain ⟨v1, vs1, d1, ds1, p1, q1, rfl, rfl, rfl, h1, r1⟩ := trodAll_cons r0
  obtain ⟨v2, vs2, d2, ds2, p2, q2, rfl, rfl, rfl, h2, r2⟩ := trodAll_cons r1
  obtain ⟨v3, vs3, d3, ds3, p3, q3, rfl, rfl, rfl, h3, r3⟩ := trodAll_cons r2
  obtain ⟨rfl, rfl, rfl⟩ := trodAll_nil r3
  obtain rfl : args = #[v0, v1, v2, v3] := by cases args; simp_all
  obtain ⟨rfl, rfl⟩ := trodVars_none hV
  obtain ⟨x00, x01, x02, y00, y01, y02, n0, rfl, g00, g01, g02⟩ := open_three Try.underlying24 (by kernel_rfl) (by kernel_rfl) (hval 0 _ v0 rfl rfl) h0
  obtain ⟨a00, e00, ez00, w00⟩ := DataW.trod_int Try.underlying22 g00
  simp at e00
  subst e00
  obtain ⟨a01, e01, ez01, w01⟩ := DataW.trod_int Try.underlying22 g01
  simp at e01
  subst e01
  obtain ⟨a02, e02, ez02, w02⟩ := DataW.trod_int Try.underlying2 g02
  simp at e02
  subst e02
  obtain ⟨x10, x11, x12, x13, x14, x15, x16, y10, y11, y12, y13, y14, y15, y16, n1, rfl, g10, g11, g12, g13, g14, g15, g16⟩ := open_seven Try.underlying26 (by kernel_rfl) (by kernel_rfl) (hval 1 _ v1 rfl rfl) h1
  obtain ⟨a10, e10, ez10, w10⟩ := DataW.trod_int Try.underlying22 g10
  simp at e10
  subst e10
  obtain ⟨a11, e11, ez11, w11⟩ := DataW.trod_int Try.underlying22 g11
  simp at e11
  subst e11
  obtain ⟨a12, e12, ez12, w12⟩ := DataW.trod_int Try.underlying22 g12
  simp at e12
  subst e12
  obtain ⟨a13, e13, ez13, w13⟩ := DataW.trod_int Try.underlying22 g13
  simp at e13
  subst e13
  obtain ⟨a14, e14, ez14, w14⟩ := DataW.trod_int Try.underlying22 g14
  simp at e14
  subst e14
  obtain ⟨a15, e15, ez15, w15⟩ := DataW.trod_int Try.underlying2 g15
  simp at e15
  subst e15
  obtain ⟨a16, e16, ez16, w16⟩ := DataW.trod_int Try.underlying2 g16
  simp at e16
  subst e16
  obtain ⟨a2, rfl, rfl, rfl, w2⟩ := open_int Try.underlying2 (hval 2 _ v2 rfl rfl) h2
  obtain ⟨a3, rfl, rfl, rfl, w3⟩ := open_int Try.underlying2 (hval 3 _ v3 rfl rfl) h3
  clear hA0 hval0
  obtain ⟨l00, m00⟩ := wf_i64 w00
  obtain ⟨l01, m01⟩ := wf_i64 w01
  obtain ⟨l02, m02⟩ := wf_i64 w02
  obtain ⟨l10, m10⟩ := wf_i64 w10
  obtain ⟨l11, m11⟩ := wf_i64 w11
  obtain ⟨l12, m12⟩ := wf_i64 w12
  obtain ⟨l13, m13⟩ := wf_i64 w13
  obtain ⟨l14, m14⟩ := wf_i64 w14
  obtain ⟨l15, m15⟩ := wf_i64 w15
  obtain ⟨l16, m16⟩ := wf_i64 w16
  obtain ⟨l2, m2⟩ := wf_i64 w2
  obtain ⟨l3, m3⟩ := wf_i64 w3
  refine (walk a00 a01 a02 a10 a11 a12 a13 a14 a15 a16 a2 a3 W l00 m00 l01 m01 l02 m02 l10 m10 l11 m11 l12 m12 l13 m13 l14 m14 l15 m15 l16 m16 l2 m2 l3 m3).mono fun e W' ⟨he, hg⟩ => ?_
  subst he
  exact ⟨_, rfl, post_of_law hW' rfl laidOut reads rfl Try.underlying4 rfl rfl rfl hg⟩
theorem over : Rows.pidRisesRow.holds Try.pinned (OpenSpec.ofChange Rows.pidRisesSpec) :=
  OpenClaim.holds_of_wide 6 Try.f6 rfl rfl rfl rfl rfl rfl rfl ⟨rfl, rfl, rfl, rfl, rfl⟩ rfl rfl rfl rfl rfl (by kernel_rfl) Try.func6 (by kernel_rfl)
    (of_decide_eq_true (by kernel_rfl)) (by unfold Func.isWrapper; first | (rw [if_pos (by decide +kernel)]; kernel_rfl) | (rw [if_neg (by decide +kernel)]; exact ⟨rfl, rfl⟩))
    (fun os started H enc _ => lifted os started H enc)
theorem proved : Rows.PidRisesSaid := over
end Go.Proofs.Ytfbkimhblfpibaa.pidRises
