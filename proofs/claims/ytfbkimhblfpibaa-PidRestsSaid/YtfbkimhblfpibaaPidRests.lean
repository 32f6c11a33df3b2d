/- PidRests is true of every state, all params and every list of samples, and changes nothing that it was given. -/
import Derived.Test.YtfbkimhblfpibaaPidd
import Derived.Test.YtfbkimhblfpibaaHelpc
import Derived.Test.YtfbkimhblfpibaaAny
import Derived.Test.YtfbkimhblfpibaaRowb
import Derived.Test.YtfbkimhblfpibaaRows
import Derived.WalkKit
import Derived.ProofKit
import Derived.OpenShut
import Derived.Deep.DeepCutAuto
import Derived.Deep.CutBlock
import Derived.BigQuiet
import Derived.Deep.QuietTactic
import Derived.Deep.RegionHeld3
namespace Go.Proofs.Ytfbkimhblfpibaa.pidRests
open Go.ChangeShapes Go.WideShapes Go.ChangeAt Go.RowKit Kn
set_option linter.unusedVariables false
theorem own : ownKnob Try.prog.godebug = none := by kernel_rfl
theorem laidOut : laidOutB Try.prog = true := by kernel_rfl
theorem reads : (Try.f7.params.toList.all fun t => Try.prog.readableRec t && decide (t < Try.prog.types.size)) = true := by kernel_rfl
set_option linter.unusedSimpArgs false
theorem pmend_lit (sp kp ki kd li st mo kp2 ki2 kd2 li2 st2 mo2 : Int) (h : Hid (mx kp 0 = kp2 ∧ mx ki 0 = ki2 ∧ mx kd 0 = kd2 ∧ mx li 0 = li2 ∧ mx st 1 = st2 ∧ mx mo 0 = mo2)) (w : World) :
    Calls Try.prog 16 #[.agg #[.int .i64 sp, .int .i64 kp, .int .i64 ki, .int .i64 kd, .int .i64 li, .int .i64 st, .int .i64 mo]] w fun e w' => e = .returned (.agg #[.int .i64 sp, .int .i64 kp2, .int .i64 ki2, .int .i64 kd2, .int .i64 li2, .int .i64 st2, .int .i64 mo2]) ∧ Below w.heap.size w w' := by
  obtain ⟨rfl, rfl, rfl, rfl, rfl, rfl⟩ := h.out
  exact pmend_any sp kp ki kd li st mo w
theorem mx_lo (a b : Int) : b ≤ mx a b ∧ (a ≤ 9223372036854775807 → b ≤ 9223372036854775807 → mx a b ≤ 9223372036854775807) := by unfold mx; omega
theorem prod_zero (a : Int) : prodN 0 a = 0 := by rw [prod_floor, Int.zero_mul]; rfl
theorem clamp_mono (x y l h : Int) (hxy : x ≤ y) (hlh : l ≤ h) : clampN x l h ≤ clampN y l h := by
  unfold clampN; split <;> split <;> (try split) <;> (try split) <;> omega
theorem clamp_two (x l h : Int) (hlh : l ≤ h) : l ≤ clampN x l h ∧ clampN x l h ≤ h ∧ (l ≤ x → x ≤ h → clampN x l h = x) ∧ (x ≤ l → clampN x l h = l) ∧ (h ≤ x → clampN x l h = h) := by
  unfold clampN; split <;> (try split) <;> omega
/-- What a sample may do. -/
theorem sampled (s : Pst) (p : Ppr) (u : Int) (hs : s.ok) (hp : p.ok) (k0 : 0 ≤ p.li) (s1 : 1 ≤ p.st) (m0 : 0 ≤ p.mo) :
    0 ≤ (sampP s p u).le ∧ (sampP s p u).le ≤ p.mo ∧ 0 ≤ (sampP s p u).su ∧ (p.sp < u → (sampP s p u).su ≤ p.li) ∧
    (0 ≤ s.le → s.le ≤ p.mo → (sampP s p u).le ≤ sat (s.le + p.st) ∧ s.le - 1 ≤ (sampP s p u).le ∧ (p.sp < u → s.le ≤ (sampP s p u).le)) ∧
    (¬ p.sp < u → (sampP s p u).le = clampN (sat (s.le - 1)) 0 p.mo ∧ (sampP s p u).su = mx (s.su / 2) 0) := by
  obtain ⟨u0, u1, -, -, e0, e1⟩ := hs
  by_cases h : p.sp < u
  · rw [sampP, if_pos h]
    have c1 := clamp_two (levP s p (sat (u - p.sp))) 0 p.mo m0
    have c2 := clamp_two (sat (s.su + sat (prodN p.ki (sat (u - p.sp))))) 0 p.li k0
    refine ⟨c1.1, c1.2.1, c2.1, fun _ => c2.2.1, fun q0 q1 => ?_, fun c => absurd h c⟩
    have hst : s.le ≤ sat (s.le + p.st) := by
      have := hp.st1
      unfold sat; split <;> (try split) <;> omega
    have hl : s.le ≤ levP s p (sat (u - p.sp)) ∧ levP s p (sat (u - p.sp)) ≤ sat (s.le + p.st) := by
      unfold levP mn mx; omega
    have hc := clamp_mono _ _ 0 p.mo hl.1 m0
    rw [(clamp_two s.le 0 p.mo m0).2.2.1 q0 q1] at hc
    show (clampN _ 0 p.mo) ≤ _ ∧ s.le - 1 ≤ (clampN _ 0 p.mo) ∧ _
    refine ⟨?_, by omega, fun _ => hc⟩
    have : clampN (levP s p (sat (u - p.sp))) 0 p.mo ≤ levP s p (sat (u - p.sp)) ∨ levP s p (sat (u - p.sp)) < 0 := by
      unfold clampN; split <;> (try split) <;> omega
    rcases this with h | h <;> omega
  · rw [sampP, if_neg h]
    have hd : sat (s.le - 1) = s.le - 1 ∨ s.le - 1 < -9223372036854775808 ∧ sat (s.le - 1) = -9223372036854775808 := by
      unfold sat; split <;> (try split) <;> omega
    have c1 := clamp_two (sat (s.le - 1)) 0 p.mo m0
    have e : sat (prodN s.su 2147483648) = s.su / 2 := by rw [prod_floor, sat_id _ (by omega) (by omega)]; omega
    refine ⟨c1.1, c1.2.1, by show (0 : Int) ≤ mx _ 0; unfold mx; omega, fun c => absurd c h, fun q0 q1 => ⟨?_, ?_, fun c => absurd c h⟩, fun _ => ⟨rfl, by show mx _ 0 = _; rw [e]⟩⟩
    · show clampN _ 0 p.mo ≤ _
      have : sat (s.le + p.st) ≥ s.le := by have := hp.st1; unfold sat; split <;> (try split) <;> omega
      unfold clampN; split <;> (try split) <;> omega
    · show s.le - 1 ≤ clampN _ 0 p.mo
      unfold clampN; split <;> (try split) <;> omega
theorem pow_pos2 (k : Nat) : (0 : Int) < 2 ^ k := Int.pow_pos (by decide)
theorem half_step (s k : Nat) (a : Int) (h : a < (2 : Int) ^ (s + 1)) : a / 2 < (2 : Int) ^ s := by
  rw [Int.pow_succ] at h; omega
theorem flat (s : Pst) (p : Ppr) (u : Int) (hs : s.ok) (hp : p.ok) (k : p.kp = 0) (i : p.ki = 0) (d : p.kd = 0) (l0 : 0 ≤ p.li) (s1 : 1 ≤ p.st) (m0 : 0 ≤ p.mo) (hu : p.sp < u) (h0 : s.su = 0) (e0 : 0 ≤ s.le) (e1 : s.le ≤ p.mo) :
    (sampP s p u).su = 0 ∧ (sampP s p u).le = s.le := by
  rw [sampP, if_pos hu]
  have hsum : sumP s p (sat (u - p.sp)) = 0 := by
    unfold sumP
    rw [i, prod_zero, h0]
    exact (clamp_two 0 0 p.li l0).2.2.1 (by omega) l0
  have hout : outP s p (sat (u - p.sp)) = 0 := by
    unfold outP
    rw [hsum, k, d, prod_zero, prod_zero]
    rfl
  refine ⟨hsum, ?_⟩
  show clampN (levP s p (sat (u - p.sp))) 0 p.mo = s.le
  have hst : s.le ≤ sat (s.le + p.st) := by
    have := hp.st1
    have := hp.mo1
    unfold sat; split <;> (try split) <;> omega
  have hlev : levP s p (sat (u - p.sp)) = s.le := by
    unfold levP
    rw [hout]
    unfold mn mx; omega
  rw [hlev]
  exact (clamp_two s.le 0 p.mo m0).2.2.1 e0 e1
set_option maxRecDepth 100000 in
set_option maxHeartbeats 4000000 in
theorem walk (su la le sp kp ki kd li st mo : Int) (A : Option Addr) (len cap : Nat) (Q : Nat → Int) (w : World) (hl : len ≤ cap) (hc : cap ≤ maxLen) (hQ : SeqAt w w.heap.size A len 1 (fun i => [.int .u32 (Q i)])) (hok : ∀ i, 0 ≤ Q i ∧ Q i ≤ 4294967295) (su0 : -9223372036854775808 ≤ su) (su1 : su ≤ 9223372036854775807) (la0 : -9223372036854775808 ≤ la) (la1 : la ≤ 9223372036854775807) (le0 : -9223372036854775808 ≤ le) (le1 : le ≤ 9223372036854775807) (sp0 : -9223372036854775808 ≤ sp) (sp1 : sp ≤ 9223372036854775807) (kp0 : -9223372036854775808 ≤ kp) (kp1 : kp ≤ 9223372036854775807) (ki0 : -9223372036854775808 ≤ ki) (ki1 : ki ≤ 9223372036854775807) (kd0 : -9223372036854775808 ≤ kd) (kd1 : kd ≤ 9223372036854775807) (li0 : -9223372036854775808 ≤ li) (li1 : li ≤ 9223372036854775807) (st0 : -9223372036854775808 ≤ st) (st1 : st ≤ 9223372036854775807) (mo0 : -9223372036854775808 ≤ mo) (mo1 : mo ≤ 9223372036854775807) :
    Calls Try.prog 7 #[.agg #[.int .i64 su, .int .i64 la, .int .i64 le], .agg #[.int .i64 sp, .int .i64 kp, .int .i64 ki, .int .i64 kd, .int .i64 li, .int .i64 st, .int .i64 mo], .slice A len cap] w fun e w' => e = .returned (.bool true) ∧ Below w.heap.size w w' := by
  unfold maxLen at hc
  have HQ := Lib.hid hQ
  have HOK := Lib.hid hok
  clear hQ hok
  obtain ⟨kp2, ekp⟩ : ∃ n, mx kp 0 = n := ⟨_, rfl⟩
  have kp2l := mx_lo kp 0
  rw [ekp] at kp2l
  have kp20 : 0 ≤ kp2 := kp2l.1
  have kp21 : kp2 ≤ 9223372036854775807 := kp2l.2 kp1 (by omega)
  clear kp2l
  obtain ⟨ki2, eki⟩ : ∃ n, mx ki 0 = n := ⟨_, rfl⟩
  have ki2l := mx_lo ki 0
  rw [eki] at ki2l
  have ki20 : 0 ≤ ki2 := ki2l.1
  have ki21 : ki2 ≤ 9223372036854775807 := ki2l.2 ki1 (by omega)
  clear ki2l
  obtain ⟨kd2, ekd⟩ : ∃ n, mx kd 0 = n := ⟨_, rfl⟩
  have kd2l := mx_lo kd 0
  rw [ekd] at kd2l
  have kd20 : 0 ≤ kd2 := kd2l.1
  have kd21 : kd2 ≤ 9223372036854775807 := kd2l.2 kd1 (by omega)
  clear kd2l
  obtain ⟨li2, eli⟩ : ∃ n, mx li 0 = n := ⟨_, rfl⟩
  have li2l := mx_lo li 0
  rw [eli] at li2l
  have li20 : 0 ≤ li2 := li2l.1
  have li21 : li2 ≤ 9223372036854775807 := li2l.2 li1 (by omega)
  clear li2l
  obtain ⟨st2, est⟩ : ∃ n, mx st 1 = n := ⟨_, rfl⟩
  have st2l := mx_lo st 1
  rw [est] at st2l
  have st20 : 1 ≤ st2 := st2l.1
  have st21 : st2 ≤ 9223372036854775807 := st2l.2 st1 (by omega)
  clear st2l
  obtain ⟨mo2, emo⟩ : ∃ n, mx mo 0 = n := ⟨_, rfl⟩
  have mo2l := mx_lo mo 0
  rw [emo] at mo2l
  have mo20 : 0 ≤ mo2 := mo2l.1
  have mo21 : mo2 ≤ 9223372036854775807 := mo2l.2 mo1 (by omega)
  clear mo2l
  have HM : Hid (mx kp 0 = kp2 ∧ mx ki 0 = ki2 ∧ mx kd 0 = kd2 ∧ mx li 0 = li2 ∧ mx st 1 = st2 ∧ mx mo 0 = mo2) := Lib.hid ⟨ekp, eki, ekd, eli, est, emo⟩
  clear ekp eki ekd eli est emo
  have PO : Hid (⟨sp, kp2, ki2, kd2, li2, st2, mo2⟩ : Ppr).ok := Lib.hid ⟨sp0, sp1, by show _ ≤ kp2; omega, kp21, by show _ ≤ ki2; omega, ki21, by show _ ≤ kd2; omega, kd21, by show _ ≤ li2; omega, li21, by show _ ≤ st2; omega, st21, by show _ ≤ mo2; omega, mo21⟩
  go_enter Try.func7, Try.ntmps7
  go_upto_region 1 with fail
  refine wp_worldx (fun wx => Bxs w wx [(w.heap.size, 24, [.int .i64 su, .int .i64 la, .int .i64 le]), (w.heap.size + 1, 26, [.int .i64 sp, .int .i64 kp, .int .i64 ki, .int .i64 kd, .int .i64 li, .int .i64 st, .int .i64 mo])]) (((Bxs.nil_ w).alloc_ _ _ (by simp)).alloc_ _ _ (by simp)) ?_
  rintro x1 bx
  have BX := Lib.hid bx
  clear bx
  have p0_0 : x1.cell? ⟨w.heap.size, 0, none⟩ = some (.int .i64 su) := (BX.out.bl 0 _ _ _ rfl).val rfl
  have p0_1 : x1.cell? ⟨w.heap.size, 1, none⟩ = some (.int .i64 la) := (BX.out.bl 0 _ _ _ rfl).val rfl
  have p0_2 : x1.cell? ⟨w.heap.size, 2, none⟩ = some (.int .i64 le) := (BX.out.bl 0 _ _ _ rfl).val rfl
  have z0 : ∀ k, x1.frozen? ⟨w.heap.size, k, none⟩ = false := (BX.out.bl 0 _ _ _ rfl).free
  have y0 : w.heap.size < x1.heap.size := (BX.out.bl 0 _ _ _ rfl).size
  have p1_0 : x1.cell? ⟨w.heap.size + 1, 0, none⟩ = some (.int .i64 sp) := (BX.out.bl 1 _ _ _ rfl).val rfl
  have p1_1 : x1.cell? ⟨w.heap.size + 1, 1, none⟩ = some (.int .i64 kp) := (BX.out.bl 1 _ _ _ rfl).val rfl
  have p1_2 : x1.cell? ⟨w.heap.size + 1, 2, none⟩ = some (.int .i64 ki) := (BX.out.bl 1 _ _ _ rfl).val rfl
  have p1_3 : x1.cell? ⟨w.heap.size + 1, 3, none⟩ = some (.int .i64 kd) := (BX.out.bl 1 _ _ _ rfl).val rfl
  have p1_4 : x1.cell? ⟨w.heap.size + 1, 4, none⟩ = some (.int .i64 li) := (BX.out.bl 1 _ _ _ rfl).val rfl
  have p1_5 : x1.cell? ⟨w.heap.size + 1, 5, none⟩ = some (.int .i64 st) := (BX.out.bl 1 _ _ _ rfl).val rfl
  have p1_6 : x1.cell? ⟨w.heap.size + 1, 6, none⟩ = some (.int .i64 mo) := (BX.out.bl 1 _ _ _ rfl).val rfl
  have z1 : ∀ k, x1.frozen? ⟨w.heap.size + 1, k, none⟩ = false := (BX.out.bl 1 _ _ _ rfl).free
  have y1 : w.heap.size + 1 < x1.heap.size := (BX.out.bl 1 _ _ _ rfl).size
  go_wp2_with fail
  refine (awake11 _).mono ?_
  rintro e x2 ⟨rfl, hb⟩
  have bx : Bxs w x2 [(w.heap.size, 24, [.int .i64 su, .int .i64 la, .int .i64 le]), (w.heap.size + 1, 26, [.int .i64 sp, .int .i64 kp, .int .i64 ki, .int .i64 kd, .int .i64 li, .int .i64 st, .int .i64 mo])] := (BX.out).below hb
  clear p0_0 p0_1 p0_2 z0 y0 p1_0 p1_1 p1_2 p1_3 p1_4 p1_5 p1_6 z1 y1
  clear hb BX
  have BX := Lib.hid bx
  clear bx
  have p0_0 : x2.cell? ⟨w.heap.size, 0, none⟩ = some (.int .i64 su) := (BX.out.bl 0 _ _ _ rfl).val rfl
  have p0_1 : x2.cell? ⟨w.heap.size, 1, none⟩ = some (.int .i64 la) := (BX.out.bl 0 _ _ _ rfl).val rfl
  have p0_2 : x2.cell? ⟨w.heap.size, 2, none⟩ = some (.int .i64 le) := (BX.out.bl 0 _ _ _ rfl).val rfl
  have z0 : ∀ k, x2.frozen? ⟨w.heap.size, k, none⟩ = false := (BX.out.bl 0 _ _ _ rfl).free
  have y0 : w.heap.size < x2.heap.size := (BX.out.bl 0 _ _ _ rfl).size
  have p1_0 : x2.cell? ⟨w.heap.size + 1, 0, none⟩ = some (.int .i64 sp) := (BX.out.bl 1 _ _ _ rfl).val rfl
  have p1_1 : x2.cell? ⟨w.heap.size + 1, 1, none⟩ = some (.int .i64 kp) := (BX.out.bl 1 _ _ _ rfl).val rfl
  have p1_2 : x2.cell? ⟨w.heap.size + 1, 2, none⟩ = some (.int .i64 ki) := (BX.out.bl 1 _ _ _ rfl).val rfl
  have p1_3 : x2.cell? ⟨w.heap.size + 1, 3, none⟩ = some (.int .i64 kd) := (BX.out.bl 1 _ _ _ rfl).val rfl
  have p1_4 : x2.cell? ⟨w.heap.size + 1, 4, none⟩ = some (.int .i64 li) := (BX.out.bl 1 _ _ _ rfl).val rfl
  have p1_5 : x2.cell? ⟨w.heap.size + 1, 5, none⟩ = some (.int .i64 st) := (BX.out.bl 1 _ _ _ rfl).val rfl
  have p1_6 : x2.cell? ⟨w.heap.size + 1, 6, none⟩ = some (.int .i64 mo) := (BX.out.bl 1 _ _ _ rfl).val rfl
  have z1 : ∀ k, x2.frozen? ⟨w.heap.size + 1, k, none⟩ = false := (BX.out.bl 1 _ _ _ rfl).free
  have y1 : w.heap.size + 1 < x2.heap.size := (BX.out.bl 1 _ _ _ rfl).size
  go_wp2_with fail
  refine (pmend_lit _ _ _ _ _ _ _ _ _ _ _ _ _ HM _).mono ?_
  rintro e x3 ⟨rfl, hb⟩
  have bx : Bxs w x3 [(w.heap.size, 24, [.int .i64 su, .int .i64 la, .int .i64 le]), (w.heap.size + 1, 26, [.int .i64 sp, .int .i64 kp, .int .i64 ki, .int .i64 kd, .int .i64 li, .int .i64 st, .int .i64 mo])] := (BX.out).below hb
  clear p0_0 p0_1 p0_2 z0 y0 p1_0 p1_1 p1_2 p1_3 p1_4 p1_5 p1_6 z1 y1
  clear hb BX
  have BX := Lib.hid bx
  clear bx
  have p0_0 : x3.cell? ⟨w.heap.size, 0, none⟩ = some (.int .i64 su) := (BX.out.bl 0 _ _ _ rfl).val rfl
  have p0_1 : x3.cell? ⟨w.heap.size, 1, none⟩ = some (.int .i64 la) := (BX.out.bl 0 _ _ _ rfl).val rfl
  have p0_2 : x3.cell? ⟨w.heap.size, 2, none⟩ = some (.int .i64 le) := (BX.out.bl 0 _ _ _ rfl).val rfl
  have z0 : ∀ k, x3.frozen? ⟨w.heap.size, k, none⟩ = false := (BX.out.bl 0 _ _ _ rfl).free
  have y0 : w.heap.size < x3.heap.size := (BX.out.bl 0 _ _ _ rfl).size
  have p1_0 : x3.cell? ⟨w.heap.size + 1, 0, none⟩ = some (.int .i64 sp) := (BX.out.bl 1 _ _ _ rfl).val rfl
  have p1_1 : x3.cell? ⟨w.heap.size + 1, 1, none⟩ = some (.int .i64 kp) := (BX.out.bl 1 _ _ _ rfl).val rfl
  have p1_2 : x3.cell? ⟨w.heap.size + 1, 2, none⟩ = some (.int .i64 ki) := (BX.out.bl 1 _ _ _ rfl).val rfl
  have p1_3 : x3.cell? ⟨w.heap.size + 1, 3, none⟩ = some (.int .i64 kd) := (BX.out.bl 1 _ _ _ rfl).val rfl
  have p1_4 : x3.cell? ⟨w.heap.size + 1, 4, none⟩ = some (.int .i64 li) := (BX.out.bl 1 _ _ _ rfl).val rfl
  have p1_5 : x3.cell? ⟨w.heap.size + 1, 5, none⟩ = some (.int .i64 st) := (BX.out.bl 1 _ _ _ rfl).val rfl
  have p1_6 : x3.cell? ⟨w.heap.size + 1, 6, none⟩ = some (.int .i64 mo) := (BX.out.bl 1 _ _ _ rfl).val rfl
  have z1 : ∀ k, x3.frozen? ⟨w.heap.size + 1, k, none⟩ = false := (BX.out.bl 1 _ _ _ rfl).free
  have y1 : w.heap.size + 1 < x3.heap.size := (BX.out.bl 1 _ _ _ rfl).size
  go_upto_region 4 with fail
  clear p0_0 p0_1 p0_2 z0 y0 p1_0 p1_1 p1_2 p1_3 p1_4 p1_5 p1_6 z1 y1
  refine wp_worldx (fun wx => Bxs w wx [(w.heap.size, 24, [.int .i64 su, .int .i64 la, .int .i64 le]), (w.heap.size + 1, 26, [.int .i64 sp, .int .i64 kp2, .int .i64 ki2, .int .i64 kd2, .int .i64 li2, .int .i64 st2, .int .i64 mo2])]) ((((((((BX.out).set_ 1 0 rfl _).set_ 1 1 rfl _).set_ 1 2 rfl _).set_ 1 3 rfl _).set_ 1 4 rfl _).set_ 1 5 rfl _).set_ 1 6 rfl _) ?_
  clear BX
  rintro x4 bx
  have BX := Lib.hid bx
  clear bx
  have p0_0 : x4.cell? ⟨w.heap.size, 0, none⟩ = some (.int .i64 su) := (BX.out.bl 0 _ _ _ rfl).val rfl
  have p0_1 : x4.cell? ⟨w.heap.size, 1, none⟩ = some (.int .i64 la) := (BX.out.bl 0 _ _ _ rfl).val rfl
  have p0_2 : x4.cell? ⟨w.heap.size, 2, none⟩ = some (.int .i64 le) := (BX.out.bl 0 _ _ _ rfl).val rfl
  have z0 : ∀ k, x4.frozen? ⟨w.heap.size, k, none⟩ = false := (BX.out.bl 0 _ _ _ rfl).free
  have y0 : w.heap.size < x4.heap.size := (BX.out.bl 0 _ _ _ rfl).size
  have p1_0 : x4.cell? ⟨w.heap.size + 1, 0, none⟩ = some (.int .i64 sp) := (BX.out.bl 1 _ _ _ rfl).val rfl
  have p1_1 : x4.cell? ⟨w.heap.size + 1, 1, none⟩ = some (.int .i64 kp2) := (BX.out.bl 1 _ _ _ rfl).val rfl
  have p1_2 : x4.cell? ⟨w.heap.size + 1, 2, none⟩ = some (.int .i64 ki2) := (BX.out.bl 1 _ _ _ rfl).val rfl
  have p1_3 : x4.cell? ⟨w.heap.size + 1, 3, none⟩ = some (.int .i64 kd2) := (BX.out.bl 1 _ _ _ rfl).val rfl
  have p1_4 : x4.cell? ⟨w.heap.size + 1, 4, none⟩ = some (.int .i64 li2) := (BX.out.bl 1 _ _ _ rfl).val rfl
  have p1_5 : x4.cell? ⟨w.heap.size + 1, 5, none⟩ = some (.int .i64 st2) := (BX.out.bl 1 _ _ _ rfl).val rfl
  have p1_6 : x4.cell? ⟨w.heap.size + 1, 6, none⟩ = some (.int .i64 mo2) := (BX.out.bl 1 _ _ _ rfl).val rfl
  have z1 : ∀ k, x4.frozen? ⟨w.heap.size + 1, k, none⟩ = false := (BX.out.bl 1 _ _ _ rfl).free
  have y1 : w.heap.size + 1 < x4.heap.size := (BX.out.bl 1 _ _ _ rfl).size
  have gz := y1
  go_upto_region 5 with fail
  clear p0_0 p0_1 p0_2 z0 y0 p1_0 p1_1 p1_2 p1_3 p1_4 p1_5 p1_6 z1 y1
  refine wp_worldx (fun wx => Bxs w wx [(w.heap.size, 24, [.int .i64 su, .int .i64 la, .int .i64 le]), (w.heap.size + 1, 26, [.int .i64 sp, .int .i64 kp2, .int .i64 ki2, .int .i64 kd2, .int .i64 li2, .int .i64 st2, .int .i64 mo2]), (x4.heap.size, 24, [.int .i64 su, .int .i64 la, .int .i64 le])]) ((BX.out).alloc_ _ _ (by simp)) ?_
  clear BX
  rintro x5 bx
  have BX := Lib.hid bx
  clear bx
  have p0_0 : x5.cell? ⟨w.heap.size, 0, none⟩ = some (.int .i64 su) := (BX.out.bl 0 _ _ _ rfl).val rfl
  have p0_1 : x5.cell? ⟨w.heap.size, 1, none⟩ = some (.int .i64 la) := (BX.out.bl 0 _ _ _ rfl).val rfl
  have p0_2 : x5.cell? ⟨w.heap.size, 2, none⟩ = some (.int .i64 le) := (BX.out.bl 0 _ _ _ rfl).val rfl
  have z0 : ∀ k, x5.frozen? ⟨w.heap.size, k, none⟩ = false := (BX.out.bl 0 _ _ _ rfl).free
  have y0 : w.heap.size < x5.heap.size := (BX.out.bl 0 _ _ _ rfl).size
  have p1_0 : x5.cell? ⟨w.heap.size + 1, 0, none⟩ = some (.int .i64 sp) := (BX.out.bl 1 _ _ _ rfl).val rfl
  have p1_1 : x5.cell? ⟨w.heap.size + 1, 1, none⟩ = some (.int .i64 kp2) := (BX.out.bl 1 _ _ _ rfl).val rfl
  have p1_2 : x5.cell? ⟨w.heap.size + 1, 2, none⟩ = some (.int .i64 ki2) := (BX.out.bl 1 _ _ _ rfl).val rfl
  have p1_3 : x5.cell? ⟨w.heap.size + 1, 3, none⟩ = some (.int .i64 kd2) := (BX.out.bl 1 _ _ _ rfl).val rfl
  have p1_4 : x5.cell? ⟨w.heap.size + 1, 4, none⟩ = some (.int .i64 li2) := (BX.out.bl 1 _ _ _ rfl).val rfl
  have p1_5 : x5.cell? ⟨w.heap.size + 1, 5, none⟩ = some (.int .i64 st2) := (BX.out.bl 1 _ _ _ rfl).val rfl
  have p1_6 : x5.cell? ⟨w.heap.size + 1, 6, none⟩ = some (.int .i64 mo2) := (BX.out.bl 1 _ _ _ rfl).val rfl
  have z1 : ∀ k, x5.frozen? ⟨w.heap.size + 1, k, none⟩ = false := (BX.out.bl 1 _ _ _ rfl).free
  have y1 : w.heap.size + 1 < x5.heap.size := (BX.out.bl 1 _ _ _ rfl).size
  have p2_0 : x5.cell? ⟨x4.heap.size, 0, none⟩ = some (.int .i64 su) := (BX.out.bl 2 _ _ _ rfl).val rfl
  have p2_1 : x5.cell? ⟨x4.heap.size, 1, none⟩ = some (.int .i64 la) := (BX.out.bl 2 _ _ _ rfl).val rfl
  have p2_2 : x5.cell? ⟨x4.heap.size, 2, none⟩ = some (.int .i64 le) := (BX.out.bl 2 _ _ _ rfl).val rfl
  have z2 : ∀ k, x5.frozen? ⟨x4.heap.size, k, none⟩ = false := (BX.out.bl 2 _ _ _ rfl).free
  have y2 : x4.heap.size < x5.heap.size := (BX.out.bl 2 _ _ _ rfl).size
  go_wp2_with fail
  go_loopw [17] (fun s17 wr => ∃ (k : Nat) (tu ta te : Int), k ≤ 64 ∧ s17 = .int .i64 k ∧ (⟨tu, ta, te⟩ : Pst).ok ∧ tu < (2 : Int) ^ (64 - k) ∧ (0 < k → 0 ≤ tu) ∧ Bxs w wr [(w.heap.size, 24, [.int .i64 su, .int .i64 la, .int .i64 le]), (w.heap.size + 1, 26, [.int .i64 sp, .int .i64 kp2, .int .i64 ki2, .int .i64 kd2, .int .i64 li2, .int .i64 st2, .int .i64 mo2]), (x4.heap.size, 24, [.int .i64 tu, .int .i64 ta, .int .i64 te])]) (fun i _ => 64 - (intOf i).toNat)
  case atStart => exact ⟨0, su, la, le, by omega, rfl, ⟨su0, su1, la0, la1, le0, le1⟩, by show su < 18446744073709551616; omega, fun h => absurd h (Nat.lt_irrefl 0), BX.out⟩
  case round =>
    clear p0_0 p0_1 p0_2 z0 y0 p1_0 p1_1 p1_2 p1_3 p1_4 p1_5 p1_6 z1 y1 p2_0 p2_1 p2_2 z2 y2
    clear BX
    obtain ⟨k, tu, ta, te, hk, rfl, ⟨tu0, tu1, ta0, ta1, te0, te1⟩, hpw, hpos, bx⟩ := hrel
    simp only at tu0 tu1 ta0 ta1 te0 te1
    have BX := Lib.hid bx
    clear bx
    have p0_0 : wr.cell? ⟨w.heap.size, 0, none⟩ = some (.int .i64 su) := (BX.out.bl 0 _ _ _ rfl).val rfl
    have p0_1 : wr.cell? ⟨w.heap.size, 1, none⟩ = some (.int .i64 la) := (BX.out.bl 0 _ _ _ rfl).val rfl
    have p0_2 : wr.cell? ⟨w.heap.size, 2, none⟩ = some (.int .i64 le) := (BX.out.bl 0 _ _ _ rfl).val rfl
    have z0 : ∀ k, wr.frozen? ⟨w.heap.size, k, none⟩ = false := (BX.out.bl 0 _ _ _ rfl).free
    have y0 : w.heap.size < wr.heap.size := (BX.out.bl 0 _ _ _ rfl).size
    have p1_0 : wr.cell? ⟨w.heap.size + 1, 0, none⟩ = some (.int .i64 sp) := (BX.out.bl 1 _ _ _ rfl).val rfl
    have p1_1 : wr.cell? ⟨w.heap.size + 1, 1, none⟩ = some (.int .i64 kp2) := (BX.out.bl 1 _ _ _ rfl).val rfl
    have p1_2 : wr.cell? ⟨w.heap.size + 1, 2, none⟩ = some (.int .i64 ki2) := (BX.out.bl 1 _ _ _ rfl).val rfl
    have p1_3 : wr.cell? ⟨w.heap.size + 1, 3, none⟩ = some (.int .i64 kd2) := (BX.out.bl 1 _ _ _ rfl).val rfl
    have p1_4 : wr.cell? ⟨w.heap.size + 1, 4, none⟩ = some (.int .i64 li2) := (BX.out.bl 1 _ _ _ rfl).val rfl
    have p1_5 : wr.cell? ⟨w.heap.size + 1, 5, none⟩ = some (.int .i64 st2) := (BX.out.bl 1 _ _ _ rfl).val rfl
    have p1_6 : wr.cell? ⟨w.heap.size + 1, 6, none⟩ = some (.int .i64 mo2) := (BX.out.bl 1 _ _ _ rfl).val rfl
    have z1 : ∀ k, wr.frozen? ⟨w.heap.size + 1, k, none⟩ = false := (BX.out.bl 1 _ _ _ rfl).free
    have y1 : w.heap.size + 1 < wr.heap.size := (BX.out.bl 1 _ _ _ rfl).size
    have p2_0 : wr.cell? ⟨x4.heap.size, 0, none⟩ = some (.int .i64 tu) := (BX.out.bl 2 _ _ _ rfl).val rfl
    have p2_1 : wr.cell? ⟨x4.heap.size, 1, none⟩ = some (.int .i64 ta) := (BX.out.bl 2 _ _ _ rfl).val rfl
    have p2_2 : wr.cell? ⟨x4.heap.size, 2, none⟩ = some (.int .i64 te) := (BX.out.bl 2 _ _ _ rfl).val rfl
    have z2 : ∀ k, wr.frozen? ⟨x4.heap.size, k, none⟩ = false := (BX.out.bl 2 _ _ _ rfl).free
    have y2 : x4.heap.size < wr.heap.size := (BX.out.bl 2 _ _ _ rfl).size
    have HPW := Lib.hid hpw
    have HPOS := Lib.hid hpos
    clear hpw hpos
    by_cases hlt : k < 64
    · obtain ⟨⟨c1, c2, c3⟩, hz⟩ : ∃ z, sampP ⟨tu, ta, te⟩ ⟨sp, kp2, ki2, kd2, li2, st2, mo2⟩ sp = z := ⟨_, rfl⟩
      have so := sampP_ok ⟨tu, ta, te⟩ ⟨sp, kp2, ki2, kd2, li2, st2, mo2⟩ sp ⟨tu0, tu1, ta0, ta1, te0, te1⟩ PO.out
      have sd := (sampled ⟨tu, ta, te⟩ ⟨sp, kp2, ki2, kd2, li2, st2, mo2⟩ sp ⟨tu0, tu1, ta0, ta1, te0, te1⟩ PO.out li20 st20 mo20).2.2.2.2.2 (by show ¬ sp < sp; omega)
      rw [hz] at so sd
      have hc1 : c1 = max (tu / 2) 0 := sd.2
      have hq0 : 0 ≤ tu → c1 = tu.tdiv 2 := fun h => by rw [hc1, Int.tdiv_eq_ediv_of_nonneg h]; omega
      have hq1 : 0 ≤ tu → c1 = tu / 2 := fun h => by rw [hc1]; omega
      have HZ := Lib.hid hz
      have SO := Lib.hid so
      have HC1 := Lib.hid hc1
      clear hz so sd hc1
      go_wp2_with fail
      refine (psamp_lit tu ta te sp kp2 ki2 kd2 li2 st2 mo2 sp c1 c2 c3 HZ _ tu0 tu1 ta0 ta1 te0 te1 sp0 sp1 PO.out.kp0 PO.out.kp1 PO.out.ki0 PO.out.ki1 PO.out.kd0 PO.out.kd1 PO.out.li0 PO.out.li1 PO.out.st0 PO.out.st1 PO.out.mo0 PO.out.mo1 sp0 sp1).mono ?_
      rintro e x6 ⟨rfl, hb⟩
      have bx : Bxs w x6 [(w.heap.size, 24, [.int .i64 su, .int .i64 la, .int .i64 le]), (w.heap.size + 1, 26, [.int .i64 sp, .int .i64 kp2, .int .i64 ki2, .int .i64 kd2, .int .i64 li2, .int .i64 st2, .int .i64 mo2]), (x4.heap.size, 24, [.int .i64 tu, .int .i64 ta, .int .i64 te])] := (BX.out).below hb
      clear p0_0 p0_1 p0_2 z0 y0 p1_0 p1_1 p1_2 p1_3 p1_4 p1_5 p1_6 z1 y1 p2_0 p2_1 p2_2 z2 y2
      clear hb BX
      have BX := Lib.hid bx
      clear bx
      have p0_0 : x6.cell? ⟨w.heap.size, 0, none⟩ = some (.int .i64 su) := (BX.out.bl 0 _ _ _ rfl).val rfl
      have p0_1 : x6.cell? ⟨w.heap.size, 1, none⟩ = some (.int .i64 la) := (BX.out.bl 0 _ _ _ rfl).val rfl
      have p0_2 : x6.cell? ⟨w.heap.size, 2, none⟩ = some (.int .i64 le) := (BX.out.bl 0 _ _ _ rfl).val rfl
      have z0 : ∀ k, x6.frozen? ⟨w.heap.size, k, none⟩ = false := (BX.out.bl 0 _ _ _ rfl).free
      have y0 : w.heap.size < x6.heap.size := (BX.out.bl 0 _ _ _ rfl).size
      have p1_0 : x6.cell? ⟨w.heap.size + 1, 0, none⟩ = some (.int .i64 sp) := (BX.out.bl 1 _ _ _ rfl).val rfl
      have p1_1 : x6.cell? ⟨w.heap.size + 1, 1, none⟩ = some (.int .i64 kp2) := (BX.out.bl 1 _ _ _ rfl).val rfl
      have p1_2 : x6.cell? ⟨w.heap.size + 1, 2, none⟩ = some (.int .i64 ki2) := (BX.out.bl 1 _ _ _ rfl).val rfl
      have p1_3 : x6.cell? ⟨w.heap.size + 1, 3, none⟩ = some (.int .i64 kd2) := (BX.out.bl 1 _ _ _ rfl).val rfl
      have p1_4 : x6.cell? ⟨w.heap.size + 1, 4, none⟩ = some (.int .i64 li2) := (BX.out.bl 1 _ _ _ rfl).val rfl
      have p1_5 : x6.cell? ⟨w.heap.size + 1, 5, none⟩ = some (.int .i64 st2) := (BX.out.bl 1 _ _ _ rfl).val rfl
      have p1_6 : x6.cell? ⟨w.heap.size + 1, 6, none⟩ = some (.int .i64 mo2) := (BX.out.bl 1 _ _ _ rfl).val rfl
      have z1 : ∀ k, x6.frozen? ⟨w.heap.size + 1, k, none⟩ = false := (BX.out.bl 1 _ _ _ rfl).free
      have y1 : w.heap.size + 1 < x6.heap.size := (BX.out.bl 1 _ _ _ rfl).size
      have p2_0 : x6.cell? ⟨x4.heap.size, 0, none⟩ = some (.int .i64 tu) := (BX.out.bl 2 _ _ _ rfl).val rfl
      have p2_1 : x6.cell? ⟨x4.heap.size, 1, none⟩ = some (.int .i64 ta) := (BX.out.bl 2 _ _ _ rfl).val rfl
      have p2_2 : x6.cell? ⟨x4.heap.size, 2, none⟩ = some (.int .i64 te) := (BX.out.bl 2 _ _ _ rfl).val rfl
      have z2 : ∀ k, x6.frozen? ⟨x4.heap.size, k, none⟩ = false := (BX.out.bl 2 _ _ _ rfl).free
      have y2 : x4.heap.size < x6.heap.size := (BX.out.bl 2 _ _ _ rfl).size
      go_upto_region 9 with fail
      clear p0_0 p0_1 p0_2 z0 y0 p1_0 p1_1 p1_2 p1_3 p1_4 p1_5 p1_6 z1 y1 p2_0 p2_1 p2_2 z2 y2
      refine wp_worldx (fun wx => Bxs w wx [(w.heap.size, 24, [.int .i64 su, .int .i64 la, .int .i64 le]), (w.heap.size + 1, 26, [.int .i64 sp, .int .i64 kp2, .int .i64 ki2, .int .i64 kd2, .int .i64 li2, .int .i64 st2, .int .i64 mo2]), (x4.heap.size, 24, [.int .i64 c1, .int .i64 c2, .int .i64 c3])]) ((((BX.out).set_ 2 0 rfl _).set_ 2 1 rfl _).set_ 2 2 rfl _) ?_
      clear BX
      rintro x7 bx
      have BX := Lib.hid bx
      clear bx
      have p0_0 : x7.cell? ⟨w.heap.size, 0, none⟩ = some (.int .i64 su) := (BX.out.bl 0 _ _ _ rfl).val rfl
      have p0_1 : x7.cell? ⟨w.heap.size, 1, none⟩ = some (.int .i64 la) := (BX.out.bl 0 _ _ _ rfl).val rfl
      have p0_2 : x7.cell? ⟨w.heap.size, 2, none⟩ = some (.int .i64 le) := (BX.out.bl 0 _ _ _ rfl).val rfl
      have z0 : ∀ k, x7.frozen? ⟨w.heap.size, k, none⟩ = false := (BX.out.bl 0 _ _ _ rfl).free
      have y0 : w.heap.size < x7.heap.size := (BX.out.bl 0 _ _ _ rfl).size
      have p1_0 : x7.cell? ⟨w.heap.size + 1, 0, none⟩ = some (.int .i64 sp) := (BX.out.bl 1 _ _ _ rfl).val rfl
      have p1_1 : x7.cell? ⟨w.heap.size + 1, 1, none⟩ = some (.int .i64 kp2) := (BX.out.bl 1 _ _ _ rfl).val rfl
      have p1_2 : x7.cell? ⟨w.heap.size + 1, 2, none⟩ = some (.int .i64 ki2) := (BX.out.bl 1 _ _ _ rfl).val rfl
      have p1_3 : x7.cell? ⟨w.heap.size + 1, 3, none⟩ = some (.int .i64 kd2) := (BX.out.bl 1 _ _ _ rfl).val rfl
      have p1_4 : x7.cell? ⟨w.heap.size + 1, 4, none⟩ = some (.int .i64 li2) := (BX.out.bl 1 _ _ _ rfl).val rfl
      have p1_5 : x7.cell? ⟨w.heap.size + 1, 5, none⟩ = some (.int .i64 st2) := (BX.out.bl 1 _ _ _ rfl).val rfl
      have p1_6 : x7.cell? ⟨w.heap.size + 1, 6, none⟩ = some (.int .i64 mo2) := (BX.out.bl 1 _ _ _ rfl).val rfl
      have z1 : ∀ k, x7.frozen? ⟨w.heap.size + 1, k, none⟩ = false := (BX.out.bl 1 _ _ _ rfl).free
      have y1 : w.heap.size + 1 < x7.heap.size := (BX.out.bl 1 _ _ _ rfl).size
      have p2_0 : x7.cell? ⟨x4.heap.size, 0, none⟩ = some (.int .i64 c1) := (BX.out.bl 2 _ _ _ rfl).val rfl
      have p2_1 : x7.cell? ⟨x4.heap.size, 1, none⟩ = some (.int .i64 c2) := (BX.out.bl 2 _ _ _ rfl).val rfl
      have p2_2 : x7.cell? ⟨x4.heap.size, 2, none⟩ = some (.int .i64 c3) := (BX.out.bl 2 _ _ _ rfl).val rfl
      have z2 : ∀ k, x7.frozen? ⟨x4.heap.size, k, none⟩ = false := (BX.out.bl 2 _ _ _ rfl).free
      have y2 : x4.heap.size < x7.heap.size := (BX.out.bl 2 _ _ _ rfl).size
      by_cases ht : 0 ≤ tu
      · obtain hq2 := hq0 ht
        have hq3 := hq1 ht
        have f1 : (c1 != tu / 2) = false := by simp; omega
        have f2 : (c1 != tu.tdiv 2) = false := by simp; omega
        have f3 : decide (c1 = tu / 2) = true := by simp; omega
        have f4 : decide (c1 = tu.tdiv 2) = true := by simp; omega
        have f5 : decide (0 ≤ tu) = true := by simp; omega
        have f6 : tu.tdiv 2 = tu / 2 := by omega
        have f7 : IntKind.i64.wrap (tu / 2) = tu / 2 := IntWalk.i64_in _ (by omega)
        have f8 : IntKind.i64.wrap (tu.tdiv 2) = tu / 2 := by rw [f6, f7]
        clear hq2 hq3
        clear hq0 hq1
        go_wp2_with fail
        go_roundw
        case rel => exact ⟨k + 1, c1, c2, c3, by omega, by go_num, SO.out, (by have h1 := half_step (63 - k) 0 tu (by have := HPW.out; rwa [show 64 - k = 63 - k + 1 from by omega] at this); have h2 := HC1.out; have h3 := pow_pos2 (63 - k); rw [show 64 - (k + 1) = 63 - k from by omega]; omega), (fun _ => by have := HC1.out; omega), BX.out⟩
        case measure => simp [intOf]; omega
      · have f5 : decide (0 ≤ tu) = false := by simp; omega
        clear hq0 hq1
        go_wp2_with fail
        go_roundw
        case rel => exact ⟨k + 1, c1, c2, c3, by omega, by go_num, SO.out, (by have h1 := half_step (63 - k) 0 tu (by have := HPW.out; rwa [show 64 - k = 63 - k + 1 from by omega] at this); have h2 := HC1.out; have h3 := pow_pos2 (63 - k); rw [show 64 - (k + 1) = 63 - k from by omega]; omega), (fun _ => by have := HC1.out; omega), BX.out⟩
        case measure => simp [intOf]; omega
    · obtain rfl : tu = 0 := by have h1 := HPW.out; have h2 := HPOS.out (by omega); rw [show 64 - k = 0 from by omega] at h1; simp at h1; omega
      clear HPW HPOS
      go_upto_region 15 with fail
      clear p0_0 p0_1 p0_2 z0 y0 p1_0 p1_1 p1_2 p1_3 p1_4 p1_5 p1_6 z1 y1 p2_0 p2_1 p2_2 z2 y2
      refine wp_worldx (fun wx => Bxs w wx [(w.heap.size, 24, [.int .i64 su, .int .i64 la, .int .i64 le]), (w.heap.size + 1, 26, [.int .i64 sp, .int .i64 0, .int .i64 0, .int .i64 0, .int .i64 li2, .int .i64 st2, .int .i64 mo2]), (x4.heap.size, 24, [.int .i64 0, .int .i64 ta, .int .i64 te])]) ((((BX.out).set_ 1 1 rfl _).set_ 1 2 rfl _).set_ 1 3 rfl _) ?_
      clear BX
      rintro x6 bx
      have BX := Lib.hid bx
      clear bx
      have p0_0 : x6.cell? ⟨w.heap.size, 0, none⟩ = some (.int .i64 su) := (BX.out.bl 0 _ _ _ rfl).val rfl
      have p0_1 : x6.cell? ⟨w.heap.size, 1, none⟩ = some (.int .i64 la) := (BX.out.bl 0 _ _ _ rfl).val rfl
      have p0_2 : x6.cell? ⟨w.heap.size, 2, none⟩ = some (.int .i64 le) := (BX.out.bl 0 _ _ _ rfl).val rfl
      have z0 : ∀ k, x6.frozen? ⟨w.heap.size, k, none⟩ = false := (BX.out.bl 0 _ _ _ rfl).free
      have y0 : w.heap.size < x6.heap.size := (BX.out.bl 0 _ _ _ rfl).size
      have p1_0 : x6.cell? ⟨w.heap.size + 1, 0, none⟩ = some (.int .i64 sp) := (BX.out.bl 1 _ _ _ rfl).val rfl
      have p1_1 : x6.cell? ⟨w.heap.size + 1, 1, none⟩ = some (.int .i64 0) := (BX.out.bl 1 _ _ _ rfl).val rfl
      have p1_2 : x6.cell? ⟨w.heap.size + 1, 2, none⟩ = some (.int .i64 0) := (BX.out.bl 1 _ _ _ rfl).val rfl
      have p1_3 : x6.cell? ⟨w.heap.size + 1, 3, none⟩ = some (.int .i64 0) := (BX.out.bl 1 _ _ _ rfl).val rfl
      have p1_4 : x6.cell? ⟨w.heap.size + 1, 4, none⟩ = some (.int .i64 li2) := (BX.out.bl 1 _ _ _ rfl).val rfl
      have p1_5 : x6.cell? ⟨w.heap.size + 1, 5, none⟩ = some (.int .i64 st2) := (BX.out.bl 1 _ _ _ rfl).val rfl
      have p1_6 : x6.cell? ⟨w.heap.size + 1, 6, none⟩ = some (.int .i64 mo2) := (BX.out.bl 1 _ _ _ rfl).val rfl
      have z1 : ∀ k, x6.frozen? ⟨w.heap.size + 1, k, none⟩ = false := (BX.out.bl 1 _ _ _ rfl).free
      have y1 : w.heap.size + 1 < x6.heap.size := (BX.out.bl 1 _ _ _ rfl).size
      have p2_0 : x6.cell? ⟨x4.heap.size, 0, none⟩ = some (.int .i64 0) := (BX.out.bl 2 _ _ _ rfl).val rfl
      have p2_1 : x6.cell? ⟨x4.heap.size, 1, none⟩ = some (.int .i64 ta) := (BX.out.bl 2 _ _ _ rfl).val rfl
      have p2_2 : x6.cell? ⟨x4.heap.size, 2, none⟩ = some (.int .i64 te) := (BX.out.bl 2 _ _ _ rfl).val rfl
      have z2 : ∀ k, x6.frozen? ⟨x4.heap.size, k, none⟩ = false := (BX.out.bl 2 _ _ _ rfl).free
      have y2 : x4.heap.size < x6.heap.size := (BX.out.bl 2 _ _ _ rfl).size
      obtain ⟨L, hL⟩ : ∃ n, min (max le 0) mo2 = n := ⟨_, rfl⟩
      have L0 : 0 ≤ L := by omega
      have L1 : L ≤ mo2 := by omega
      have L2 : L ≤ 9223372036854775807 := by omega
      have HL := Lib.hid hL
      clear hL
      go_upto_region 16 with fail
      clear p0_0 p0_1 p0_2 z0 y0 p1_0 p1_1 p1_2 p1_3 p1_4 p1_5 p1_6 z1 y1 p2_0 p2_1 p2_2 z2 y2
      refine wp_worldx (fun wx => Bxs w wx [(w.heap.size, 24, [.int .i64 0, .int .i64 la, .int .i64 L]), (w.heap.size + 1, 26, [.int .i64 sp, .int .i64 0, .int .i64 0, .int .i64 0, .int .i64 li2, .int .i64 st2, .int .i64 mo2]), (x4.heap.size, 24, [.int .i64 0, .int .i64 ta, .int .i64 te])]) (by rw [← HL.out]; exact (BX.out.set_ 0 2 rfl _).set_ 0 0 rfl _) ?_
      clear BX
      rintro x7 bx
      have BX := Lib.hid bx
      clear bx
      have p0_0 : x7.cell? ⟨w.heap.size, 0, none⟩ = some (.int .i64 0) := (BX.out.bl 0 _ _ _ rfl).val rfl
      have p0_1 : x7.cell? ⟨w.heap.size, 1, none⟩ = some (.int .i64 la) := (BX.out.bl 0 _ _ _ rfl).val rfl
      have p0_2 : x7.cell? ⟨w.heap.size, 2, none⟩ = some (.int .i64 L) := (BX.out.bl 0 _ _ _ rfl).val rfl
      have z0 : ∀ k, x7.frozen? ⟨w.heap.size, k, none⟩ = false := (BX.out.bl 0 _ _ _ rfl).free
      have y0 : w.heap.size < x7.heap.size := (BX.out.bl 0 _ _ _ rfl).size
      have p1_0 : x7.cell? ⟨w.heap.size + 1, 0, none⟩ = some (.int .i64 sp) := (BX.out.bl 1 _ _ _ rfl).val rfl
      have p1_1 : x7.cell? ⟨w.heap.size + 1, 1, none⟩ = some (.int .i64 0) := (BX.out.bl 1 _ _ _ rfl).val rfl
      have p1_2 : x7.cell? ⟨w.heap.size + 1, 2, none⟩ = some (.int .i64 0) := (BX.out.bl 1 _ _ _ rfl).val rfl
      have p1_3 : x7.cell? ⟨w.heap.size + 1, 3, none⟩ = some (.int .i64 0) := (BX.out.bl 1 _ _ _ rfl).val rfl
      have p1_4 : x7.cell? ⟨w.heap.size + 1, 4, none⟩ = some (.int .i64 li2) := (BX.out.bl 1 _ _ _ rfl).val rfl
      have p1_5 : x7.cell? ⟨w.heap.size + 1, 5, none⟩ = some (.int .i64 st2) := (BX.out.bl 1 _ _ _ rfl).val rfl
      have p1_6 : x7.cell? ⟨w.heap.size + 1, 6, none⟩ = some (.int .i64 mo2) := (BX.out.bl 1 _ _ _ rfl).val rfl
      have z1 : ∀ k, x7.frozen? ⟨w.heap.size + 1, k, none⟩ = false := (BX.out.bl 1 _ _ _ rfl).free
      have y1 : w.heap.size + 1 < x7.heap.size := (BX.out.bl 1 _ _ _ rfl).size
      have p2_0 : x7.cell? ⟨x4.heap.size, 0, none⟩ = some (.int .i64 0) := (BX.out.bl 2 _ _ _ rfl).val rfl
      have p2_1 : x7.cell? ⟨x4.heap.size, 1, none⟩ = some (.int .i64 ta) := (BX.out.bl 2 _ _ _ rfl).val rfl
      have p2_2 : x7.cell? ⟨x4.heap.size, 2, none⟩ = some (.int .i64 te) := (BX.out.bl 2 _ _ _ rfl).val rfl
      have z2 : ∀ k, x7.frozen? ⟨x4.heap.size, k, none⟩ = false := (BX.out.bl 2 _ _ _ rfl).free
      have y2 : x4.heap.size < x7.heap.size := (BX.out.bl 2 _ _ _ rfl).size
      go_wp2_with fail
      have PZ : Hid (⟨sp, 0, 0, 0, li2, st2, mo2⟩ : Ppr).ok := Lib.hid ⟨sp0, sp1, by simp, by simp, by simp, by simp, by simp, by simp, PO.out.li0, PO.out.li1, PO.out.st0, PO.out.st1, PO.out.mo0, PO.out.mo1⟩
      go_loopw [54] (fun s54 wr => ∃ (k : Nat) (vu va ve : Int), k ≤ len ∧ s54 = .int .i64 k ∧ (⟨vu, va, ve⟩ : Pst).ok ∧ (sp < 9223372036854775807 → vu = 0 ∧ ve = L) ∧ Bxs w wr [(w.heap.size, 24, [.int .i64 vu, .int .i64 va, .int .i64 ve]), (w.heap.size + 1, 26, [.int .i64 sp, .int .i64 0, .int .i64 0, .int .i64 0, .int .i64 li2, .int .i64 st2, .int .i64 mo2]), (x4.heap.size, 24, [.int .i64 0, .int .i64 ta, .int .i64 te])]) (fun i _ => len - (intOf i).toNat)
      case atStart => exact ⟨0, 0, la, L, by omega, rfl, ⟨by simp, by simp, la0, la1, by show _ ≤ L; omega, L2⟩, fun _ => ⟨rfl, rfl⟩, BX.out⟩
      case round =>
        clear p0_0 p0_1 p0_2 z0 y0 p1_0 p1_1 p1_2 p1_3 p1_4 p1_5 p1_6 z1 y1 p2_0 p2_1 p2_2 z2 y2
        clear BX hlt
        obtain ⟨k, vu, va, ve, hk, rfl, ⟨vu0, vu1, va0, va1, ve0, ve1⟩, hvl, bx⟩ := hrel
        simp only at vu0 vu1 va0 va1 ve0 ve1
        have BX := Lib.hid bx
        clear bx
        have p0_0 : wr.cell? ⟨w.heap.size, 0, none⟩ = some (.int .i64 vu) := (BX.out.bl 0 _ _ _ rfl).val rfl
        have p0_1 : wr.cell? ⟨w.heap.size, 1, none⟩ = some (.int .i64 va) := (BX.out.bl 0 _ _ _ rfl).val rfl
        have p0_2 : wr.cell? ⟨w.heap.size, 2, none⟩ = some (.int .i64 ve) := (BX.out.bl 0 _ _ _ rfl).val rfl
        have z0 : ∀ k, wr.frozen? ⟨w.heap.size, k, none⟩ = false := (BX.out.bl 0 _ _ _ rfl).free
        have y0 : w.heap.size < wr.heap.size := (BX.out.bl 0 _ _ _ rfl).size
        have p1_0 : wr.cell? ⟨w.heap.size + 1, 0, none⟩ = some (.int .i64 sp) := (BX.out.bl 1 _ _ _ rfl).val rfl
        have p1_1 : wr.cell? ⟨w.heap.size + 1, 1, none⟩ = some (.int .i64 0) := (BX.out.bl 1 _ _ _ rfl).val rfl
        have p1_2 : wr.cell? ⟨w.heap.size + 1, 2, none⟩ = some (.int .i64 0) := (BX.out.bl 1 _ _ _ rfl).val rfl
        have p1_3 : wr.cell? ⟨w.heap.size + 1, 3, none⟩ = some (.int .i64 0) := (BX.out.bl 1 _ _ _ rfl).val rfl
        have p1_4 : wr.cell? ⟨w.heap.size + 1, 4, none⟩ = some (.int .i64 li2) := (BX.out.bl 1 _ _ _ rfl).val rfl
        have p1_5 : wr.cell? ⟨w.heap.size + 1, 5, none⟩ = some (.int .i64 st2) := (BX.out.bl 1 _ _ _ rfl).val rfl
        have p1_6 : wr.cell? ⟨w.heap.size + 1, 6, none⟩ = some (.int .i64 mo2) := (BX.out.bl 1 _ _ _ rfl).val rfl
        have z1 : ∀ k, wr.frozen? ⟨w.heap.size + 1, k, none⟩ = false := (BX.out.bl 1 _ _ _ rfl).free
        have y1 : w.heap.size + 1 < wr.heap.size := (BX.out.bl 1 _ _ _ rfl).size
        have p2_0 : wr.cell? ⟨x4.heap.size, 0, none⟩ = some (.int .i64 0) := (BX.out.bl 2 _ _ _ rfl).val rfl
        have p2_1 : wr.cell? ⟨x4.heap.size, 1, none⟩ = some (.int .i64 ta) := (BX.out.bl 2 _ _ _ rfl).val rfl
        have p2_2 : wr.cell? ⟨x4.heap.size, 2, none⟩ = some (.int .i64 te) := (BX.out.bl 2 _ _ _ rfl).val rfl
        have z2 : ∀ k, wr.frozen? ⟨x4.heap.size, k, none⟩ = false := (BX.out.bl 2 _ _ _ rfl).free
        have y2 : x4.heap.size < wr.heap.size := (BX.out.bl 2 _ _ _ rfl).size
        have HVL := Lib.hid hvl
        clear hvl
        by_cases hlt : k < len
        · obtain ⟨kb, ko, rfl, hkb, hkc⟩ := HQ.out (by omega)
          have q0 : wr.cell? ⟨kb, ko + k, none⟩ = some (.int .u32 (Q k)) := by
            have := (BX.out.be.cell hkb).trans (hkc k hlt 0 (by omega))
            simpa using this
          obtain ⟨u0, u1⟩ := HOK.out k
          obtain ⟨u, hu⟩ : ∃ u, Q k = u := ⟨_, rfl⟩
          rw [hu] at q0 u0 u1
          have hkr : kb < wr.heap.size := by have := BX.out.be.size; omega
          clear hkc hu
          by_cases h20 : k < 20
          · obtain ⟨m, hm⟩ : ∃ m, sat (sp + (1 + u)) = m := ⟨_, rfl⟩
            have ms := sat_in (sp + (1 + u))
            rw [hm] at ms
            obtain ⟨m0, m1⟩ := ms
            have hopen : sp < 9223372036854775807 → sp < m := by intro h; rw [← hm]; unfold sat; split <;> (try split) <;> omega
            have HSM := Lib.hid hm
            have HOP := Lib.hid hopen
            have uw0 : IntKind.i64.wrap u = u := IntWalk.i64_in _ (by omega)
            have uw : IntKind.i64.wrap (1 + u) = 1 + u := IntWalk.i64_in _ (by omega)
            obtain ⟨⟨c1, c2, c3⟩, hz⟩ : ∃ z, sampP ⟨vu, va, ve⟩ ⟨sp, 0, 0, 0, li2, st2, mo2⟩ m = z := ⟨_, rfl⟩
            have so := sampP_ok ⟨vu, va, ve⟩ ⟨sp, 0, 0, 0, li2, st2, mo2⟩ m ⟨vu0, vu1, va0, va1, ve0, ve1⟩ PZ.out
            have sd : sp < 9223372036854775807 → c1 = 0 ∧ c3 = L := fun h => by
              have hv := HVL.out h
              have := flat ⟨vu, va, ve⟩ ⟨sp, 0, 0, 0, li2, st2, mo2⟩ m ⟨vu0, vu1, va0, va1, ve0, ve1⟩ PZ.out rfl rfl rfl li20 st20 mo20 (hopen h) hv.1 (by show 0 ≤ ve; omega) (by show ve ≤ mo2; omega)
              rw [hz] at this
              exact ⟨this.1, this.2.trans hv.2⟩
            rw [hz] at so
            have HZ := Lib.hid hz
            have SO := Lib.hid so
            have SD := Lib.hid sd
            clear hz so sd hm hopen
            go_upto_region 21 with fail
            clear q0 hkr
            refine wp_region_noPanic ?_
            refine begun (fun w' => w'.cell? ⟨w.heap.size, 0, none⟩ = some (.int .i64 vu) ∧ w'.cell? ⟨w.heap.size, 1, none⟩ = some (.int .i64 va) ∧ w'.cell? ⟨w.heap.size, 2, none⟩ = some (.int .i64 ve) ∧ w'.cell? ⟨w.heap.size + 1, 0, none⟩ = some (.int .i64 sp) ∧ w'.cell? ⟨w.heap.size + 1, 1, none⟩ = some (.int .i64 0) ∧ w'.cell? ⟨w.heap.size + 1, 2, none⟩ = some (.int .i64 0) ∧ w'.cell? ⟨w.heap.size + 1, 3, none⟩ = some (.int .i64 0) ∧ w'.cell? ⟨w.heap.size + 1, 4, none⟩ = some (.int .i64 li2) ∧ w'.cell? ⟨w.heap.size + 1, 5, none⟩ = some (.int .i64 st2) ∧ w'.cell? ⟨w.heap.size + 1, 6, none⟩ = some (.int .i64 mo2)) [9] (by kernel_rfl) (by (repeat (first | with_reducible assumption | refine ⟨?_, ?_⟩ | with_reducible refine kdrew ?_ | with_reducible refine kalloc ?_ _ | with_reducible refine kother ?_ (by simp; try omega)))) (fun hShut hHeld => ?_)
            refine anyB_take 14 (i := 0) (v := ?_) rfl (by kernel_rfl) (by kernel_rfl) (by kernel_rfl) (by kernel_rfl) (by kernel_rfl) (fun _ _ _ h => h) hShut hHeld (Or.inl ⟨by rfl, ?_⟩) (fun hShut => ?_)
            rotate_left
            · (intro wS hSw; (try dsimp only at hSw); (first | (go_simp; done) | (go_simp; with_reducible rfl)))
            try simp only [Act.put, List.getElem_toArray, List.getElem_cons_zero, List.getElem_cons_succ, List.setIfInBounds_toArray, List.set_cons_zero, List.set_cons_succ]
            refine anyB_take 14 (i := 1) (v := ?_) rfl (by kernel_rfl) (by kernel_rfl) (by kernel_rfl) (by kernel_rfl) (by kernel_rfl) (fun _ _ _ h => h) hShut hHeld (Or.inl ⟨by rfl, ?_⟩) (fun hShut => ?_)
            rotate_left
            · (intro wS hSw; (try dsimp only at hSw); (first | (go_simp; done) | (go_simp; with_reducible rfl)))
            try simp only [Act.put, List.getElem_toArray, List.getElem_cons_zero, List.getElem_cons_succ, List.setIfInBounds_toArray, List.set_cons_zero, List.set_cons_succ]
            refine anyB_take 14 (i := 2) (v := ?_) rfl (by kernel_rfl) (by kernel_rfl) (by kernel_rfl) (by kernel_rfl) (by kernel_rfl) (fun _ _ _ h => h) hShut hHeld (Or.inl ⟨by rfl, ?_⟩) (fun hShut => ?_)
            rotate_left
            · (intro wS hSw; (try dsimp only at hSw); (first | (go_simp; done) | (go_simp; with_reducible rfl)))
            try simp only [Act.put, List.getElem_toArray, List.getElem_cons_zero, List.getElem_cons_succ, List.setIfInBounds_toArray, List.set_cons_zero, List.set_cons_succ]
            refine anyB_take 14 (i := 3) (v := ?_) rfl (by kernel_rfl) (by kernel_rfl) (by kernel_rfl) (by kernel_rfl) (by kernel_rfl) (fun _ _ _ h => h) hShut hHeld (Or.inl ⟨by rfl, ?_⟩) (fun hShut => ?_)
            rotate_left
            · (intro wS hSw; (try dsimp only at hSw); (first | (go_simp; done) | (go_simp; with_reducible rfl)))
            try simp only [Act.put, List.getElem_toArray, List.getElem_cons_zero, List.getElem_cons_succ, List.setIfInBounds_toArray, List.set_cons_zero, List.set_cons_succ]
            refine anyB_take 14 (i := 4) (v := ?_) rfl (by kernel_rfl) (by kernel_rfl) (by kernel_rfl) (by kernel_rfl) (by kernel_rfl) (fun _ _ _ h => h) hShut hHeld (Or.inl ⟨by rfl, ?_⟩) (fun hShut => ?_)
            rotate_left
            · (intro wS hSw; (try dsimp only at hSw); (first | (go_simp; done) | (go_simp; with_reducible rfl)))
            try simp only [Act.put, List.getElem_toArray, List.getElem_cons_zero, List.getElem_cons_succ, List.setIfInBounds_toArray, List.set_cons_zero, List.set_cons_succ]
            refine anyB_takeW (i := 5) (v := ?_) rfl (by kernel_rfl) (by kernel_rfl) (by kernel_rfl) (by kernel_rfl) (fun _ _ _ h => h) hShut (fun _ => hHeld) (Or.inl ⟨by rfl, ?_⟩) (fun hShut => ?_)
            rotate_left
            · (intro wS hSw; (first | (go_simp; done) | (go_simp; with_reducible rfl)))
            try simp only [Act.put, List.getElem_toArray, List.getElem_cons_zero, List.getElem_cons_succ, List.setIfInBounds_toArray, List.set_cons_zero, List.set_cons_succ]
            refine anyB_takeW (i := 6) (v := ?_) rfl (by kernel_rfl) (by kernel_rfl) (by kernel_rfl) (by kernel_rfl) (fun _ _ _ h => h) hShut (fun _ => hHeld) (Or.inl ⟨by rfl, ?_⟩) (fun hShut => ?_)
            rotate_left
            · (intro wS hSw; (first | (go_simp; done) | (go_simp; with_reducible rfl)))
            try simp only [Act.put, List.getElem_toArray, List.getElem_cons_zero, List.getElem_cons_succ, List.setIfInBounds_toArray, List.set_cons_zero, List.set_cons_succ]
            refine anyB_each (rs := [7]) hShut (by kernel_rfl) (by simp) ?_
            refine List.forall_mem_cons.2 ⟨fun hShut => wpOp_step rfl (fun K hK => ?_), fun _ h => by cases h⟩
            rw [if_pos (by rfl)]
            refine wp_enter (by go_simp; exact ⟨rfl, rfl⟩) ?_
            refine (fadd_any _ _ _ sp0 sp1 (by omega) (by omega)).mono ?_
            rw [HSM.out]
            rintro e wn ⟨rfl, rfl⟩
            refine ⟨_, rfl, ?_⟩
            refine held hK (by (repeat (first | with_reducible assumption | refine ⟨?_, ?_⟩ | with_reducible refine kdrew ?_ | with_reducible refine kalloc ?_ _ | with_reducible refine kother ?_ (by simp; try omega)))) (fun hHeld => ?_)
            clear hK K
            try simp only [Act.put, List.getElem_toArray, List.getElem_cons_zero, List.getElem_cons_succ, List.setIfInBounds_toArray, List.set_cons_zero, List.set_cons_succ]
            refine anyB_each (rs := [8]) hShut (by kernel_rfl) (by simp) ?_
            refine List.forall_mem_cons.2 ⟨fun hShut => wpOp_step rfl (fun K hK => ?_), fun _ h => by cases h⟩
            rw [if_pos (by rfl)]
            refine wp_enter (by go_simp; exact ⟨rfl, rfl⟩) ?_
            refine (psamp_lit vu va ve sp 0 0 0 li2 st2 mo2 m c1 c2 c3 HZ _ vu0 vu1 va0 va1 ve0 ve1 sp0 sp1 PZ.out.kp0 PZ.out.kp1 PZ.out.ki0 PZ.out.ki1 PZ.out.kd0 PZ.out.kd1 PZ.out.li0 PZ.out.li1 PZ.out.st0 PZ.out.st1 PZ.out.mo0 PZ.out.mo1 m0 m1).mono ?_
            rintro e wn ⟨rfl, hbn⟩
            have bx : Bxs w wn [(w.heap.size, 24, [.int .i64 vu, .int .i64 va, .int .i64 ve]), (w.heap.size + 1, 26, [.int .i64 sp, .int .i64 0, .int .i64 0, .int .i64 0, .int .i64 li2, .int .i64 st2, .int .i64 mo2]), (x4.heap.size, 24, [.int .i64 0, .int .i64 ta, .int .i64 te])] := (by first | exact BX.out.below hbn | exact BX.out.drew_.below hbn | exact (BX.out.drewN_ _).below hbn)
            clear hbn BX p0_0 p0_1 p0_2 z0 y0 p1_0 p1_1 p1_2 p1_3 p1_4 p1_5 p1_6 z1 y1 p2_0 p2_1 p2_2 z2 y2
            have BX := Lib.hid bx
            clear bx
            have p0_0 : wn.cell? ⟨w.heap.size, 0, none⟩ = some (.int .i64 vu) := (BX.out.bl 0 _ _ _ rfl).val rfl
            have p0_1 : wn.cell? ⟨w.heap.size, 1, none⟩ = some (.int .i64 va) := (BX.out.bl 0 _ _ _ rfl).val rfl
            have p0_2 : wn.cell? ⟨w.heap.size, 2, none⟩ = some (.int .i64 ve) := (BX.out.bl 0 _ _ _ rfl).val rfl
            have z0 : ∀ k, wn.frozen? ⟨w.heap.size, k, none⟩ = false := (BX.out.bl 0 _ _ _ rfl).free
            have y0 : w.heap.size < wn.heap.size := (BX.out.bl 0 _ _ _ rfl).size
            have p1_0 : wn.cell? ⟨w.heap.size + 1, 0, none⟩ = some (.int .i64 sp) := (BX.out.bl 1 _ _ _ rfl).val rfl
            have p1_1 : wn.cell? ⟨w.heap.size + 1, 1, none⟩ = some (.int .i64 0) := (BX.out.bl 1 _ _ _ rfl).val rfl
            have p1_2 : wn.cell? ⟨w.heap.size + 1, 2, none⟩ = some (.int .i64 0) := (BX.out.bl 1 _ _ _ rfl).val rfl
            have p1_3 : wn.cell? ⟨w.heap.size + 1, 3, none⟩ = some (.int .i64 0) := (BX.out.bl 1 _ _ _ rfl).val rfl
            have p1_4 : wn.cell? ⟨w.heap.size + 1, 4, none⟩ = some (.int .i64 li2) := (BX.out.bl 1 _ _ _ rfl).val rfl
            have p1_5 : wn.cell? ⟨w.heap.size + 1, 5, none⟩ = some (.int .i64 st2) := (BX.out.bl 1 _ _ _ rfl).val rfl
            have p1_6 : wn.cell? ⟨w.heap.size + 1, 6, none⟩ = some (.int .i64 mo2) := (BX.out.bl 1 _ _ _ rfl).val rfl
            have z1 : ∀ k, wn.frozen? ⟨w.heap.size + 1, k, none⟩ = false := (BX.out.bl 1 _ _ _ rfl).free
            have y1 : w.heap.size + 1 < wn.heap.size := (BX.out.bl 1 _ _ _ rfl).size
            have p2_0 : wn.cell? ⟨x4.heap.size, 0, none⟩ = some (.int .i64 0) := (BX.out.bl 2 _ _ _ rfl).val rfl
            have p2_1 : wn.cell? ⟨x4.heap.size, 1, none⟩ = some (.int .i64 ta) := (BX.out.bl 2 _ _ _ rfl).val rfl
            have p2_2 : wn.cell? ⟨x4.heap.size, 2, none⟩ = some (.int .i64 te) := (BX.out.bl 2 _ _ _ rfl).val rfl
            have z2 : ∀ k, wn.frozen? ⟨x4.heap.size, k, none⟩ = false := (BX.out.bl 2 _ _ _ rfl).free
            have y2 : x4.heap.size < wn.heap.size := (BX.out.bl 2 _ _ _ rfl).size
            refine ⟨_, rfl, ?_⟩
            refine held hK (by (repeat (first | with_reducible assumption | refine ⟨?_, ?_⟩ | with_reducible refine kdrew ?_ | with_reducible refine kalloc ?_ _ | with_reducible refine kother ?_ (by simp; try omega)))) (fun hHeld => ?_)
            clear hK K
            try simp only [Act.put, List.getElem_toArray, List.getElem_cons_zero, List.getElem_cons_succ, List.setIfInBounds_toArray, List.set_cons_zero, List.set_cons_succ]
            refine anyB_each (rs := [9]) hShut (by kernel_rfl) (by simp) ?_
            refine List.forall_mem_cons.2 ⟨fun hShut => wpOp_step rfl (fun K hK => ?_), fun _ h => by cases h⟩
            go_simp
            refine unheld hK (by kernel_rfl) ?_
            clear hK K
            try simp only [Act.put, List.getElem_toArray, List.getElem_cons_zero, List.getElem_cons_succ, List.setIfInBounds_toArray, List.set_cons_zero, List.set_cons_succ]
            refine anyB_done (by kernel_rfl) ?_ _
            refine NoPanic.normal ?_
            go_upto_region 22 with fail
            clear p0_0 p0_1 p0_2 z0 y0 p1_0 p1_1 p1_2 p1_3 p1_4 p1_5 p1_6 z1 y1 p2_0 p2_1 p2_2 z2 y2
            refine wp_worldx (fun wx => Bxs w wx [(w.heap.size, 24, [.int .i64 c1, .int .i64 c2, .int .i64 c3]), (w.heap.size + 1, 26, [.int .i64 sp, .int .i64 0, .int .i64 0, .int .i64 0, .int .i64 li2, .int .i64 st2, .int .i64 mo2]), (x4.heap.size, 24, [.int .i64 0, .int .i64 ta, .int .i64 te])]) (by first | exact (((BX.out).set_ 0 0 rfl _).set_ 0 1 rfl _).set_ 0 2 rfl _ | exact (((BX.out.drew_).set_ 0 0 rfl _).set_ 0 1 rfl _).set_ 0 2 rfl _ | exact ((((BX.out.drewN_ _)).set_ 0 0 rfl _).set_ 0 1 rfl _).set_ 0 2 rfl _) ?_
            clear BX
            rintro x8 bx
            have BX := Lib.hid bx
            clear bx
            have p0_0 : x8.cell? ⟨w.heap.size, 0, none⟩ = some (.int .i64 c1) := (BX.out.bl 0 _ _ _ rfl).val rfl
            have p0_1 : x8.cell? ⟨w.heap.size, 1, none⟩ = some (.int .i64 c2) := (BX.out.bl 0 _ _ _ rfl).val rfl
            have p0_2 : x8.cell? ⟨w.heap.size, 2, none⟩ = some (.int .i64 c3) := (BX.out.bl 0 _ _ _ rfl).val rfl
            have z0 : ∀ k, x8.frozen? ⟨w.heap.size, k, none⟩ = false := (BX.out.bl 0 _ _ _ rfl).free
            have y0 : w.heap.size < x8.heap.size := (BX.out.bl 0 _ _ _ rfl).size
            have p1_0 : x8.cell? ⟨w.heap.size + 1, 0, none⟩ = some (.int .i64 sp) := (BX.out.bl 1 _ _ _ rfl).val rfl
            have p1_1 : x8.cell? ⟨w.heap.size + 1, 1, none⟩ = some (.int .i64 0) := (BX.out.bl 1 _ _ _ rfl).val rfl
            have p1_2 : x8.cell? ⟨w.heap.size + 1, 2, none⟩ = some (.int .i64 0) := (BX.out.bl 1 _ _ _ rfl).val rfl
            have p1_3 : x8.cell? ⟨w.heap.size + 1, 3, none⟩ = some (.int .i64 0) := (BX.out.bl 1 _ _ _ rfl).val rfl
            have p1_4 : x8.cell? ⟨w.heap.size + 1, 4, none⟩ = some (.int .i64 li2) := (BX.out.bl 1 _ _ _ rfl).val rfl
            have p1_5 : x8.cell? ⟨w.heap.size + 1, 5, none⟩ = some (.int .i64 st2) := (BX.out.bl 1 _ _ _ rfl).val rfl
            have p1_6 : x8.cell? ⟨w.heap.size + 1, 6, none⟩ = some (.int .i64 mo2) := (BX.out.bl 1 _ _ _ rfl).val rfl
            have z1 : ∀ k, x8.frozen? ⟨w.heap.size + 1, k, none⟩ = false := (BX.out.bl 1 _ _ _ rfl).free
            have y1 : w.heap.size + 1 < x8.heap.size := (BX.out.bl 1 _ _ _ rfl).size
            have p2_0 : x8.cell? ⟨x4.heap.size, 0, none⟩ = some (.int .i64 0) := (BX.out.bl 2 _ _ _ rfl).val rfl
            have p2_1 : x8.cell? ⟨x4.heap.size, 1, none⟩ = some (.int .i64 ta) := (BX.out.bl 2 _ _ _ rfl).val rfl
            have p2_2 : x8.cell? ⟨x4.heap.size, 2, none⟩ = some (.int .i64 te) := (BX.out.bl 2 _ _ _ rfl).val rfl
            have z2 : ∀ k, x8.frozen? ⟨x4.heap.size, k, none⟩ = false := (BX.out.bl 2 _ _ _ rfl).free
            have y2 : x4.heap.size < x8.heap.size := (BX.out.bl 2 _ _ _ rfl).size
            by_cases hsp : sp < 9223372036854775807
            · obtain ⟨h1, h3⟩ := SD.out hsp
              have f1 : (c3 != L) = false := by simp; omega
              have f2 : decide (c3 = L) = true := by simp; omega
              clear h1 h3
              go_wp2_with fail
              go_roundw
              case rel => exact ⟨k + 1, c1, c2, c3, by omega, by go_num, SO.out, SD.out, BX.out⟩
              case measure => simp [intOf]; omega
            · have f1 : decide (sp < 9223372036854775807) = false := by simp; omega
              by_cases hcl : c3 = L
              · have f2 : (c3 != L) = false := by simp; omega
                clear hcl
                go_wp2_with fail
                go_roundw
                case rel => exact ⟨k + 1, c1, c2, c3, by omega, by go_num, SO.out, SD.out, BX.out⟩
                case measure => simp [intOf]; omega
              · have f2 : (c3 != L) = true := by simp; omega
                clear hcl
                go_wp2_with fail
                go_roundw
                case rel => exact ⟨k + 1, c1, c2, c3, by omega, by go_num, SO.out, SD.out, BX.out⟩
                case measure => simp [intOf]; omega
          · go_wp2_with fail
            refine bodyPost_ret (v := .bool true) (by simp [results, Try.results7, go_sem, *]) rfl ⟨rfl, BX.out.be⟩
        · go_wp2_with fail
          refine bodyPost_ret (v := .bool true) (by simp [results, Try.results7, go_sem, *]) rfl ⟨rfl, BX.out.be⟩
set_option maxRecDepth 100000 in
theorem lifted (os : Os) (started : os.Started) (H : Type) (enc : TypeId × Value → H) :
    ReturnsInHanded {} Try.checked os 7 .any (Rows.pidRestsSpec.pre6 enc Try.prog Try.f7 Rows.pidRestsRow.domain false) (Rows.pidRestsSpec.post enc Try.prog Try.f7 false true false false) := by
  refine returnsInHanded_of_change (C := Try.checked) own started (by kernel_rfl) Try.func7
    (ChangeSpec.witness6 (enc := enc) (C := Try.checked) false ⟨#[], #[.agg #[.int .i64 0, .int .i64 0, .int .i64 0], .agg #[.int .i64 0, .int .i64 0, .int .i64 0, .int .i64 0, .int .i64 0, .int .i64 0, .int .i64 0], .slice none 0 0], []⟩ 8 (by kernel_rfl) (by kernel_rfl) (by kernel_rfl) (by kernel_rfl)) ?_
  intro W base args ds gs before hval0 hW hcnd _
  have hval : ∀ (j : Nat) t v, Try.f7.params[j]? = some t → args[j]? = some v → Value.okWide Try.prog W .any base t v := hval0
  have hW' := hW
  obtain ⟨p, q, hA0, hV, rfl, hfz, hnd⟩ := hW
  have hA : DataW.TrodAll enc Try.prog W 0 (fun _ => true) true Try.f7.params.toList args.toList ds p := hA0
  rw [Try.params7] at hA hval
  obtain ⟨v0, vs0, d0, ds0, p0, q0, hargs, rfl, rfl, h0, r0⟩ := trodAll_cons hA
  obtain ⟨v1, vs1, d1, ds1, p1, q1, rfl, rfl, rfl, h1, r1⟩ := trodAll_cons r0
  obtain ⟨v2, vs2, d2, ds2, p2, q2, rfl, rfl, rfl, h2, r2⟩ := trodAll_cons r1
  obtain ⟨rfl, rfl, rfl⟩ := trodAll_nil r2
  obtain rfl : args = #[v0, v1, v2] := by cases args; simp_all
  obtain ⟨rfl, rfl⟩ := trodVars_none hV
  obtain ⟨x00, x01, x02, y00, y01, y02, n0, rfl, g00, g01, g02⟩ := open_three Try.underlying24 (by kernel_rfl) (by kernel_rfl) (hval 0 _ v0 rfl rfl) h0
  obtain ⟨a00, e00, ez00, w00⟩ := DataW.trod_int Try.underlying22 g00
  simp at e00
  subst e00
  obtain ⟨a01, e01, ez01, w01⟩ := DataW.trod_int Try.underlying22 g01
  simp at e01
  subst e01
  obtain ⟨a02, e02, ez02, w02⟩ := DataW.trod_int Try.underlying2 g02
  simp at e02
  subst e02
  obtain ⟨x10, x11, x12, x13, x14, x15, x16, y10, y11, y12, y13, y14, y15, y16, n1, rfl, g10, g11, g12, g13, g14, g15, g16⟩ := open_seven Try.underlying26 (by kernel_rfl) (by kernel_rfl) (hval 1 _ v1 rfl rfl) h1
  obtain ⟨a10, e10, ez10, w10⟩ := DataW.trod_int Try.underlying22 g10
  simp at e10
  subst e10
  obtain ⟨a11, e11, ez11, w11⟩ := DataW.trod_int Try.underlying22 g11
  simp at e11
  subst e11
  obtain ⟨a12, e12, ez12, w12⟩ := DataW.trod_int Try.underlying22 g12
  simp at e12
  subst e12
  obtain ⟨a13, e13, ez13, w13⟩ := DataW.trod_int Try.underlying22 g13
  simp at e13
  subst e13
  obtain ⟨a14, e14, ez14, w14⟩ := DataW.trod_int Try.underlying22 g14
  simp at e14
  subst e14
  obtain ⟨a15, e15, ez15, w15⟩ := DataW.trod_int Try.underlying2 g15
  simp at e15
  subst e15
  obtain ⟨a16, e16, ez16, w16⟩ := DataW.trod_int Try.underlying2 g16
  simp at e16
  subst e16
  obtain ⟨A2, len2, cap2, rfl⟩ := okWide_slice Try.underlying42 (hval 2 _ v2 rfl rfl)
  obtain ⟨fu2, g2⟩ := h2
  obtain ⟨s2, t2, Q2, u2, o2⟩ := open_u32s g2
  clear hA0 hval0
  obtain ⟨l00, m00⟩ := wf_i64 w00
  obtain ⟨l01, m01⟩ := wf_i64 w01
  obtain ⟨l02, m02⟩ := wf_i64 w02
  obtain ⟨l10, m10⟩ := wf_i64 w10
  obtain ⟨l11, m11⟩ := wf_i64 w11
  obtain ⟨l12, m12⟩ := wf_i64 w12
  obtain ⟨l13, m13⟩ := wf_i64 w13
  obtain ⟨l14, m14⟩ := wf_i64 w14
  obtain ⟨l15, m15⟩ := wf_i64 w15
  obtain ⟨l16, m16⟩ := wf_i64 w16
  refine (walk a00 a01 a02 a10 a11 a12 a13 a14 a15 a16 A2 len2 cap2 Q2 W s2 t2 u2 o2 l00 m00 l01 m01 l02 m02 l10 m10 l11 m11 l12 m12 l13 m13 l14 m14 l15 m15 l16 m16).mono fun e W' ⟨he, hg⟩ => ?_
  subst he
  exact ⟨_, rfl, post_of_law hW' rfl laidOut reads rfl Try.underlying4 rfl rfl rfl hg⟩
theorem over : Rows.pidRestsRow.holds Try.pinned (OpenSpec.ofChange Rows.pidRestsSpec) :=
  OpenClaim.holds_of_wide 7 Try.f7 rfl rfl rfl rfl rfl rfl rfl ⟨rfl, rfl, rfl, rfl, rfl⟩ rfl rfl rfl rfl rfl (by kernel_rfl) Try.func7 (by kernel_rfl)
    (of_decide_eq_true (by kernel_rfl)) (by unfold Func.isWrapper; first | (rw [if_pos (by decide +kernel)]; kernel_rfl) | (rw [if_neg (by decide +kernel)]; exact ⟨rfl, rfl⟩))
    (fun os started H enc _ => lifted os started H enc)
theorem proved : Rows.PidRestsSaid := over
end Go.Proofs.Ytfbkimhblfpibaa.pidRests
