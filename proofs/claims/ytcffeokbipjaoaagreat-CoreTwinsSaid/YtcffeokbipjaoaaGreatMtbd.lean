/- Texts of this claim, one behind the other: Pid. -/
import Derived.Deep.DeepCutAuto
import Derived.Deep.RegionHeld3
import Derived.BigQuiet
import Derived.Deep.QuietTactic
import Derived.Test.YtcffeokbipjaoaaGreatMtaa
import Derived.Test.YtcffeokbipjaoaaGreatMtam
import Derived.Test.YtcffeokbipjaoaaGreatMtau
import Derived.Test.YtcffeokbipjaoaaGreatMtav
import Derived.Test.YtcffeokbipjaoaaGreatMtba
import Derived.Test.YtcffeokbipjaoaaGreatMtbc
namespace Go.Proofs.YtcffeokbipjaoaaGreat
open Go.ChangeShapes Go.WideShapes Go.ChangeAt Go.RowKit Kn
set_option linter.unusedVariables false
set_option linter.unusedSimpArgs false
structure Pst where
 su : Int
 la : Int
 le : Int
abbrev Pst.v (s : Pst) : Value := .agg #[.int .i64 s.su, .int .i64 s.la, .int .i64 s.le]
structure Pst.ok (s : Pst) : Prop where
 u0 : -9223372036854775808 ≤ s.su
 u1 : s.su ≤ 9223372036854775807
 a0 : -9223372036854775808 ≤ s.la
 a1 : s.la ≤ 9223372036854775807
 e0 : -9223372036854775808 ≤ s.le
 e1 : s.le ≤ 9223372036854775807
structure Ppr where
 sp : Int
 kp : Int
 ki : Int
 kd : Int
 li : Int
 st : Int
 mo : Int
abbrev Ppr.v (p : Ppr) : Value := .agg #[.int .i64 p.sp, .int .i64 p.kp, .int .i64 p.ki, .int .i64 p.kd, .int .i64 p.li, .int .i64 p.st, .int .i64 p.mo]
structure Ppr.ok (p : Ppr) : Prop where
 sp0 : -9223372036854775808 ≤ p.sp
 sp1 : p.sp ≤ 9223372036854775807
 kp0 : -9223372036854775808 ≤ p.kp
 kp1 : p.kp ≤ 9223372036854775807
 ki0 : -9223372036854775808 ≤ p.ki
 ki1 : p.ki ≤ 9223372036854775807
 kd0 : -9223372036854775808 ≤ p.kd
 kd1 : p.kd ≤ 9223372036854775807
 li0 : -9223372036854775808 ≤ p.li
 li1 : p.li ≤ 9223372036854775807
 st0 : -9223372036854775808 ≤ p.st
 st1 : p.st ≤ 9223372036854775807
 mo0 : -9223372036854775808 ≤ p.mo
 mo1 : p.mo ≤ 9223372036854775807
def clampN (x l h : Int) : Int := if x < l then l else if h < x then h else x
abbrev mx (a b : Int) : Int := max a b
abbrev mn (a b : Int) : Int := min a b
def fallP (s : Pst) (p : Ppr) (d : Int) : Pst := ⟨mx (sat (prodN s.su 2147483648)) 0, d, clampN (sat (s.le - 1)) 0 p.mo⟩
def sumP (s : Pst) (p : Ppr) (d : Int) : Int := clampN (sat (s.su + sat (prodN p.ki d))) 0 p.li
def outP (s : Pst) (p : Ppr) (d : Int) : Int := sat (sat (sat (prodN p.kp d) + sumP s p d) + sat (prodN p.kd (sat (d - s.la))))
def levP (s : Pst) (p : Ppr) (d : Int) : Int := mn (mx s.le (outP s p d / 4294967296)) (sat (s.le + p.st))
def riseP (s : Pst) (p : Ppr) (d : Int) : Pst := ⟨sumP s p d, d, clampN (levP s p d) 0 p.mo⟩
def sampP (s : Pst) (p : Ppr) (u : Int) : Pst := if p.sp < u then riseP s p (sat (u - p.sp)) else fallP s p (sat (u - p.sp))
theorem clampN_in (x l h : Int) (a0 : -9223372036854775808 ≤ x) (a1 : x ≤ 9223372036854775807) (l0 : -9223372036854775808 ≤ l) (l1 : l ≤ 9223372036854775807) (h0 : -9223372036854775808 ≤ h) (h1 : h ≤ 9223372036854775807) : -9223372036854775808 ≤ clampN x l h ∧ clampN x l h ≤ 9223372036854775807 := by
 unfold clampN; split <;> (try split) <;> omega
theorem mx_in (a b : Int) (a0 : -9223372036854775808 ≤ a) (a1 : a ≤ 9223372036854775807) (b0 : -9223372036854775808 ≤ b) (b1 : b ≤ 9223372036854775807) : -9223372036854775808 ≤ mx a b ∧ mx a b ≤ 9223372036854775807 := by
 unfold mx; omega
theorem mn_in (a b : Int) (a0 : -9223372036854775808 ≤ a) (a1 : a ≤ 9223372036854775807) (b0 : -9223372036854775808 ≤ b) (b1 : b ≤ 9223372036854775807) : -9223372036854775808 ≤ mn a b ∧ mn a b ≤ 9223372036854775807 := by
 unfold mn; omega
theorem sat_in (x : Int) : -9223372036854775808 ≤ sat x ∧ sat x ≤ 9223372036854775807 := ⟨sat_lo x, sat_up x⟩
theorem sumP_in (s : Pst) (p : Ppr) (d : Int) (hp : p.ok) : -9223372036854775808 ≤ sumP s p d ∧ sumP s p d ≤ 9223372036854775807 := clampN_in _ _ _ (sat_in _).1 (sat_in _).2 (by omega) (by omega) hp.li0 hp.li1
theorem floor_in (x : Int) (a0 : -9223372036854775808 ≤ x) (a1 : x ≤ 9223372036854775807) : -9223372036854775808 ≤ x / 4294967296 ∧ x / 4294967296 ≤ 9223372036854775807 := by omega
theorem levP_in (s : Pst) (p : Ppr) (d : Int) (hs : s.ok) : -9223372036854775808 ≤ levP s p d ∧ levP s p d ≤ 9223372036854775807 := by
 have h1 := floor_in (outP s p d) (sat_in _).1 (sat_in _).2
 have h2 := mx_in s.le (outP s p d / 4294967296) hs.e0 hs.e1 h1.1 h1.2
 exact mn_in _ _ h2.1 h2.2 (sat_in _).1 (sat_in _).2
theorem sampP_ok (s : Pst) (p : Ppr) (u : Int) (hs : s.ok) (hp : p.ok) : (sampP s p u).ok := by
 unfold sampP
 split
 · have h1 := sumP_in s p (sat (u - p.sp)) hp
   have h2 := levP_in s p (sat (u - p.sp)) hs
   have h3 := clampN_in (levP s p (sat (u - p.sp))) 0 p.mo h2.1 h2.2 (by omega) (by omega) hp.mo0 hp.mo1
   exact ⟨h1.1, h1.2, (sat_in _).1, (sat_in _).2, h3.1, h3.2⟩
 · have h1 := mx_in (sat (prodN s.su 2147483648)) 0 (sat_in _).1 (sat_in _).2 (by omega) (by omega)
   have h3 := clampN_in (sat (s.le - 1)) 0 p.mo (sat_in _).1 (sat_in _).2 (by omega) (by omega) hp.mo0 hp.mo1
   exact ⟨h1.1, h1.2, (sat_in _).1, (sat_in _).2, h3.1, h3.2⟩
set_option maxHeartbeats 400000 in
theorem qplus_any (a b : Int) (w : World) (a0 : -9223372036854775808 ≤ a) (a1 : a ≤ 9223372036854775807) (b0 : -9223372036854775808 ≤ b) (b1 : b ≤ 9223372036854775807) :
   Calls Tryz.prog 220 #[.int .i64 a, .int .i64 b] w fun e w' => e = .returned (.int .i64 (sat (a + b))) ∧ w = w' := by
 go_enter Tryz.func220, Tryz.ntmps220
 go_wp2_with (go_at_call 55; refine (fadd_any _ _ _ (by omega) (by omega) (by omega) (by omega)).mono ?_; rintro e w2 ⟨rfl, rfl⟩)
 go_ret
 exact ⟨rfl, rfl⟩
set_option maxHeartbeats 400000 in
theorem qless_any (a b : Int) (w : World) (a0 : -9223372036854775808 ≤ a) (a1 : a ≤ 9223372036854775807) (b0 : -9223372036854775808 ≤ b) (b1 : b ≤ 9223372036854775807) :
   Calls Tryz.prog 183 #[.int .i64 a, .int .i64 b] w fun e w' => e = .returned (.int .i64 (sat (a - b))) ∧ w = w' := by
 go_enter Tryz.func183, Tryz.ntmps183
 go_wp2_with (go_at_call 163; refine (fsub_any _ _ _ (by omega) (by omega) (by omega) (by omega)).mono ?_; rintro e w2 ⟨rfl, rfl⟩)
 go_ret
 exact ⟨rfl, rfl⟩
theorem clamp_any (x l h : Int) (w : World) : Calls Tryz.prog 222 #[.int .i64 x, .int .i64 l, .int .i64 h] w fun e w' => e = .returned (.int .i64 (clampN x l h)) ∧ w = w' := by
 go_enter Tryz.func222, Tryz.ntmps222
 go_wp2
 all_goals (go_ret; exact ⟨ret_int (by unfold clampN; split <;> (try split) <;> omega), rfl⟩)
set_option maxRecDepth 100000 in
set_option maxHeartbeats 2000000 in
theorem popen_any (su la le sp kp ki kd li st mo u : Int) (w : World) :
   Calls Tryz.prog 184 #[.agg #[.int .i64 su, .int .i64 la, .int .i64 le], .agg #[.int .i64 sp, .int .i64 kp, .int .i64 ki, .int .i64 kd, .int .i64 li, .int .i64 st, .int .i64 mo], .int .i64 u] w fun e w' => e = .returned (.bool (decide (sp < u))) ∧ Below w.heap.size w w' := by
 go_enter Tryz.func184, Tryz.ntmps184
 go_upto_region 1 with fail
 refine wp_worldx (fun wx => Bxs w wx [(w.heap.size, 48, [.int .i64 su, .int .i64 la, .int .i64 le]), (w.heap.size + 1, 139, [.int .i64 sp, .int .i64 kp, .int .i64 ki, .int .i64 kd, .int .i64 li, .int .i64 st, .int .i64 mo])]) (((Bxs.nil_ w).alloc_ _ _ (by simp)).alloc_ _ _ (by simp)) ?_
 rintro x1 bx
 have BX := Lib.hid bx
 clear bx
 obtain ⟨p0_0, p0_1, p0_2, z0, y0⟩ := bl3 (BX.out.bl 0 _ _ _ rfl)
 obtain ⟨p1_0, p1_1, p1_2, p1_3, p1_4, p1_5, p1_6, z1, y1⟩ := bl7 (BX.out.bl 1 _ _ _ rfl)
 go_wp2_with fail
 refine bodyPost_ret (v := .bool (decide (sp < u))) (by simp [results, Tryz.results184, go_sem, *]) rfl ⟨rfl, ?_⟩
 exact (BX.out).be
set_option maxRecDepth 100000 in
set_option maxHeartbeats 2000000 in
theorem pfall_any (su la le sp kp ki kd li st mo d : Int) (w : World) (su0 : -9223372036854775808 ≤ su) (su1 : su ≤ 9223372036854775807) (la0 : -9223372036854775808 ≤ la) (la1 : la ≤ 9223372036854775807) (le0 : -9223372036854775808 ≤ le) (le1 : le ≤ 9223372036854775807) (sp0 : -9223372036854775808 ≤ sp) (sp1 : sp ≤ 9223372036854775807) (kp0 : -9223372036854775808 ≤ kp) (kp1 : kp ≤ 9223372036854775807) (ki0 : -9223372036854775808 ≤ ki) (ki1 : ki ≤ 9223372036854775807) (kd0 : -9223372036854775808 ≤ kd) (kd1 : kd ≤ 9223372036854775807) (li0 : -9223372036854775808 ≤ li) (li1 : li ≤ 9223372036854775807) (st0 : -9223372036854775808 ≤ st) (st1 : st ≤ 9223372036854775807) (mo0 : -9223372036854775808 ≤ mo) (mo1 : mo ≤ 9223372036854775807) (d0 : -9223372036854775808 ≤ d) (d1 : d ≤ 9223372036854775807) :
   Calls Tryz.prog 186 #[.agg #[.int .i64 su, .int .i64 la, .int .i64 le], .agg #[.int .i64 sp, .int .i64 kp, .int .i64 ki, .int .i64 kd, .int .i64 li, .int .i64 st, .int .i64 mo], .int .i64 d] w fun e w' => e = .returned (.agg #[.int .i64 (mx (sat (prodN su 2147483648)) 0), .int .i64 d, .int .i64 (clampN (sat (le - 1)) 0 mo)]) ∧ Below w.heap.size w w' := by
 go_enter Tryz.func186, Tryz.ntmps186
 go_upto_region 1 with fail
 refine wp_worldx (fun wx => Bxs w wx [(w.heap.size, 48, [.int .i64 su, .int .i64 la, .int .i64 le]), (w.heap.size + 1, 139, [.int .i64 sp, .int .i64 kp, .int .i64 ki, .int .i64 kd, .int .i64 li, .int .i64 st, .int .i64 mo]), (w.heap.size + 1 + 1, 48, [.int .i64 0, .int .i64 0, .int .i64 0])]) ((((Bxs.nil_ w).alloc_ _ _ (by simp)).alloc_ _ _ (by simp)).alloc_ _ _ (by simp)) ?_
 rintro x1 bx
 have BX := Lib.hid bx
 clear bx
 obtain ⟨p0_0, p0_1, p0_2, z0, y0⟩ := bl3 (BX.out.bl 0 _ _ _ rfl)
 obtain ⟨p1_0, p1_1, p1_2, p1_3, p1_4, p1_5, p1_6, z1, y1⟩ := bl7 (BX.out.bl 1 _ _ _ rfl)
 obtain ⟨p2_0, p2_1, p2_2, z2, y2⟩ := bl3 (BX.out.bl 2 _ _ _ rfl)
 go_wp2_with fail
 go_region_held3 (fun w' => w'.cell? ⟨w.heap.size, 0, none⟩ = some (.int .i64 su) ∧ w'.cell? ⟨w.heap.size, 2, none⟩ = some (.int .i64 le) ∧ w'.cell? ⟨w.heap.size + 1, 6, none⟩ = some (.int .i64 mo)) (repeat (first | with_reducible assumption | refine ⟨?_, ?_⟩ | with_reducible refine kdrew ?_ | with_reducible refine kalloc ?_ _ | with_reducible refine kother ?_ (by simp; try omega))) (first | (go_at_call 221; refine (qtimes_any _ _ _ (by omega) (by omega) (by omega) (by omega)).mono ?_; rintro e wn ⟨rfl, hbn⟩; have bx : Bxs w wn [(w.heap.size, 48, [.int .i64 su, .int .i64 la, .int .i64 le]), (w.heap.size + 1, 139, [.int .i64 sp, .int .i64 kp, .int .i64 ki, .int .i64 kd, .int .i64 li, .int .i64 st, .int .i64 mo]), (w.heap.size + 1 + 1, 48, [.int .i64 0, .int .i64 0, .int .i64 0])] := (by first | exact BX.out.below hbn | exact BX.out.drew_.below hbn | exact (BX.out.drewN_ _).below hbn); clear hbn BX p0_0 p0_1 p0_2 z0 y0 p1_0 p1_1 p1_2 p1_3 p1_4 p1_5 p1_6 z1 y1 p2_0 p2_1 p2_2 z2 y2; have BX := Lib.hid bx; clear bx; have p0_0 : wn.cell? ⟨w.heap.size, 0, none⟩ = some (.int .i64 su) := (BX.out.bl 0 _ _ _ rfl).val rfl; have p0_1 : wn.cell? ⟨w.heap.size, 1, none⟩ = some (.int .i64 la) := (BX.out.bl 0 _ _ _ rfl).val rfl; have p0_2 : wn.cell? ⟨w.heap.size, 2, none⟩ = some (.int .i64 le) := (BX.out.bl 0 _ _ _ rfl).val rfl; have z0 : ∀ k, wn.frozen? ⟨w.heap.size, k, none⟩ = false := (BX.out.bl 0 _ _ _ rfl).free; have y0 : w.heap.size < wn.heap.size := (BX.out.bl 0 _ _ _ rfl).size; have p1_0 : wn.cell? ⟨w.heap.size + 1, 0, none⟩ = some (.int .i64 sp) := (BX.out.bl 1 _ _ _ rfl).val rfl; have p1_1 : wn.cell? ⟨w.heap.size + 1, 1, none⟩ = some (.int .i64 kp) := (BX.out.bl 1 _ _ _ rfl).val rfl; have p1_2 : wn.cell? ⟨w.heap.size + 1, 2, none⟩ = some (.int .i64 ki) := (BX.out.bl 1 _ _ _ rfl).val rfl; have p1_3 : wn.cell? ⟨w.heap.size + 1, 3, none⟩ = some (.int .i64 kd) := (BX.out.bl 1 _ _ _ rfl).val rfl; have p1_4 : wn.cell? ⟨w.heap.size + 1, 4, none⟩ = some (.int .i64 li) := (BX.out.bl 1 _ _ _ rfl).val rfl; have p1_5 : wn.cell? ⟨w.heap.size + 1, 5, none⟩ = some (.int .i64 st) := (BX.out.bl 1 _ _ _ rfl).val rfl; have p1_6 : wn.cell? ⟨w.heap.size + 1, 6, none⟩ = some (.int .i64 mo) := (BX.out.bl 1 _ _ _ rfl).val rfl; have z1 : ∀ k, wn.frozen? ⟨w.heap.size + 1, k, none⟩ = false := (BX.out.bl 1 _ _ _ rfl).free; have y1 : w.heap.size + 1 < wn.heap.size := (BX.out.bl 1 _ _ _ rfl).size; have p2_0 : wn.cell? ⟨w.heap.size + 1 + 1, 0, none⟩ = some (.int .i64 0) := (BX.out.bl 2 _ _ _ rfl).val rfl; have p2_1 : wn.cell? ⟨w.heap.size + 1 + 1, 1, none⟩ = some (.int .i64 0) := (BX.out.bl 2 _ _ _ rfl).val rfl; have p2_2 : wn.cell? ⟨w.heap.size + 1 + 1, 2, none⟩ = some (.int .i64 0) := (BX.out.bl 2 _ _ _ rfl).val rfl; have z2 : ∀ k, wn.frozen? ⟨w.heap.size + 1 + 1, k, none⟩ = false := (BX.out.bl 2 _ _ _ rfl).free; have y2 : w.heap.size + 1 + 1 < wn.heap.size := (BX.out.bl 2 _ _ _ rfl).size) | (go_at_call 163; refine (fsub_any _ _ _ (by omega) (by omega) (by omega) (by omega)).mono ?_; rintro e wn ⟨rfl, rfl⟩) | (go_at_call 222; refine (clamp_any _ _ _ _).mono ?_; rintro e wn ⟨rfl, rfl⟩))
 all_goals (go_wp2_with fail; refine bodyPost_ret (v := .agg #[.int .i64 (mx (sat (prodN su 2147483648)) 0), .int .i64 d, .int .i64 (clampN (sat (le - 1)) 0 mo)]) (by simp [results, Tryz.results186, go_sem, *]) rfl ⟨rfl, ?_⟩; first | exact ((((BX.out).set_ 2 0 rfl _).set_ 2 1 rfl _).set_ 2 2 rfl _).be | exact ((((BX.out.drew_).set_ 2 0 rfl _).set_ 2 1 rfl _).set_ 2 2 rfl _).be | exact (((((BX.out.drewN_ _)).set_ 2 0 rfl _).set_ 2 1 rfl _).set_ 2 2 rfl _).be)
set_option maxRecDepth 100000 in
set_option maxHeartbeats 4000000 in
theorem prise_r (su la le sp kp ki kd li st mo d : Int) (a1 a2 a3 a4 a5 a6 a7 a8 a9 a10 : Int) (h1 : Hid (sat (prodN ki d) = a1)) (h2 : Hid (sat (su + a1) = a2)) (h3 : Hid (clampN a2 0 li = a3)) (h4 : Hid (sat (prodN kp d) = a4)) (h5 : Hid (sat (a4 + a3) = a5)) (h6 : Hid (sat (d - la) = a6)) (h7 : Hid (sat (prodN kd a6) = a7)) (h8 : Hid (sat (a5 + a7) = a8)) (h9 : Hid (mx le (a8 / 4294967296) = a9)) (h10 : Hid (mn a9 (sat (le + st)) = a10)) (b10 : -9223372036854775808 ≤ a1) (b11 : a1 ≤ 9223372036854775807) (b20 : -9223372036854775808 ≤ a2) (b21 : a2 ≤ 9223372036854775807) (b30 : -9223372036854775808 ≤ a3) (b31 : a3 ≤ 9223372036854775807) (b40 : -9223372036854775808 ≤ a4) (b41 : a4 ≤ 9223372036854775807) (b50 : -9223372036854775808 ≤ a5) (b51 : a5 ≤ 9223372036854775807) (b60 : -9223372036854775808 ≤ a6) (b61 : a6 ≤ 9223372036854775807) (b70 : -9223372036854775808 ≤ a7) (b71 : a7 ≤ 9223372036854775807) (b80 : -9223372036854775808 ≤ a8) (b81 : a8 ≤ 9223372036854775807) (b90 : -9223372036854775808 ≤ a9) (b91 : a9 ≤ 9223372036854775807) (b100 : -9223372036854775808 ≤ a10) (b101 : a10 ≤ 9223372036854775807) (w : World) (su0 : -9223372036854775808 ≤ su) (su1 : su ≤ 9223372036854775807) (la0 : -9223372036854775808 ≤ la) (la1 : la ≤ 9223372036854775807) (le0 : -9223372036854775808 ≤ le) (le1 : le ≤ 9223372036854775807) (sp0 : -9223372036854775808 ≤ sp) (sp1 : sp ≤ 9223372036854775807) (kp0 : -9223372036854775808 ≤ kp) (kp1 : kp ≤ 9223372036854775807) (ki0 : -9223372036854775808 ≤ ki) (ki1 : ki ≤ 9223372036854775807) (kd0 : -9223372036854775808 ≤ kd) (kd1 : kd ≤ 9223372036854775807) (li0 : -9223372036854775808 ≤ li) (li1 : li ≤ 9223372036854775807) (st0 : -9223372036854775808 ≤ st) (st1 : st ≤ 9223372036854775807) (mo0 : -9223372036854775808 ≤ mo) (mo1 : mo ≤ 9223372036854775807) (d0 : -9223372036854775808 ≤ d) (d1 : d ≤ 9223372036854775807) :
   Calls Tryz.prog 185 #[.agg #[.int .i64 su, .int .i64 la, .int .i64 le], .agg #[.int .i64 sp, .int .i64 kp, .int .i64 ki, .int .i64 kd, .int .i64 li, .int .i64 st, .int .i64 mo], .int .i64 d] w fun e w' => e = .returned (.agg #[.int .i64 a3, .int .i64 d, .int .i64 (clampN a10 0 mo)]) ∧ Below w.heap.size w w' := by
 go_enter Tryz.func185, Tryz.ntmps185
 go_upto_region 1 with fail
 refine wp_worldx (fun wx => Bxs w wx [(w.heap.size, 48, [.int .i64 su, .int .i64 la, .int .i64 le]), (w.heap.size + 1, 139, [.int .i64 sp, .int .i64 kp, .int .i64 ki, .int .i64 kd, .int .i64 li, .int .i64 st, .int .i64 mo]), (w.heap.size + 1 + 1, 48, [.int .i64 0, .int .i64 0, .int .i64 0])]) ((((Bxs.nil_ w).alloc_ _ _ (by simp)).alloc_ _ _ (by simp)).alloc_ _ _ (by simp)) ?_
 rintro x1 bx
 have BX := Lib.hid bx
 clear bx
 obtain ⟨p0_0, p0_1, p0_2, z0, y0⟩ := bl3 (BX.out.bl 0 _ _ _ rfl)
 obtain ⟨p1_0, p1_1, p1_2, p1_3, p1_4, p1_5, p1_6, z1, y1⟩ := bl7 (BX.out.bl 1 _ _ _ rfl)
 obtain ⟨p2_0, p2_1, p2_2, z2, y2⟩ := bl3 (BX.out.bl 2 _ _ _ rfl)
 go_cut [7] (fun s7 wx => s7 = .int .i64 a2 ∧ Bxs w wx [(w.heap.size, 48, [.int .i64 su, .int .i64 la, .int .i64 le]), (w.heap.size + 1, 139, [.int .i64 sp, .int .i64 kp, .int .i64 ki, .int .i64 kd, .int .i64 li, .int .i64 st, .int .i64 mo]), (w.heap.size + 1 + 1, 48, [.int .i64 0, .int .i64 0, .int .i64 0])])
 case first =>
   go_region_held3 (fun w' => w'.cell? ⟨w.heap.size, 0, none⟩ = some (.int .i64 su) ∧ w'.cell? ⟨w.heap.size + 1, 2, none⟩ = some (.int .i64 ki)) (repeat (first | with_reducible assumption | refine ⟨?_, ?_⟩ | with_reducible refine kdrew ?_ | with_reducible refine kalloc ?_ _ | with_reducible refine kother ?_ (by simp; try omega))) (first | (go_at_call 221; refine (qtimes_any _ _ _ (by omega) (by omega) (by omega) (by omega)).mono ?_; rw [h1.out]; rintro e wn ⟨rfl, hbn⟩; have bx : Bxs w wn [(w.heap.size, 48, [.int .i64 su, .int .i64 la, .int .i64 le]), (w.heap.size + 1, 139, [.int .i64 sp, .int .i64 kp, .int .i64 ki, .int .i64 kd, .int .i64 li, .int .i64 st, .int .i64 mo]), (w.heap.size + 1 + 1, 48, [.int .i64 0, .int .i64 0, .int .i64 0])] := (by first | exact BX.out.below hbn | exact BX.out.drew_.below hbn | exact (BX.out.drewN_ _).below hbn); clear hbn BX p0_0 p0_1 p0_2 z0 y0 p1_0 p1_1 p1_2 p1_3 p1_4 p1_5 p1_6 z1 y1 p2_0 p2_1 p2_2 z2 y2; have BX := Lib.hid bx; clear bx; have p0_0 : wn.cell? ⟨w.heap.size, 0, none⟩ = some (.int .i64 su) := (BX.out.bl 0 _ _ _ rfl).val rfl; have p0_1 : wn.cell? ⟨w.heap.size, 1, none⟩ = some (.int .i64 la) := (BX.out.bl 0 _ _ _ rfl).val rfl; have p0_2 : wn.cell? ⟨w.heap.size, 2, none⟩ = some (.int .i64 le) := (BX.out.bl 0 _ _ _ rfl).val rfl; have z0 : ∀ k, wn.frozen? ⟨w.heap.size, k, none⟩ = false := (BX.out.bl 0 _ _ _ rfl).free; have y0 : w.heap.size < wn.heap.size := (BX.out.bl 0 _ _ _ rfl).size; have p1_0 : wn.cell? ⟨w.heap.size + 1, 0, none⟩ = some (.int .i64 sp) := (BX.out.bl 1 _ _ _ rfl).val rfl; have p1_1 : wn.cell? ⟨w.heap.size + 1, 1, none⟩ = some (.int .i64 kp) := (BX.out.bl 1 _ _ _ rfl).val rfl; have p1_2 : wn.cell? ⟨w.heap.size + 1, 2, none⟩ = some (.int .i64 ki) := (BX.out.bl 1 _ _ _ rfl).val rfl; have p1_3 : wn.cell? ⟨w.heap.size + 1, 3, none⟩ = some (.int .i64 kd) := (BX.out.bl 1 _ _ _ rfl).val rfl; have p1_4 : wn.cell? ⟨w.heap.size + 1, 4, none⟩ = some (.int .i64 li) := (BX.out.bl 1 _ _ _ rfl).val rfl; have p1_5 : wn.cell? ⟨w.heap.size + 1, 5, none⟩ = some (.int .i64 st) := (BX.out.bl 1 _ _ _ rfl).val rfl; have p1_6 : wn.cell? ⟨w.heap.size + 1, 6, none⟩ = some (.int .i64 mo) := (BX.out.bl 1 _ _ _ rfl).val rfl; have z1 : ∀ k, wn.frozen? ⟨w.heap.size + 1, k, none⟩ = false := (BX.out.bl 1 _ _ _ rfl).free; have y1 : w.heap.size + 1 < wn.heap.size := (BX.out.bl 1 _ _ _ rfl).size; have p2_0 : wn.cell? ⟨w.heap.size + 1 + 1, 0, none⟩ = some (.int .i64 0) := (BX.out.bl 2 _ _ _ rfl).val rfl; have p2_1 : wn.cell? ⟨w.heap.size + 1 + 1, 1, none⟩ = some (.int .i64 0) := (BX.out.bl 2 _ _ _ rfl).val rfl; have p2_2 : wn.cell? ⟨w.heap.size + 1 + 1, 2, none⟩ = some (.int .i64 0) := (BX.out.bl 2 _ _ _ rfl).val rfl; have z2 : ∀ k, wn.frozen? ⟨w.heap.size + 1 + 1, k, none⟩ = false := (BX.out.bl 2 _ _ _ rfl).free; have y2 : w.heap.size + 1 + 1 < wn.heap.size := (BX.out.bl 2 _ _ _ rfl).size) | (go_at_call 220; refine (qplus_any _ _ _ (by omega) (by omega) (by omega) (by omega)).mono ?_; rw [h2.out]; rintro e wn ⟨rfl, rfl⟩))
   all_goals (go_wp2_with fail; go_meet; exact ⟨rfl, (by first | exact BX.out | exact BX.out.drew_ | exact BX.out.drewN_ _)⟩)
 case rest =>
   clear p0_0 p0_1 p0_2 z0 y0 p1_0 p1_1 p1_2 p1_3 p1_4 p1_5 p1_6 z1 y1 p2_0 p2_1 p2_2 z2 y2
   clear BX
   obtain ⟨rfl, bx⟩ := hcut
   have BX := Lib.hid bx
   clear bx
   obtain ⟨p0_0, p0_1, p0_2, z0, y0⟩ := bl3 (BX.out.bl 0 _ _ _ rfl)
   obtain ⟨p1_0, p1_1, p1_2, p1_3, p1_4, p1_5, p1_6, z1, y1⟩ := bl7 (BX.out.bl 1 _ _ _ rfl)
   obtain ⟨p2_0, p2_1, p2_2, z2, y2⟩ := bl3 (BX.out.bl 2 _ _ _ rfl)
   go_upto_region 3 with (go_at_call 222; refine (clamp_any _ _ _ _).mono ?_; rw [h3.out]; rintro e wn ⟨rfl, rfl⟩)
   go_cut [8] (fun s8 wx => s8 = .int .i64 a8 ∧ Bxs w wx [(w.heap.size, 48, [.int .i64 su, .int .i64 la, .int .i64 le]), (w.heap.size + 1, 139, [.int .i64 sp, .int .i64 kp, .int .i64 ki, .int .i64 kd, .int .i64 li, .int .i64 st, .int .i64 mo]), (w.heap.size + 1 + 1, 48, [.int .i64 0, .int .i64 0, .int .i64 0])])
   case first =>
     go_region_held3 (fun w' => w'.cell? ⟨w.heap.size + 1, 1, none⟩ = some (.int .i64 kp) ∧ w'.cell? ⟨w.heap.size + 1, 3, none⟩ = some (.int .i64 kd) ∧ w'.cell? ⟨w.heap.size, 1, none⟩ = some (.int .i64 la)) (repeat (first | with_reducible assumption | refine ⟨?_, ?_⟩ | with_reducible refine kdrew ?_ | with_reducible refine kalloc ?_ _ | with_reducible refine kother ?_ (by simp; try omega))) (first | (go_at_call 221; refine (qtimes_any _ _ _ (by omega) (by omega) (by omega) (by omega)).mono ?_; (first | rw [h4.out] | rw [h7.out]); rintro e wn ⟨rfl, hbn⟩; have bx : Bxs w wn [(w.heap.size, 48, [.int .i64 su, .int .i64 la, .int .i64 le]), (w.heap.size + 1, 139, [.int .i64 sp, .int .i64 kp, .int .i64 ki, .int .i64 kd, .int .i64 li, .int .i64 st, .int .i64 mo]), (w.heap.size + 1 + 1, 48, [.int .i64 0, .int .i64 0, .int .i64 0])] := (by first | exact BX.out.below hbn | exact BX.out.drew_.below hbn | exact (BX.out.drewN_ _).below hbn); clear hbn BX p0_0 p0_1 p0_2 z0 y0 p1_0 p1_1 p1_2 p1_3 p1_4 p1_5 p1_6 z1 y1 p2_0 p2_1 p2_2 z2 y2; have BX := Lib.hid bx; clear bx; have p0_0 : wn.cell? ⟨w.heap.size, 0, none⟩ = some (.int .i64 su) := (BX.out.bl 0 _ _ _ rfl).val rfl; have p0_1 : wn.cell? ⟨w.heap.size, 1, none⟩ = some (.int .i64 la) := (BX.out.bl 0 _ _ _ rfl).val rfl; have p0_2 : wn.cell? ⟨w.heap.size, 2, none⟩ = some (.int .i64 le) := (BX.out.bl 0 _ _ _ rfl).val rfl; have z0 : ∀ k, wn.frozen? ⟨w.heap.size, k, none⟩ = false := (BX.out.bl 0 _ _ _ rfl).free; have y0 : w.heap.size < wn.heap.size := (BX.out.bl 0 _ _ _ rfl).size; have p1_0 : wn.cell? ⟨w.heap.size + 1, 0, none⟩ = some (.int .i64 sp) := (BX.out.bl 1 _ _ _ rfl).val rfl; have p1_1 : wn.cell? ⟨w.heap.size + 1, 1, none⟩ = some (.int .i64 kp) := (BX.out.bl 1 _ _ _ rfl).val rfl; have p1_2 : wn.cell? ⟨w.heap.size + 1, 2, none⟩ = some (.int .i64 ki) := (BX.out.bl 1 _ _ _ rfl).val rfl; have p1_3 : wn.cell? ⟨w.heap.size + 1, 3, none⟩ = some (.int .i64 kd) := (BX.out.bl 1 _ _ _ rfl).val rfl; have p1_4 : wn.cell? ⟨w.heap.size + 1, 4, none⟩ = some (.int .i64 li) := (BX.out.bl 1 _ _ _ rfl).val rfl; have p1_5 : wn.cell? ⟨w.heap.size + 1, 5, none⟩ = some (.int .i64 st) := (BX.out.bl 1 _ _ _ rfl).val rfl; have p1_6 : wn.cell? ⟨w.heap.size + 1, 6, none⟩ = some (.int .i64 mo) := (BX.out.bl 1 _ _ _ rfl).val rfl; have z1 : ∀ k, wn.frozen? ⟨w.heap.size + 1, k, none⟩ = false := (BX.out.bl 1 _ _ _ rfl).free; have y1 : w.heap.size + 1 < wn.heap.size := (BX.out.bl 1 _ _ _ rfl).size; have p2_0 : wn.cell? ⟨w.heap.size + 1 + 1, 0, none⟩ = some (.int .i64 0) := (BX.out.bl 2 _ _ _ rfl).val rfl; have p2_1 : wn.cell? ⟨w.heap.size + 1 + 1, 1, none⟩ = some (.int .i64 0) := (BX.out.bl 2 _ _ _ rfl).val rfl; have p2_2 : wn.cell? ⟨w.heap.size + 1 + 1, 2, none⟩ = some (.int .i64 0) := (BX.out.bl 2 _ _ _ rfl).val rfl; have z2 : ∀ k, wn.frozen? ⟨w.heap.size + 1 + 1, k, none⟩ = false := (BX.out.bl 2 _ _ _ rfl).free; have y2 : w.heap.size + 1 + 1 < wn.heap.size := (BX.out.bl 2 _ _ _ rfl).size) | (go_at_call 220; refine (qplus_any _ _ _ (by omega) (by omega) (by omega) (by omega)).mono ?_; (first | rw [h5.out] | rw [h8.out]); rintro e wn ⟨rfl, rfl⟩) | (go_at_call 183; refine (qless_any _ _ _ (by omega) (by omega) (by omega) (by omega)).mono ?_; (rw [h6.out]); rintro e wn ⟨rfl, rfl⟩))
     all_goals (go_wp2_with fail; go_meet; exact ⟨rfl, (by first | exact BX.out | exact BX.out.drew_ | exact BX.out.drewN_ _)⟩)
   case rest =>
     clear p0_0 p0_1 p0_2 z0 y0 p1_0 p1_1 p1_2 p1_3 p1_4 p1_5 p1_6 z1 y1 p2_0 p2_1 p2_2 z2 y2
     clear BX
     obtain ⟨rfl, bx⟩ := hcut
     have BX := Lib.hid bx
     clear bx
     obtain ⟨p0_0, p0_1, p0_2, z0, y0⟩ := bl3 (BX.out.bl 0 _ _ _ rfl)
     obtain ⟨p1_0, p1_1, p1_2, p1_3, p1_4, p1_5, p1_6, z1, y1⟩ := bl7 (BX.out.bl 1 _ _ _ rfl)
     obtain ⟨p2_0, p2_1, p2_2, z2, y2⟩ := bl3 (BX.out.bl 2 _ _ _ rfl)
     go_upto_region 4 with fail
     go_cut [9] (fun s9 wx => s9 = .int .i64 a10 ∧ Bxs w wx [(w.heap.size, 48, [.int .i64 su, .int .i64 la, .int .i64 le]), (w.heap.size + 1, 139, [.int .i64 sp, .int .i64 kp, .int .i64 ki, .int .i64 kd, .int .i64 li, .int .i64 st, .int .i64 mo]), (w.heap.size + 1 + 1, 48, [.int .i64 0, .int .i64 0, .int .i64 0])])
     case first =>
       go_region_held3 (fun w' => w'.cell? ⟨w.heap.size, 2, none⟩ = some (.int .i64 le) ∧ w'.cell? ⟨w.heap.size + 1, 5, none⟩ = some (.int .i64 st)) (repeat (first | with_reducible assumption | refine ⟨?_, ?_⟩ | with_reducible refine kdrew ?_ | with_reducible refine kalloc ?_ _ | with_reducible refine kother ?_ (by simp; try omega))) (first | (go_at_call 223; refine (qfloor_any _ _ (by omega) (by omega)).mono ?_; rintro e wn ⟨rfl, rfl⟩) | (go_at_call 55; refine (fadd_any _ _ _ (by omega) (by omega) (by omega) (by omega)).mono ?_; rintro e wn ⟨rfl, rfl⟩))
       all_goals (go_wp2_with fail; go_meet; exact ⟨(by rw [← h10.out, ← h9.out]), (by first | exact BX.out | exact BX.out.drew_ | exact BX.out.drewN_ _)⟩)
     case rest =>
       clear p0_0 p0_1 p0_2 z0 y0 p1_0 p1_1 p1_2 p1_3 p1_4 p1_5 p1_6 z1 y1 p2_0 p2_1 p2_2 z2 y2
       clear BX
       obtain ⟨rfl, bx⟩ := hcut
       have BX := Lib.hid bx
       clear bx
       obtain ⟨p0_0, p0_1, p0_2, z0, y0⟩ := bl3 (BX.out.bl 0 _ _ _ rfl)
       obtain ⟨p1_0, p1_1, p1_2, p1_3, p1_4, p1_5, p1_6, z1, y1⟩ := bl7 (BX.out.bl 1 _ _ _ rfl)
       obtain ⟨p2_0, p2_1, p2_2, z2, y2⟩ := bl3 (BX.out.bl 2 _ _ _ rfl)
       go_wp2_with (go_at_call 222; refine (clamp_any _ _ _ _).mono ?_; rintro e wn ⟨rfl, rfl⟩)
       refine bodyPost_ret (v := .agg #[.int .i64 a3, .int .i64 d, .int .i64 (clampN a10 0 mo)]) (by simp [results, Tryz.results185, go_sem, *]) rfl ⟨rfl, ?_⟩
       exact ((((BX.out).set_ 2 0 rfl _).set_ 2 1 rfl _).set_ 2 2 rfl _).be
theorem prise_lit (su la le sp kp ki kd li st mo d c1 c2 c3 : Int) (HZ : Hid (riseP ⟨su, la, le⟩ ⟨sp, kp, ki, kd, li, st, mo⟩ d = ⟨c1, c2, c3⟩)) (w : World) (su0 : -9223372036854775808 ≤ su) (su1 : su ≤ 9223372036854775807) (la0 : -9223372036854775808 ≤ la) (la1 : la ≤ 9223372036854775807) (le0 : -9223372036854775808 ≤ le) (le1 : le ≤ 9223372036854775807) (sp0 : -9223372036854775808 ≤ sp) (sp1 : sp ≤ 9223372036854775807) (kp0 : -9223372036854775808 ≤ kp) (kp1 : kp ≤ 9223372036854775807) (ki0 : -9223372036854775808 ≤ ki) (ki1 : ki ≤ 9223372036854775807) (kd0 : -9223372036854775808 ≤ kd) (kd1 : kd ≤ 9223372036854775807) (li0 : -9223372036854775808 ≤ li) (li1 : li ≤ 9223372036854775807) (st0 : -9223372036854775808 ≤ st) (st1 : st ≤ 9223372036854775807) (mo0 : -9223372036854775808 ≤ mo) (mo1 : mo ≤ 9223372036854775807) (d0 : -9223372036854775808 ≤ d) (d1 : d ≤ 9223372036854775807) :
   Calls Tryz.prog 185 #[.agg #[.int .i64 su, .int .i64 la, .int .i64 le], .agg #[.int .i64 sp, .int .i64 kp, .int .i64 ki, .int .i64 kd, .int .i64 li, .int .i64 st, .int .i64 mo], .int .i64 d] w fun e w' => e = .returned (.agg #[.int .i64 c1, .int .i64 c2, .int .i64 c3]) ∧ Below w.heap.size w w' := by
 have hz := HZ.out
 simp only [riseP, Pst.mk.injEq] at hz
 obtain ⟨e1, e2, e3⟩ := hz
 rw [← e1, ← e2, ← e3]
 have so : (⟨su, la, le⟩ : Pst).ok := ⟨su0, su1, la0, la1, le0, le1⟩
 have po : (⟨sp, kp, ki, kd, li, st, mo⟩ : Ppr).ok := ⟨sp0, sp1, kp0, kp1, ki0, ki1, kd0, kd1, li0, li1, st0, st1, mo0, mo1⟩
 have s1 := sumP_in ⟨su, la, le⟩ ⟨sp, kp, ki, kd, li, st, mo⟩ d po
 have f1 := floor_in (outP ⟨su, la, le⟩ ⟨sp, kp, ki, kd, li, st, mo⟩ d) (sat_in _).1 (sat_in _).2
 have m1 := mx_in le (outP ⟨su, la, le⟩ ⟨sp, kp, ki, kd, li, st, mo⟩ d / 4294967296) le0 le1 f1.1 f1.2
 have l1 := levP_in ⟨su, la, le⟩ ⟨sp, kp, ki, kd, li, st, mo⟩ d so
 exact prise_r su la le sp kp ki kd li st mo d _ _ _ _ _ _ _ _ _ _ (Lib.hid rfl) (Lib.hid rfl) (Lib.hid rfl) (Lib.hid rfl) (Lib.hid rfl) (Lib.hid rfl) (Lib.hid rfl) (Lib.hid rfl) (Lib.hid rfl) (Lib.hid rfl)
   (sat_in _).1 (sat_in _).2 (sat_in _).1 (sat_in _).2 s1.1 s1.2 (sat_in _).1 (sat_in _).2 (sat_in _).1 (sat_in _).2 (sat_in _).1 (sat_in _).2 (sat_in _).1 (sat_in _).2 (sat_in _).1 (sat_in _).2 m1.1 m1.2 l1.1 l1.2 w su0 su1 la0 la1 le0 le1 sp0 sp1 kp0 kp1 ki0 ki1 kd0 kd1 li0 li1 st0 st1 mo0 mo1 d0 d1
theorem pfall_lit (su la le sp kp ki kd li st mo d c1 c2 c3 : Int) (HZ : Hid (fallP ⟨su, la, le⟩ ⟨sp, kp, ki, kd, li, st, mo⟩ d = ⟨c1, c2, c3⟩)) (w : World) (su0 : -9223372036854775808 ≤ su) (su1 : su ≤ 9223372036854775807) (la0 : -9223372036854775808 ≤ la) (la1 : la ≤ 9223372036854775807) (le0 : -9223372036854775808 ≤ le) (le1 : le ≤ 9223372036854775807) (sp0 : -9223372036854775808 ≤ sp) (sp1 : sp ≤ 9223372036854775807) (kp0 : -9223372036854775808 ≤ kp) (kp1 : kp ≤ 9223372036854775807) (ki0 : -9223372036854775808 ≤ ki) (ki1 : ki ≤ 9223372036854775807) (kd0 : -9223372036854775808 ≤ kd) (kd1 : kd ≤ 9223372036854775807) (li0 : -9223372036854775808 ≤ li) (li1 : li ≤ 9223372036854775807) (st0 : -9223372036854775808 ≤ st) (st1 : st ≤ 9223372036854775807) (mo0 : -9223372036854775808 ≤ mo) (mo1 : mo ≤ 9223372036854775807) (d0 : -9223372036854775808 ≤ d) (d1 : d ≤ 9223372036854775807) :
   Calls Tryz.prog 186 #[.agg #[.int .i64 su, .int .i64 la, .int .i64 le], .agg #[.int .i64 sp, .int .i64 kp, .int .i64 ki, .int .i64 kd, .int .i64 li, .int .i64 st, .int .i64 mo], .int .i64 d] w fun e w' => e = .returned (.agg #[.int .i64 c1, .int .i64 c2, .int .i64 c3]) ∧ Below w.heap.size w w' := by
 have hz := HZ.out
 simp only [fallP, Pst.mk.injEq] at hz
 obtain ⟨e1, e2, e3⟩ := hz
 rw [← e1, ← e2, ← e3]
 exact pfall_any su la le sp kp ki kd li st mo d w su0 su1 la0 la1 le0 le1 sp0 sp1 kp0 kp1 ki0 ki1 kd0 kd1 li0 li1 st0 st1 mo0 mo1 d0 d1
set_option maxRecDepth 100000 in
set_option maxHeartbeats 2000000 in
theorem psamp_t (su la le sp kp ki kd li st mo u d c1 c2 c3 : Int) (hb : Hid (decide (sp < u) = true)) (hd : Hid (sat (u - sp) = d)) (HZ : Hid (riseP ⟨su, la, le⟩ ⟨sp, kp, ki, kd, li, st, mo⟩ d = ⟨c1, c2, c3⟩)) (w : World) (su0 : -9223372036854775808 ≤ su) (su1 : su ≤ 9223372036854775807) (la0 : -9223372036854775808 ≤ la) (la1 : la ≤ 9223372036854775807) (le0 : -9223372036854775808 ≤ le) (le1 : le ≤ 9223372036854775807) (sp0 : -9223372036854775808 ≤ sp) (sp1 : sp ≤ 9223372036854775807) (kp0 : -9223372036854775808 ≤ kp) (kp1 : kp ≤ 9223372036854775807) (ki0 : -9223372036854775808 ≤ ki) (ki1 : ki ≤ 9223372036854775807) (kd0 : -9223372036854775808 ≤ kd) (kd1 : kd ≤ 9223372036854775807) (li0 : -9223372036854775808 ≤ li) (li1 : li ≤ 9223372036854775807) (st0 : -9223372036854775808 ≤ st) (st1 : st ≤ 9223372036854775807) (mo0 : -9223372036854775808 ≤ mo) (mo1 : mo ≤ 9223372036854775807) (d0 : -9223372036854775808 ≤ d) (d1 : d ≤ 9223372036854775807) (u0 : -9223372036854775808 ≤ u) (u1 : u ≤ 9223372036854775807) :
   Calls Tryz.prog 130 #[.agg #[.int .i64 su, .int .i64 la, .int .i64 le], .agg #[.int .i64 sp, .int .i64 kp, .int .i64 ki, .int .i64 kd, .int .i64 li, .int .i64 st, .int .i64 mo], .int .i64 u] w fun e w' => e = .returned (.agg #[.int .i64 c1, .int .i64 c2, .int .i64 c3]) ∧ Below w.heap.size w w' := by
 go_enter Tryz.func130, Tryz.ntmps130
 go_upto_region 1 with fail
 refine wp_worldx (fun wx => Bxs w wx [(w.heap.size, 48, [.int .i64 su, .int .i64 la, .int .i64 le]), (w.heap.size + 1, 139, [.int .i64 sp, .int .i64 kp, .int .i64 ki, .int .i64 kd, .int .i64 li, .int .i64 st, .int .i64 mo]), (w.heap.size + 1 + 1, 48, [.int .i64 0, .int .i64 0, .int .i64 0])]) ((((Bxs.nil_ w).alloc_ _ _ (by simp)).alloc_ _ _ (by simp)).alloc_ _ _ (by simp)) ?_
 rintro x1 bx
 have BX := Lib.hid bx
 clear bx
 obtain ⟨p0_0, p0_1, p0_2, z0, y0⟩ := bl3 (BX.out.bl 0 _ _ _ rfl)
 obtain ⟨p1_0, p1_1, p1_2, p1_3, p1_4, p1_5, p1_6, z1, y1⟩ := bl7 (BX.out.bl 1 _ _ _ rfl)
 obtain ⟨p2_0, p2_1, p2_2, z2, y2⟩ := bl3 (BX.out.bl 2 _ _ _ rfl)
 go_wp2_with fail
 refine (qless_any _ _ _ u0 u1 sp0 sp1).mono ?_
 rw [hd.out]
 rintro e x2 ⟨rfl, rfl⟩
 go_wp2_with fail
 refine (popen_any _ _ _ _ _ _ _ _ _ _ _ _).mono ?_
 rw [hb.out]
 rintro e x3 ⟨rfl, hb⟩
 have bx : Bxs w x3 [(w.heap.size, 48, [.int .i64 su, .int .i64 la, .int .i64 le]), (w.heap.size + 1, 139, [.int .i64 sp, .int .i64 kp, .int .i64 ki, .int .i64 kd, .int .i64 li, .int .i64 st, .int .i64 mo]), (w.heap.size + 1 + 1, 48, [.int .i64 0, .int .i64 0, .int .i64 0])] := (BX.out).below hb
 clear p0_0 p0_1 p0_2 z0 y0 p1_0 p1_1 p1_2 p1_3 p1_4 p1_5 p1_6 z1 y1 p2_0 p2_1 p2_2 z2 y2
 clear hb BX
 have BX := Lib.hid bx
 clear bx
 obtain ⟨p0_0, p0_1, p0_2, z0, y0⟩ := bl3 (BX.out.bl 0 _ _ _ rfl)
 obtain ⟨p1_0, p1_1, p1_2, p1_3, p1_4, p1_5, p1_6, z1, y1⟩ := bl7 (BX.out.bl 1 _ _ _ rfl)
 obtain ⟨p2_0, p2_1, p2_2, z2, y2⟩ := bl3 (BX.out.bl 2 _ _ _ rfl)
 go_wp2_with fail
 refine (prise_lit su la le sp kp ki kd li st mo d c1 c2 c3 HZ _ su0 su1 la0 la1 le0 le1 sp0 sp1 kp0 kp1 ki0 ki1 kd0 kd1 li0 li1 st0 st1 mo0 mo1 d0 d1).mono ?_
 rintro e x4 ⟨rfl, hb⟩
 have bx : Bxs w x4 [(w.heap.size, 48, [.int .i64 su, .int .i64 la, .int .i64 le]), (w.heap.size + 1, 139, [.int .i64 sp, .int .i64 kp, .int .i64 ki, .int .i64 kd, .int .i64 li, .int .i64 st, .int .i64 mo]), (w.heap.size + 1 + 1, 48, [.int .i64 0, .int .i64 0, .int .i64 0])] := (BX.out).below hb
 clear p0_0 p0_1 p0_2 z0 y0 p1_0 p1_1 p1_2 p1_3 p1_4 p1_5 p1_6 z1 y1 p2_0 p2_1 p2_2 z2 y2
 clear hb BX
 have BX := Lib.hid bx
 clear bx
 obtain ⟨p0_0, p0_1, p0_2, z0, y0⟩ := bl3 (BX.out.bl 0 _ _ _ rfl)
 obtain ⟨p1_0, p1_1, p1_2, p1_3, p1_4, p1_5, p1_6, z1, y1⟩ := bl7 (BX.out.bl 1 _ _ _ rfl)
 obtain ⟨p2_0, p2_1, p2_2, z2, y2⟩ := bl3 (BX.out.bl 2 _ _ _ rfl)
 go_wp2_with fail
 refine bodyPost_ret (v := .agg #[.int .i64 c1, .int .i64 c2, .int .i64 c3]) (by simp [results, Tryz.results130, go_sem, *]) rfl ⟨rfl, ?_⟩
 exact ((((BX.out).set_ 2 0 rfl _).set_ 2 1 rfl _).set_ 2 2 rfl _).be
set_option maxRecDepth 100000 in
set_option maxHeartbeats 2000000 in
theorem psamp_f (su la le sp kp ki kd li st mo u d c1 c2 c3 : Int) (hb : Hid (decide (sp < u) = false)) (hd : Hid (sat (u - sp) = d)) (HZ : Hid (fallP ⟨su, la, le⟩ ⟨sp, kp, ki, kd, li, st, mo⟩ d = ⟨c1, c2, c3⟩)) (w : World) (su0 : -9223372036854775808 ≤ su) (su1 : su ≤ 9223372036854775807) (la0 : -9223372036854775808 ≤ la) (la1 : la ≤ 9223372036854775807) (le0 : -9223372036854775808 ≤ le) (le1 : le ≤ 9223372036854775807) (sp0 : -9223372036854775808 ≤ sp) (sp1 : sp ≤ 9223372036854775807) (kp0 : -9223372036854775808 ≤ kp) (kp1 : kp ≤ 9223372036854775807) (ki0 : -9223372036854775808 ≤ ki) (ki1 : ki ≤ 9223372036854775807) (kd0 : -9223372036854775808 ≤ kd) (kd1 : kd ≤ 9223372036854775807) (li0 : -9223372036854775808 ≤ li) (li1 : li ≤ 9223372036854775807) (st0 : -9223372036854775808 ≤ st) (st1 : st ≤ 9223372036854775807) (mo0 : -9223372036854775808 ≤ mo) (mo1 : mo ≤ 9223372036854775807) (d0 : -9223372036854775808 ≤ d) (d1 : d ≤ 9223372036854775807) (u0 : -9223372036854775808 ≤ u) (u1 : u ≤ 9223372036854775807) :
   Calls Tryz.prog 130 #[.agg #[.int .i64 su, .int .i64 la, .int .i64 le], .agg #[.int .i64 sp, .int .i64 kp, .int .i64 ki, .int .i64 kd, .int .i64 li, .int .i64 st, .int .i64 mo], .int .i64 u] w fun e w' => e = .returned (.agg #[.int .i64 c1, .int .i64 c2, .int .i64 c3]) ∧ Below w.heap.size w w' := by
 go_enter Tryz.func130, Tryz.ntmps130
 go_upto_region 1 with fail
 refine wp_worldx (fun wx => Bxs w wx [(w.heap.size, 48, [.int .i64 su, .int .i64 la, .int .i64 le]), (w.heap.size + 1, 139, [.int .i64 sp, .int .i64 kp, .int .i64 ki, .int .i64 kd, .int .i64 li, .int .i64 st, .int .i64 mo]), (w.heap.size + 1 + 1, 48, [.int .i64 0, .int .i64 0, .int .i64 0])]) ((((Bxs.nil_ w).alloc_ _ _ (by simp)).alloc_ _ _ (by simp)).alloc_ _ _ (by simp)) ?_
 rintro x1 bx
 have BX := Lib.hid bx
 clear bx
 obtain ⟨p0_0, p0_1, p0_2, z0, y0⟩ := bl3 (BX.out.bl 0 _ _ _ rfl)
 obtain ⟨p1_0, p1_1, p1_2, p1_3, p1_4, p1_5, p1_6, z1, y1⟩ := bl7 (BX.out.bl 1 _ _ _ rfl)
 obtain ⟨p2_0, p2_1, p2_2, z2, y2⟩ := bl3 (BX.out.bl 2 _ _ _ rfl)
 go_wp2_with fail
 refine (qless_any _ _ _ u0 u1 sp0 sp1).mono ?_
 rw [hd.out]
 rintro e x2 ⟨rfl, rfl⟩
 go_wp2_with fail
 refine (popen_any _ _ _ _ _ _ _ _ _ _ _ _).mono ?_
 rw [hb.out]
 rintro e x3 ⟨rfl, hb⟩
 have bx : Bxs w x3 [(w.heap.size, 48, [.int .i64 su, .int .i64 la, .int .i64 le]), (w.heap.size + 1, 139, [.int .i64 sp, .int .i64 kp, .int .i64 ki, .int .i64 kd, .int .i64 li, .int .i64 st, .int .i64 mo]), (w.heap.size + 1 + 1, 48, [.int .i64 0, .int .i64 0, .int .i64 0])] := (BX.out).below hb
 clear p0_0 p0_1 p0_2 z0 y0 p1_0 p1_1 p1_2 p1_3 p1_4 p1_5 p1_6 z1 y1 p2_0 p2_1 p2_2 z2 y2
 clear hb BX
 have BX := Lib.hid bx
 clear bx
 obtain ⟨p0_0, p0_1, p0_2, z0, y0⟩ := bl3 (BX.out.bl 0 _ _ _ rfl)
 obtain ⟨p1_0, p1_1, p1_2, p1_3, p1_4, p1_5, p1_6, z1, y1⟩ := bl7 (BX.out.bl 1 _ _ _ rfl)
 obtain ⟨p2_0, p2_1, p2_2, z2, y2⟩ := bl3 (BX.out.bl 2 _ _ _ rfl)
 go_wp2_with fail
 refine (pfall_lit su la le sp kp ki kd li st mo d c1 c2 c3 HZ _ su0 su1 la0 la1 le0 le1 sp0 sp1 kp0 kp1 ki0 ki1 kd0 kd1 li0 li1 st0 st1 mo0 mo1 d0 d1).mono ?_
 rintro e x4 ⟨rfl, hb⟩
 have bx : Bxs w x4 [(w.heap.size, 48, [.int .i64 su, .int .i64 la, .int .i64 le]), (w.heap.size + 1, 139, [.int .i64 sp, .int .i64 kp, .int .i64 ki, .int .i64 kd, .int .i64 li, .int .i64 st, .int .i64 mo]), (w.heap.size + 1 + 1, 48, [.int .i64 0, .int .i64 0, .int .i64 0])] := (BX.out).below hb
 clear p0_0 p0_1 p0_2 z0 y0 p1_0 p1_1 p1_2 p1_3 p1_4 p1_5 p1_6 z1 y1 p2_0 p2_1 p2_2 z2 y2
 clear hb BX
 have BX := Lib.hid bx
 clear bx
 obtain ⟨p0_0, p0_1, p0_2, z0, y0⟩ := bl3 (BX.out.bl 0 _ _ _ rfl)
 obtain ⟨p1_0, p1_1, p1_2, p1_3, p1_4, p1_5, p1_6, z1, y1⟩ := bl7 (BX.out.bl 1 _ _ _ rfl)
 obtain ⟨p2_0, p2_1, p2_2, z2, y2⟩ := bl3 (BX.out.bl 2 _ _ _ rfl)
 go_wp2_with fail
 refine bodyPost_ret (v := .agg #[.int .i64 c1, .int .i64 c2, .int .i64 c3]) (by simp [results, Tryz.results130, go_sem, *]) rfl ⟨rfl, ?_⟩
 exact ((((BX.out).set_ 2 0 rfl _).set_ 2 1 rfl _).set_ 2 2 rfl _).be
theorem psamp_lit (su la le sp kp ki kd li st mo u c1 c2 c3 : Int) (HZ : Hid (sampP ⟨su, la, le⟩ ⟨sp, kp, ki, kd, li, st, mo⟩ u = ⟨c1, c2, c3⟩)) (w : World) (su0 : -9223372036854775808 ≤ su) (su1 : su ≤ 9223372036854775807) (la0 : -9223372036854775808 ≤ la) (la1 : la ≤ 9223372036854775807) (le0 : -9223372036854775808 ≤ le) (le1 : le ≤ 9223372036854775807) (sp0 : -9223372036854775808 ≤ sp) (sp1 : sp ≤ 9223372036854775807) (kp0 : -9223372036854775808 ≤ kp) (kp1 : kp ≤ 9223372036854775807) (ki0 : -9223372036854775808 ≤ ki) (ki1 : ki ≤ 9223372036854775807) (kd0 : -9223372036854775808 ≤ kd) (kd1 : kd ≤ 9223372036854775807) (li0 : -9223372036854775808 ≤ li) (li1 : li ≤ 9223372036854775807) (st0 : -9223372036854775808 ≤ st) (st1 : st ≤ 9223372036854775807) (mo0 : -9223372036854775808 ≤ mo) (mo1 : mo ≤ 9223372036854775807) (u0 : -9223372036854775808 ≤ u) (u1 : u ≤ 9223372036854775807) :
   Calls Tryz.prog 130 #[.agg #[.int .i64 su, .int .i64 la, .int .i64 le], .agg #[.int .i64 sp, .int .i64 kp, .int .i64 ki, .int .i64 kd, .int .i64 li, .int .i64 st, .int .i64 mo], .int .i64 u] w fun e w' => e = .returned (.agg #[.int .i64 c1, .int .i64 c2, .int .i64 c3]) ∧ Below w.heap.size w w' := by
 have hz := HZ.out
 by_cases h : sp < u
 · rw [sampP, if_pos h] at hz
   exact psamp_t su la le sp kp ki kd li st mo u _ c1 c2 c3 (Lib.hid (by simp [h])) (Lib.hid rfl) (Lib.hid hz) w su0 su1 la0 la1 le0 le1 sp0 sp1 kp0 kp1 ki0 ki1 kd0 kd1 li0 li1 st0 st1 mo0 mo1 (sat_in _).1 (sat_in _).2 u0 u1
 · rw [sampP, if_neg h] at hz
   exact psamp_f su la le sp kp ki kd li st mo u _ c1 c2 c3 (Lib.hid (by simp [h])) (Lib.hid rfl) (Lib.hid hz) w su0 su1 la0 la1 le0 le1 sp0 sp1 kp0 kp1 ki0 ki1 kd0 kd1 li0 li1 st0 st1 mo0 mo1 (sat_in _).1 (sat_in _).2 u0 u1
end Go.Proofs.YtcffeokbipjaoaaGreat
