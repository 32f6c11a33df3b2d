/- SwingJoins is true of every four rows of numbers and every point, and changes nothing that it was given. -/
import Derived.Test.YtcbpocannmconaaSwj
import Derived.Test.YtcbpocannmconaaHelpc
import Derived.Test.YtcbpocannmconaaAny
import Derived.Test.YtcbpocannmconaaRowb
import Derived.Test.YtcbpocannmconaaRows
import Derived.WalkKit
import Derived.ProofKit
import Derived.OpenShut
import Derived.Deep.DeepCutAuto
import Derived.Deep.CutBlock
import Derived.BigQuiet
import Derived.Deep.QuietTactic
import Derived.Deep.RegionHeld3
namespace Go.Proofs.Ytcbpocannmconaa.swingJoins
open Go.ChangeShapes Go.WideShapes Go.ChangeAt Go.RowKit
set_option linter.unusedVariables false
theorem own : ownKnob Try.prog.godebug = none := by kernel_rfl
theorem laidOut : laidOutB Try.prog = true := by kernel_rfl
theorem reads : (Try.f6.params.toList.all fun t => Try.prog.readableRec t && decide (t < Try.prog.types.size)) = true := by kernel_rfl
set_option linter.unusedSimpArgs false
theorem A6of {A : Option Addr} {n c B S : Nat} (h : A = none ∧ n = 0 ∧ c = 0 ∨ ∃ g, B ≤ g ∧ g < S ∧ A = some ⟨g, 0, none⟩) : A = none ∧ n = 0 ∧ c = 0 ∨ ∃ ad, A = some ad := by
  rcases h with h | ⟨g, _, _, h⟩
  · exact .inl h
  · exact .inr ⟨_, h⟩
set_option maxRecDepth 100000 in
set_option maxHeartbeats 8000000 in
theorem walk (AU : Option Addr) (lu cu : Nat) (U : Nat → Int) (AL : Option Addr) (ll cl : Nat) (L : Nat → Int) (AV : Option Addr) (lv cv : Nat) (V : Nat → Int) (AM : Option Addr) (lm cm : Nat) (M : Nat → Int) (u v : Int) (w : World)
    (hlu : lu ≤ cu) (hcu : cu ≤ maxLen) (hU : SeqAt w w.heap.size AU lu 1 (fun i => [.int .i64 (U i)])) (hUo : ∀ i, -9223372036854775808 ≤ U i ∧ U i ≤ 9223372036854775807)
    (hll : ll ≤ cl) (hcl : cl ≤ maxLen) (hL : SeqAt w w.heap.size AL ll 1 (fun i => [.int .i64 (L i)])) (hLo : ∀ i, -9223372036854775808 ≤ L i ∧ L i ≤ 9223372036854775807)
    (hlv : lv ≤ cv) (hcv : cv ≤ maxLen) (hV : SeqAt w w.heap.size AV lv 1 (fun i => [.int .i64 (V i)])) (hVo : ∀ i, -9223372036854775808 ≤ V i ∧ V i ≤ 9223372036854775807)
    (hlm : lm ≤ cm) (hcm : cm ≤ maxLen) (hM : SeqAt w w.heap.size AM lm 1 (fun i => [.int .i64 (M i)])) (hMo : ∀ i, -9223372036854775808 ≤ M i ∧ M i ≤ 9223372036854775807)
    (u0 : -9223372036854775808 ≤ u) (u1 : u ≤ 9223372036854775807) (v0 : -9223372036854775808 ≤ v) (v1 : v ≤ 9223372036854775807) :
    Calls Try.prog 6 #[.slice AU lu cu, .slice AL ll cl, .slice AV lv cv, .slice AM lm cm, .int .i64 u, .int .i64 v] w fun e w' => e = .returned (.bool true) ∧ Below w.heap.size w w' := by
  unfold maxLen at hcu hcl hcv hcm
  have HU := Lib.hid hU
  have HL := Lib.hid hL
  have HV := Lib.hid hV
  have HM := Lib.hid hM
  clear hU hL hV hM hUo hLo hVo hMo
  go_enter Try.func6, Try.ntmps6
  go_wp2_with fail
  refine (awake12 _).mono ?_
  rintro e x1 ⟨rfl, hb1⟩
  have h1s := hb1.size
  have HU1 := Lib.hid (HU.out.up hb1 h1s)
  have HL1 := Lib.hid (HL.out.up hb1 h1s)
  have HB1 := Lib.hid hb1
  clear HU HL hb1
  go_wp2_with fail
  refine (way_any HU1.out HL1.out (by omega) (by omega)).mono ?_
  rintro e x2 ⟨v6, v7, n, rfl, hn, ho1, ho2, hb2⟩
  have OL := Lib.hid (OwP.of ho1)
  have HB2 := Lib.hid (HB1.out.trans (hb2.mono h1s))
  have h2s := HB2.out.size
  have HV2 := Lib.hid (HV.out.up HB2.out h2s)
  have HM2 := Lib.hid (HM.out.up HB2.out h2s)
  have n60 : n ≤ 60 := by omega
  have b12 := hb2.size
  clear hn hb2 HU1 HL1 HB1 HV HM ho1 ho2
  go_wp2_with fail
  refine (way_any HV2.out HM2.out (by omega) (by omega)).mono ?_
  rintro e x3 ⟨v8, v9, m, rfl, hm, ho3, ho4, hb3⟩
  have OM := Lib.hid (OwP.of ho3)
  have OL3 := Lib.hid (OL.out.below hb3)
  have HB3 := Lib.hid (HB2.out.trans (hb3.mono h2s))
  have h3s := HB3.out.size
  have m60 : m ≤ 60 := by omega
  have b23 := hb3.size
  clear hm hb3 HV2 HM2 HB2 ho3 ho4 OL
  obtain ⟨a, ha⟩ : ∃ a : Nat → Int, (fun i => clampZ (U i)) = a := ⟨_, rfl⟩
  obtain ⟨b, hb⟩ : ∃ b : Nat → Int, (fun i => clampZ (L i)) = b := ⟨_, rfl⟩
  obtain ⟨a', ha'⟩ : ∃ a : Nat → Int, (fun i => clampZ (V i)) = a := ⟨_, rfl⟩
  obtain ⟨b', hb'⟩ : ∃ b : Nat → Int, (fun i => clampZ (M i)) = b := ⟨_, rfl⟩
  rw [ha, hb] at OL3
  rw [ha', hb'] at OM
  clear ha hb ha' hb'
  obtain ⟨A8, c8, rfl, hp8, hA8⟩ := OM.out.form
  obtain ⟨A6, c6, rfl, hp6, hA6⟩ := OL3.out.form
  have P8 := Lib.hid hp8
  have P6 := Lib.hid hp6
  have HA8 := Lib.hid hA8
  have HA6 := Lib.hid hA6
  clear hp8 hp6 hA8 hA6
  go_upto_region 7 with (go_at_call 9; refine (at_any _ _ _).mono ?_; rintro e w1 ⟨rfl, rfl⟩)
  go_upto_region 8 with (first
    | (at_builtin; refine wpList_app rfl (.tmp 41) (.tmp 42) rfl rfl rfl (OwP.one (w := x3) (Nat.le_refl _) v u) (P6.out.below ((Below.refl _ _).alloc (Nat.le_refl _) _)) (A6of HA6.out) (by omega) (by simp) ?_; intro v4 w4 hown4 hg4; have HO4 := Lib.hid hown4; have HB4 := Lib.hid (((Below.refl x3.heap.size x3).alloc (Nat.le_refl _) (.cells #[.complex .f64 (wd v) (wd u)] 28)).trans ((OwP.one (w := x3) (Nat.le_refl _) v u).grew hg4 (Nat.le_refl _) (by simp))); have h4s := HB4.out.size; clear hown4 hg4)
    | (at_builtin; refine wpList_app rfl (.tmp 45) (.tmp 46) rfl rfl rfl (OwP.one (w := w4) (Nat.le_refl _) v u) (P8.out.below (HB4.out.alloc h4s _)) (A6of HA8.out) (by omega) (by simp) ?_; intro v5 w5 hown5 hg5; have HO5 := Lib.hid hown5; have HB5 := Lib.hid (((Below.refl w4.heap.size w4).alloc (Nat.le_refl _) (.cells #[.complex .f64 (wd v) (wd u)] 28)).trans ((OwP.one (w := w4) (Nat.le_refl _) v u).grew hg5 (Nat.le_refl _) (by simp))); have h5s := HB5.out.size; clear hown5 hg5))
  have HO45 := Lib.hid (HO4.out.below HB5.out)
  obtain ⟨A4, c4, rfl, hp4, hA4⟩ := HO45.out.form
  obtain ⟨A5, c5, rfl, hp5, hA5⟩ := HO5.out.form
  have P4 := Lib.hid hp4
  have P5 := Lib.hid hp5
  have HA4 := Lib.hid hA4
  have HA5 := Lib.hid hA5
  have HB6 := Lib.hid (HB4.out.trans (HB5.out.mono h4s))
  clear hp4 hp5 hA4 hA5 P6 P8 HA6 HA8 HO4 HO5 OL3 OM HO45 HB4 HB5
  go_upto_region 9 with (first
    | (go_at_call 20; refine (clone_any P4.out (A6of HA4.out) (Nat.le_refl _) (by omega)).mono ?_; rintro e w6 ⟨v6', rfl, hown6, hb6⟩; have HO6 := Lib.hid hown6; have HB7 := Lib.hid hb6; have h6s := hb6.size; clear hown6 hb6)
    | (at_builtin; refine wpList_app rfl (.tmp 49) (.tmp 50) rfl rfl rfl HO6.out (P5.out.below HB7.out) (A6of HA5.out) (by omega) h6s ?_; intro v8 w8 hown8 hg8; have HO8 := Lib.hid hown8; have HB8 := Lib.hid (HB7.out.trans (HO6.out.grew hg8 (Nat.le_refl _) h6s)); have h8s := HB8.out.size; clear hown8 hg8))
  have HP4 := Lib.hid (P4.out.below (HB8.out))
  have HP5 := Lib.hid (P5.out.below (HB8.out))
  obtain ⟨A8, c8, rfl, hp8, -⟩ := HO8.out.form
  have HP8 := Lib.hid hp8
  clear hp8 P4 P5 HA4 HA5 HB7 HO6 HO8
  have p1 : jn 1 (fun _ => clampZ v) a' 0 = jn 1 (fun _ => clampZ v) a 0 := by simp [jn]
  have p2 : jn 1 (fun _ => clampZ u) b' 0 = jn 1 (fun _ => clampZ u) b 0 := by simp [jn]
  obtain ⟨a1, ea1⟩ : ∃ f, jn 1 (fun _ => clampZ v) a = f := ⟨_, rfl⟩
  obtain ⟨b1, eb1⟩ : ∃ f, jn 1 (fun _ => clampZ u) b = f := ⟨_, rfl⟩
  obtain ⟨a2, ea2⟩ : ∃ f, jn 1 (fun _ => clampZ v) a' = f := ⟨_, rfl⟩
  obtain ⟨b2, eb2⟩ : ∃ f, jn 1 (fun _ => clampZ u) b' = f := ⟨_, rfl⟩
  rw [ea1, ea2] at HP8 p1
  rw [eb1, eb2] at HP8 p2
  rw [ea1, eb1] at HP4
  rw [ea2, eb2] at HP5
  clear ea1 eb1 ea2 eb2
  obtain ⟨n1, en1⟩ : ∃ k, 1 + n = k := ⟨_, rfl⟩
  obtain ⟨m1, em1⟩ : ∃ k, 1 + m = k := ⟨_, rfl⟩
  have n1a : 0 < n1 := by omega
  have n1b : n1 ≤ 61 := by omega
  have m1a : 0 < m1 := by omega
  have m1b : m1 ≤ 61 := by omega
  rw [en1, em1] at HP8
  rw [en1] at HP4
  rw [em1] at HP5
  rw [en1, em1]
  clear en1 em1
  obtain ⟨pu, epu⟩ : ∃ k, clampZ u = k := ⟨_, rfl⟩
  obtain ⟨pv, epv⟩ : ∃ k, clampZ v = k := ⟨_, rfl⟩
  have FU := wd_fl u
  have FV := wd_fl v
  have GU := clampZ_abs u
  have GV := clampZ_abs v
  rw [epu] at FU GU
  rw [epv] at FV GV
  have HFU := Lib.hid FU
  have HFV := Lib.hid FV
  clear FU FV epu epv
  have ej := area_join n1a m1a p1 p2
  have tj := turn_join pu pv n1a m1a p1 p2
  have fj := far_join (a := a1) (b := b1) (a' := a2) (b' := b2) n1 pu pv m1
  obtain ⟨X8, e8⟩ : ∃ z, areaS (jn n1 a1 a2) (jn n1 b1 b2) (n1 + m1) (n1 + m1) = z := ⟨_, rfl⟩
  obtain ⟨Y8, g8⟩ : ∃ z, turnS (jn n1 a1 a2) (jn n1 b1 b2) pu pv (n1 + m1) (n1 + m1) = z := ⟨_, rfl⟩
  obtain ⟨Z8, f8⟩ : ∃ z, farS (jn n1 a1 a2) (jn n1 b1 b2) pu pv (n1 + m1) = z := ⟨_, rfl⟩
  have K1 := Lib.hid (fun W => area_any (cap := c8) (w := W) (B := w8.heap.size) (A := A8) (len := n1 + m1) (a := jn n1 a1 a2) (b := jn n1 b1 b2))
  obtain ⟨X4, e4⟩ : ∃ z, areaS a1 b1 n1 n1 = z := ⟨_, rfl⟩
  obtain ⟨X5, e5⟩ : ∃ z, areaS a2 b2 m1 m1 = z := ⟨_, rfl⟩
  obtain ⟨Y4, g4⟩ : ∃ z, turnS a1 b1 pu pv n1 n1 = z := ⟨_, rfl⟩
  obtain ⟨Y5, g5⟩ : ∃ z, turnS a2 b2 pu pv m1 m1 = z := ⟨_, rfl⟩
  obtain ⟨Z4, f4⟩ : ∃ z, farS a1 b1 pu pv n1 = z := ⟨_, rfl⟩
  obtain ⟨Z5, f5⟩ : ∃ z, farS a2 b2 pu pv m1 = z := ⟨_, rfl⟩
  have x1' : -134140418588672 ≤ X4 ∧ X4 ≤ 134140418588672 := by
    obtain ⟨kb, ko, X, Y, -, -, hc⟩ := HP4.out n1a
    have := areaS_in (a := a1) (b := b1) (n := n1) (fun i hi => (hc i hi).2.2.2) n1 (Nat.le_refl _)
    rw [e4] at this; omega
  have x2' : -134140418588672 ≤ X5 ∧ X5 ≤ 134140418588672 := by
    obtain ⟨kb, ko, X, Y, -, -, hc⟩ := HP5.out m1a
    have := areaS_in (a := a2) (b := b2) (n := m1) (fun i hi => (hc i hi).2.2.2) m1 (Nat.le_refl _)
    rw [e5] at this; omega
  have y1' := turnS_in a1 b1 pu pv n1 n1
  have y2' := turnS_in a2 b2 pu pv m1 m1
  rw [g4] at y1'
  rw [g5] at y2'
  rw [e8, e4, e5] at ej
  rw [g8, g4, g5] at tj
  rw [f8, f4, f5] at fj
  have s1 : IntKind.i64.wrap (X4 + X5) = X8 := by rw [ej]; exact IntWalk.i64_in _ (by omega)
  have s2 : IntKind.i64.wrap (Y4 + Y5) = Y8 := by rw [tj]; exact IntWalk.i64_in _ (by omega)
  have E8 := Lib.hid e8
  have E4 := Lib.hid e4
  have E5 := Lib.hid e5
  have G8 := Lib.hid g8
  have G4 := Lib.hid g4
  have G5 := Lib.hid g5
  have F8 := Lib.hid f8
  have F4 := Lib.hid f4
  have F5 := Lib.hid f5
  have FJ := Lib.hid fj
  clear e8 e4 e5 g8 g4 g5 f8 f4 f5 ej tj fj x1' x2' y1' y2' p1 p2 K1
  have HBW := Lib.hid (HB3.out.trans ((HB6.out.trans (HB8.out.mono (by omega))).mono h3s))
  have hw8 : w.heap.size ≤ w8.heap.size := HBW.out.size
  clear HB3 HB6 HB8
  go_wp2_with fail
  refine (area_any HP8.out (by omega) (by omega)).mono ?_
  rw [E8.out]
  rintro e z1 ⟨rfl, hz⟩
  have Z1 : Hid (Below w8.heap.size w8 z1) := Lib.hid hz
  have z1s := Z1.out.size
  clear hz
  go_wp2_with fail
  refine (area_any (HP4.out.below (Z1.out.mono (by omega))) (by omega) (by omega)).mono ?_
  rw [E4.out]
  rintro e z2 ⟨rfl, hz⟩
  have Z2 : Hid (Below w8.heap.size w8 z2) := Lib.hid (Z1.out.trans (hz.mono z1s))
  have z2s := Z2.out.size
  clear hz Z1
  go_wp2_with fail
  refine (area_any (HP5.out.below (Z2.out.mono (by omega))) (by omega) (by omega)).mono ?_
  rw [E5.out]
  rintro e z3 ⟨rfl, hz⟩
  have Z3 : Hid (Below w8.heap.size w8 z3) := Lib.hid (Z2.out.trans (hz.mono z2s))
  have z3s := Z3.out.size
  clear hz Z2
  go_wp2_with fail
  refine (turns_any (HP8.out.below (Z3.out)) (by omega) HFU.out HFV.out GU GV (by omega)).mono ?_
  rw [G8.out]
  rintro e z4 ⟨rfl, hz⟩
  have Z4 : Hid (Below w8.heap.size w8 z4) := Lib.hid (Z3.out.trans (hz.mono z3s))
  have z4s := Z4.out.size
  clear hz Z3
  go_wp2_with fail
  refine (turns_any (HP4.out.below (Z4.out.mono (by omega))) (by omega) HFU.out HFV.out GU GV (by omega)).mono ?_
  rw [G4.out]
  rintro e z5 ⟨rfl, hz⟩
  have Z5 : Hid (Below w8.heap.size w8 z5) := Lib.hid (Z4.out.trans (hz.mono z4s))
  have z5s := Z5.out.size
  clear hz Z4
  go_wp2_with fail
  refine (turns_any (HP5.out.below (Z5.out.mono (by omega))) (by omega) HFU.out HFV.out GU GV (by omega)).mono ?_
  rw [G5.out]
  rintro e z6 ⟨rfl, hz⟩
  have Z6 : Hid (Below w8.heap.size w8 z6) := Lib.hid (Z5.out.trans (hz.mono z5s))
  have z6s := Z6.out.size
  clear hz Z5
  go_wp2_with fail
  refine (far_any (HP8.out.below (Z6.out)) (by omega) HFU.out HFV.out GU GV (by omega)).mono ?_
  rw [F8.out]
  rintro e z ⟨rfl, rfl⟩
  go_wp2_with fail
  refine (far_any (HP4.out.below (Z6.out.mono (by omega))) (by omega) HFU.out HFV.out GU GV (by omega)).mono ?_
  rw [F4.out]
  rintro e z ⟨rfl, rfl⟩
  go_wp2_with fail
  refine (far_any (HP5.out.below (Z6.out.mono (by omega))) (by omega) HFU.out HFV.out GU GV (by omega)).mono ?_
  rw [F5.out]
  rintro e z ⟨rfl, rfl⟩
  have fm : (if Z4 < Z5 then Z5 else Z4) = Z8 := by rw [FJ.out]; omega
  go_wp2_with fail
  go_ret
  exact ⟨rfl, HBW.out.trans (Z6.out.mono hw8)⟩
set_option maxRecDepth 100000 in
theorem lifted (os : Os) (started : os.Started) (H : Type) (enc : TypeId × Value → H) :
    ReturnsInHanded {} Try.checked os 6 .any (Rows.swingJoinsSpec.pre6 enc Try.prog Try.f6 Rows.swingJoinsRow.domain false) (Rows.swingJoinsSpec.post enc Try.prog Try.f6 false true false false) := by
  refine returnsInHanded_of_change (C := Try.checked) own started (by kernel_rfl) Try.func6
    (ChangeSpec.witness6 (enc := enc) (C := Try.checked) false ⟨#[], #[.slice none 0 0, .slice none 0 0, .slice none 0 0, .slice none 0 0, .int .i64 0, .int .i64 0], []⟩ 8 (by kernel_rfl) (by kernel_rfl) (by kernel_rfl) (by kernel_rfl)) ?_
  intro W base args ds gs before hval0 hW hcnd _
  have hval : ∀ (j : Nat) t v, Try.f6.params[j]? = some t → args[j]? = some v → Value.okWide Try.prog W .any base t v := hval0
  have hW' := hW
  obtain ⟨p, q, hA0, hV, rfl, hfz, hnd⟩ := hW
  have hA : DataW.TrodAll enc Try.prog W 0 (fun _ => true) true Try.f6.params.toList args.toList ds p := hA0
  rw [Try.params6] at hA hval
  obtain ⟨v0, vs0, d0, ds0, p0, q0, hargs, rfl, rfl, h0, r0⟩ := trodAll_cons hA
  obtain ⟨v1, vs1, d1, ds1, p1, q1, rfl, rfl, rfl, h1, r1⟩ := trodAll_cons r0
  obtain ⟨v2, vs2, d2, ds2, p2, q2, rfl, rfl, rfl, h2, r2⟩ := trodAll_cons r1
  obtain ⟨v3, vs3, d3, ds3, p3, q3, rfl, rfl, rfl, h3, r3⟩ := trodAll_cons r2
  obtain ⟨v4, vs4, d4, ds4, p4, q4, rfl, rfl, rfl, h4, r4⟩ := trodAll_cons r3
  obtain ⟨v5, vs5, d5, ds5, p5, q5, rfl, rfl, rfl, h5, r5⟩ := trodAll_cons r4
  obtain ⟨rfl, rfl, rfl⟩ := trodAll_nil r5
  obtain rfl : args = #[v0, v1, v2, v3, v4, v5] := by cases args; simp_all
  obtain ⟨rfl, rfl⟩ := trodVars_none hV
  obtain ⟨A0, len0, cap0, rfl⟩ := okWide_slice Try.underlying22 (hval 0 _ v0 rfl rfl)
  obtain ⟨fu0, g0⟩ := h0
  obtain ⟨s0, t0, Q0, u0, o0⟩ := open_i64s g0
  obtain ⟨A1, len1, cap1, rfl⟩ := okWide_slice Try.underlying22 (hval 1 _ v1 rfl rfl)
  obtain ⟨fu1, g1⟩ := h1
  obtain ⟨s1, t1, Q1, u1, o1⟩ := open_i64s g1
  obtain ⟨A2, len2, cap2, rfl⟩ := okWide_slice Try.underlying22 (hval 2 _ v2 rfl rfl)
  obtain ⟨fu2, g2⟩ := h2
  obtain ⟨s2, t2, Q2, u2, o2⟩ := open_i64s g2
  obtain ⟨A3, len3, cap3, rfl⟩ := okWide_slice Try.underlying22 (hval 3 _ v3 rfl rfl)
  obtain ⟨fu3, g3⟩ := h3
  obtain ⟨s3, t3, Q3, u3, o3⟩ := open_i64s g3
  obtain ⟨a4, rfl, rfl, rfl, w4⟩ := open_int Try.underlying2 (hval 4 _ v4 rfl rfl) h4
  obtain ⟨a5, rfl, rfl, rfl, w5⟩ := open_int Try.underlying2 (hval 5 _ v5 rfl rfl) h5
  clear hA0 hval0
  obtain ⟨l4, m4⟩ := wf_i64 w4
  obtain ⟨l5, m5⟩ := wf_i64 w5
  refine (walk A0 len0 cap0 Q0 A1 len1 cap1 Q1 A2 len2 cap2 Q2 A3 len3 cap3 Q3 a4 a5 W s0 t0 u0 o0 s1 t1 u1 o1 s2 t2 u2 o2 s3 t3 u3 o3 l4 m4 l5 m5).mono fun e W' ⟨he, hg⟩ => ?_
  subst he
  exact ⟨_, rfl, post_of_law hW' rfl laidOut reads rfl Try.underlying4 rfl rfl rfl hg⟩
theorem over : Rows.swingJoinsRow.holds Try.pinned (OpenSpec.ofChange Rows.swingJoinsSpec) :=
  OpenClaim.holds_of_wide 6 Try.f6 rfl rfl rfl rfl rfl rfl rfl ⟨rfl, rfl, rfl, rfl, rfl⟩ rfl rfl rfl rfl rfl (by kernel_rfl) Try.func6 (by kernel_rfl)
    (of_decide_eq_true (by kernel_rfl)) (by unfold Func.isWrapper; first | (rw [if_pos (by decide +kernel)]; kernel_rfl) | (rw [if_neg (by decide +kernel)]; exact ⟨rfl, rfl⟩))
    (fun os started H enc _ => lifted os started H enc)
theorem proved : Rows.SwingJoinsSaid := over
end Go.Proofs.Ytcbpocannmconaa.swingJoins
