/- SwingBoxes is true of every corner, every size, every two points and number of rounds, and changes nothing that it was given. -/
import Derived.Test.YtcbpocannmconaaSwm
import Derived.Test.YtcbpocannmconaaBxs
import Derived.Test.YtcbpocannmconaaHelpc
import Derived.Test.YtcbpocannmconaaAny
import Derived.Test.YtcbpocannmconaaRowb
import Derived.Test.YtcbpocannmconaaRows
import Derived.WalkKit
import Derived.ProofKit
import Derived.OpenShut
import Derived.Deep.DeepCutAuto
import Derived.Deep.CutBlock
import Derived.BigQuiet
import Derived.Deep.QuietTactic
import Derived.Deep.RegionHeld3
namespace Go.Proofs.Ytcbpocannmconaa.swingBoxes
open Go.ChangeShapes Go.WideShapes Go.ChangeAt Go.RowKit
set_option linter.unusedVariables false
theorem own : ownKnob Try.prog.godebug = none := by kernel_rfl
theorem laidOut : laidOutB Try.prog = true := by kernel_rfl
theorem reads : (Try.f5.params.toList.all fun t => Try.prog.readableRec t && decide (t < Try.prog.types.size)) = true := by kernel_rfl
set_option linter.unusedSimpArgs false
theorem tmod19 (u : Int) : -524288 < u.tmod 524288 ∧ u.tmod 524288 < 524288 := by
  have h := Int.tmod_lt_of_pos u (b := 524288) (by omega)
  have g := Int.tmod_lt_of_pos (-u) (b := 524288) (by omega)
  rw [Int.neg_tmod] at g
  omega
theorem clampZ_id {x : Int} (h0 : -1048576 ≤ x) (h1 : x ≤ 1048576) : clampZ x = x := by unfold clampZ; split <;> (try split) <;> omega
theorem OwP.four (w : World) {f g : Nat → Int} {x0 y0 x1 y1 x2 y2 x3 y3 : Nat} (h0 : Fl x0 (f 0)) (g0 : Fl y0 (g 0)) (h1 : Fl x1 (f 1)) (g1 : Fl y1 (g 1)) (h2 : Fl x2 (f 2)) (g2 : Fl y2 (g 2)) (h3 : Fl x3 (f 3)) (g3 : Fl y3 (g 3))
    (b0 : (f 0).natAbs ≤ 1048576) (b1 : (g 0).natAbs ≤ 1048576) (b2 : (f 1).natAbs ≤ 1048576) (b3 : (g 1).natAbs ≤ 1048576) (b4 : (f 2).natAbs ≤ 1048576) (b5 : (g 2).natAbs ≤ 1048576) (b6 : (f 3).natAbs ≤ 1048576) (b7 : (g 3).natAbs ≤ 1048576) :
    OwP (w.alloc (.cells #[.complex .f64 x0 y0, .complex .f64 x1 y1, .complex .f64 x2 y2, .complex .f64 x3 y3] 28)) w.heap.size (.slice (some ⟨w.heap.size, 0, none⟩) 4 4) 4 f g :=
  ⟨_, World.ownsRow_lit w #[.complex .f64 x0 y0, .complex .f64 x1 y1, .complex .f64 x2 y2, .complex .f64 x3 y3] 4 (Nat.le_refl _) (by decide) rfl, fun i hi => by
    match i, hi with
    | 0, _ => exact ⟨_, _, rfl, h0, g0, b0, b1⟩
    | 1, _ => exact ⟨_, _, rfl, h1, g1, b2, b3⟩
    | 2, _ => exact ⟨_, _, rfl, h2, g2, b4, b5⟩
    | 3, _ => exact ⟨_, _, rfl, h3, g3, b6, b7⟩⟩
theorem jn4 (f : Nat → Int) (k i : Nat) (hi : i < 4 * k + 4) : jn (4 * k) (fun i => f (i % 4)) f i = f (i % 4) := by
  unfold jn; split
  · rfl
  · congr 1; omega
set_option maxRecDepth 100000 in
set_option maxHeartbeats 8000000 in
theorem walk (u lv wi hi i_ up ti : Int) (right : Bool) (w : World)
    (u0 : -2147483648 ≤ u) (u1 : u ≤ 2147483647) (v0 : -2147483648 ≤ lv) (v1 : lv ≤ 2147483647) (wi0 : 0 ≤ wi) (wi1 : wi ≤ 65535) (hi0 : 0 ≤ hi) (hi1 : hi ≤ 65535) (i0 : 0 ≤ i_) (i1 : i_ ≤ 65535) (up0 : 0 ≤ up) (up1 : up ≤ 65535) (ti0 : 0 ≤ ti) (ti1 : ti ≤ 255) :
    Calls Try.prog 5 #[.int .i32 u, .int .i32 lv, .int .u16 wi, .int .u16 hi, .int .u16 i_, .int .u16 up, .int .u8 ti, .bool right] w fun e w' => e = .returned (.bool true) ∧ Below w.heap.size w w' := by
  obtain ⟨X, hX⟩ : ∃ X, u.tmod 524288 = X := ⟨_, rfl⟩
  obtain ⟨Y, hY⟩ : ∃ X, lv.tmod 524288 = X := ⟨_, rfl⟩
  have X0 := tmod19 u
  have Y0 := tmod19 lv
  rw [hX] at X0
  rw [hY] at Y0
  have cX : clampZ X = X := clampZ_id (by omega) (by omega)
  have cY : clampZ Y = Y := clampZ_id (by omega) (by omega)
  obtain ⟨W, hW⟩ : ∃ W, 2 + wi = W := ⟨_, rfl⟩
  obtain ⟨H, hH⟩ : ∃ W, 2 + hi = W := ⟨_, rfl⟩
  have W0 : 2 ≤ W ∧ W ≤ 65537 := by omega
  have H0 : 2 ≤ H ∧ H ≤ 65537 := by omega
  have kW : IntKind.i64.wrap (2 + wi) = W := by rw [hW]; exact IntWalk.i64_in _ (by omega)
  have kH : IntKind.i64.wrap (2 + hi) = H := by rw [hH]; exact IntWalk.i64_in _ (by omega)
  go_enter Try.func5, Try.ntmps5
  go_wp2_with fail
  refine (awake12 _).mono ?_
  rintro e x1 ⟨rfl, hb1⟩
  have h1s := hb1.size
  have HB1 := Lib.hid hb1
  clear hb1
  go_upto_region 4 with (go_at_call 9; refine (at_any _ _ _).mono ?_; rintro e w1 ⟨rfl, rfl⟩)
  obtain ⟨fw, hfw⟩ : ∃ z, floatOfInt .f64 W = z := ⟨_, rfl⟩
  obtain ⟨fh, hfh⟩ : ∃ z, floatOfInt .f64 H = z := ⟨_, rfl⟩
  have big : (2 : Nat) ^ 53 = 9007199254740992 := rfl
  have FW : Fl fw W := hfw ▸ Fl.int (by omega)
  have FH : Fl fh H := hfh ▸ Fl.int (by omega)
  have FX : Fl (wd X) X := (wd_fl X).of_eq cX
  have FY : Fl (wd Y) Y := (wd_fl Y).of_eq cY
  have cvt : ∀ (z : Int) W', (convert 2 33 (.int .i64 z)).run Try.prog W' = .ok (.float .f64 (floatOfInt .f64 z)) W' := fun z W' => run_convert_int_float W' _ _ _ _ _ (by rw [Try.underlying2]; rfl) Try.underlying33
  have cvW : ∀ W', (convert 2 33 (.int .i64 W)).run Try.prog W' = .ok (.float .f64 fw) W' := hfw ▸ cvt W
  have cvH : ∀ W', (convert 2 33 (.int .i64 H)).run Try.prog W' = .ok (.float .f64 fh) W' := hfh ▸ cvt H
  obtain ⟨⟨r1, j1, e1, fr1, fj1⟩, -⟩ := csum FX FY FW Fl.zero (by omega) (by omega) (by omega) (by omega)
  obtain ⟨⟨r2, j2, e2, fr2, fj2⟩, -⟩ := csum FX FY FW FH (by omega) (by omega) (by omega) (by omega)
  obtain ⟨⟨r3, j3, e3, fr3, fj3⟩, -⟩ := csum FX FY Fl.zero FH (by omega) (by omega) (by omega) (by omega)
  have k1 : ∀ W', (binOp .add 28 (.complex .f64 (wd X) (wd Y)) (.complex .f64 fw 0)).run Try.prog W' = .ok (.complex .f64 r1 j1) W' := fun W' => run_complex_sum W' _ (.inl rfl) _ _ _ _ _ _ _ _ e1
  have k2 : ∀ W', (binOp .add 28 (.complex .f64 (wd X) (wd Y)) (.complex .f64 fw fh)).run Try.prog W' = .ok (.complex .f64 r2 j2) W' := fun W' => run_complex_sum W' _ (.inl rfl) _ _ _ _ _ _ _ _ e2
  have k3 : ∀ W', (binOp .add 28 (.complex .f64 (wd X) (wd Y)) (.complex .f64 0 fh)).run Try.prog W' = .ok (.complex .f64 r3 j3) W' := fun W' => run_complex_sum W' _ (.inl rfl) _ _ _ _ _ _ _ _ e3
  have HO := Lib.hid (OwP.four x1 (f := cx X W) (g := cy Y H) FX FY fr1 (fj1.of_eq (by rw [Int.add_zero]; rfl)) fr2 fj2 (fr3.of_eq (by rw [Int.add_zero]; rfl)) fj3 (by show X.natAbs ≤ _; omega) (by show Y.natAbs ≤ _; omega) (by show (X + W).natAbs ≤ _; omega) (by show Y.natAbs ≤ _; omega) (by show (X + W).natAbs ≤ _; omega) (by show (Y + H).natAbs ≤ _; omega) (by show X.natAbs ≤ _; omega) (by show (Y + H).natAbs ≤ _; omega))
  have HB2 := Lib.hid ((Below.refl x1.heap.size x1).alloc (Nat.le_refl _) (.cells #[.complex .f64 (wd X) (wd Y), .complex .f64 r1 j1, .complex .f64 r2 j2, .complex .f64 r3 j3] 28))
  have HFX := Lib.hid FX
  have HFY := Lib.hid FY
  clear FX FY e1 e2 e3 fr1 fj1 fr2 fj2 fr3 fj3 cvt
  go_upto_region 6 with fail
  clear k1 k2 k3 cvW cvH
  cases right
  · go_upto_region 10 with fail
    obtain ⟨x2, ex2⟩ : ∃ x2, x1.alloc (.cells #[.complex .f64 (wd X) (wd Y), .complex .f64 r1 j1, .complex .f64 r2 j2, .complex .f64 r3 j3] 28) = x2 := ⟨_, rfl⟩
    rw [ex2]
    have HO2 := Lib.hid (ex2 ▸ HO.out)
    have HB3 := Lib.hid (ex2 ▸ HB2.out)
    clear ex2
    have bx : Box X Y W H (cx X W) (cy Y H) 1 := Box.left
    obtain ⟨f, ef⟩ : ∃ f, (cx X W) = f := ⟨_, rfl⟩
    obtain ⟨g, eg⟩ : ∃ f, (cy Y H) = f := ⟨_, rfl⟩
    rw [ef, eg] at bx
    have HO3 : Hid (OwP x2 x1.heap.size (.slice (some ⟨x1.heap.size, 0, none⟩) 4 4) 4 f g) := Lib.hid (by rw [← ef, ← eg]; exact HO2.out)
    clear HO2 HO ef eg
    have h2s : x1.heap.size ≤ x2.heap.size := HB3.out.size
    have BX := Lib.hid bx
    clear bx
    obtain ⟨T, hT⟩ : ∃ T, ti.tmod 5 = T := ⟨_, rfl⟩
    have T0 : 0 ≤ T ∧ T ≤ 4 := by have a1 := Int.tmod_nonneg 5 ti0; have a2 := Int.tmod_lt_of_pos ti (b := 5) (by omega); omega
    obtain ⟨N, hN⟩ : ∃ N : Nat, 1 + T = N := ⟨(1 + T).toNat, by omega⟩
    have N0 : 1 ≤ N ∧ N ≤ 5 := by omega
    have kN : IntKind.i64.wrap (1 + T) = (N : Int) := by rw [hN]; exact IntWalk.i64_in _ (by omega)
    obtain ⟨A8, c8, e8, hp8, hA8⟩ := HO3.out.form
    injection e8 with e8a e8b e8c
    subst e8a
    subst e8c
    have HP8 := Lib.hid hp8
    clear hp8 hA8 e8b
    go_wp2_with fail
    go_loopw [23, 68] (fun s23 s68 wr => ∃ k : Nat, k ≤ N ∧ s68 = .int .i64 k ∧ OwP wr x2.heap.size s23 (4 * k) (fun i => f (i % 4)) (fun i => g (i % 4)) ∧ Below x2.heap.size x2 wr) (fun _ i _ => N - (intOf i).toNat)
    case atStart => exact ⟨0, Nat.zero_le _, rfl, OwP.nil_ _ _ _ _, Below.refl _ _⟩
    case round =>
      obtain ⟨k, hk, rfl, ho, hbr⟩ := hrel
      have HL := Lib.hid ho
      have HBR := Lib.hid hbr
      clear ho hbr
      by_cases hlt : k < N
      · go_wp2_with (at_builtin; refine wpList_app rfl (.tmp 70) (.tmp 71) rfl rfl rfl HL.out (HP8.out.below HBR.out) (.inr ⟨_, rfl⟩) (by omega) (HBR.out.size) ?_; intro v5 w5 hown5 hg5; have HO5 := Lib.hid hown5; have HB5 := Lib.hid (HBR.out.trans (HL.out.grew hg5 (Nat.le_refl _) HBR.out.size)); clear hown5 hg5)
        go_roundw
        case rel => exact ⟨k + 1, by omega, by go_num, HO5.out.congr_ (fun i hi => by rw [jn4 f k i (by omega), jn4 g k i (by omega)]; exact ⟨rfl, rfl⟩), HB5.out⟩
        case measure => simp [intOf]; omega
      · obtain rfl : k = N := by omega
        obtain ⟨A9, c9, rfl, hp9, -⟩ := HL.out.form
        have HP9 := Lib.hid hp9
        clear hp9
        go_upto_region 16 with fail
        obtain ⟨W1, hW1⟩ : ∃ z, W - 1 = z := ⟨_, rfl⟩
        obtain ⟨H1, hH1⟩ : ∃ z, H - 1 = z := ⟨_, rfl⟩
        have wW1 : IntKind.i64.wrap (W - 1) = W1 := by rw [hW1]; exact IntWalk.i64_in _ (by omega)
        have wH1 : IntKind.i64.wrap (H - 1) = H1 := by rw [hH1]; exact IntWalk.i64_in _ (by omega)
        obtain ⟨A1, hA1⟩ : ∃ z, i_.tmod W1 = z := ⟨_, rfl⟩
        obtain ⟨B1, hB1⟩ : ∃ z, up.tmod H1 = z := ⟨_, rfl⟩
        obtain ⟨B2, hB2⟩ : ∃ z, up.tmod H = z := ⟨_, rfl⟩
        have A10 : 0 ≤ A1 ∧ A1 < W1 := by have a1 := Int.tmod_nonneg W1 i0; have a2 := Int.tmod_lt_of_pos i_ (b := W1) (by omega); omega
        have B10 : 0 ≤ B1 ∧ B1 < H1 := by have a1 := Int.tmod_nonneg H1 up0; have a2 := Int.tmod_lt_of_pos up (b := H1) (by omega); omega
        have B20 : 0 ≤ B2 ∧ B2 < H := by have a1 := Int.tmod_nonneg H up0; have a2 := Int.tmod_lt_of_pos up (b := H) (by omega); omega
        obtain ⟨A, hA⟩ : ∃ z, 1 + A1 = z := ⟨_, rfl⟩
        obtain ⟨B, hB⟩ : ∃ z, 1 + B1 = z := ⟨_, rfl⟩
        obtain ⟨W2, hW2⟩ : ∃ z, W + 1 = z := ⟨_, rfl⟩
        obtain ⟨O, hO⟩ : ∃ z, W2 + i_ = z := ⟨_, rfl⟩
        have wA : IntKind.i64.wrap (1 + A1) = A := by rw [hA]; exact IntWalk.i64_in _ (by omega)
        have wB : IntKind.i64.wrap (1 + B1) = B := by rw [hB]; exact IntWalk.i64_in _ (by omega)
        have wW2 : IntKind.i64.wrap (W + 1) = W2 := by rw [hW2]; exact IntWalk.i64_in _ (by omega)
        have wO : IntKind.i64.wrap (W2 + i_) = O := by rw [hO]; exact IntWalk.i64_in _ (by omega)
        have nW1 : ¬ W1 = 0 := by omega
        have nH1 : ¬ H1 = 0 := by omega
        have nH : ¬ H = 0 := by omega
        obtain ⟨fa, hfa⟩ : ∃ z, floatOfInt .f64 A = z := ⟨_, rfl⟩
        obtain ⟨fb, hfb⟩ : ∃ z, floatOfInt .f64 B = z := ⟨_, rfl⟩
        obtain ⟨fo, hfo⟩ : ∃ z, floatOfInt .f64 O = z := ⟨_, rfl⟩
        obtain ⟨fc, hfc⟩ : ∃ z, floatOfInt .f64 B2 = z := ⟨_, rfl⟩
        have cvt : ∀ (z : Int) W', (convert 2 33 (.int .i64 z)).run Try.prog W' = .ok (.float .f64 (floatOfInt .f64 z)) W' := fun z W' => run_convert_int_float W' _ _ _ _ _ (by rw [Try.underlying2]; rfl) Try.underlying33
        have FA : Fl fa A := hfa ▸ Fl.int (by omega)
        have FB : Fl fb B := hfb ▸ Fl.int (by omega)
        have FO : Fl fo O := hfo ▸ Fl.int (by omega)
        have FC : Fl fc B2 := hfc ▸ Fl.int (by omega)
        have cva : ∀ W', (convert 2 33 (.int .i64 A)).run Try.prog W' = .ok (.float .f64 fa) W' := hfa ▸ cvt A
        have cvb : ∀ W', (convert 2 33 (.int .i64 B)).run Try.prog W' = .ok (.float .f64 fb) W' := hfb ▸ cvt B
        have cvo : ∀ W', (convert 2 33 (.int .i64 O)).run Try.prog W' = .ok (.float .f64 fo) W' := hfo ▸ cvt O
        have cvc : ∀ W', (convert 2 33 (.int .i64 B2)).run Try.prog W' = .ok (.float .f64 fc) W' := hfc ▸ cvt B2
        obtain ⟨⟨r4, j4, e4, fr4, fj4⟩, -⟩ := csum HFX.out HFY.out FA FB (by omega) (by omega) (by omega) (by omega)
        obtain ⟨⟨r5, j5, e5, fr5, fj5⟩, -⟩ := csum HFX.out HFY.out FO FC (by omega) (by omega) (by omega) (by omega)
        have k4 : ∀ W', (binOp .add 28 (.complex .f64 (wd X) (wd Y)) (.complex .f64 fa fb)).run Try.prog W' = .ok (.complex .f64 r4 j4) W' := fun W' => run_complex_sum W' _ (.inl rfl) _ _ _ _ _ _ _ _ e4
        have k5 : ∀ W', (binOp .add 28 (.complex .f64 (wd X) (wd Y)) (.complex .f64 fo fc)).run Try.prog W' = .ok (.complex .f64 r5 j5) W' := fun W' => run_complex_sum W' _ (.inl rfl) _ _ _ _ _ _ _ _ e5
        have eA := area_box BX.out k
        have tI := turn_box (p := X + A) (q := Y + B) BX.out k (by omega) (by omega) (by omega)
        have tO := turn_box (p := X + O) (q := Y + B2) BX.out k (by omega) (by omega) (by omega)
        have eF := far_box BX.out k (by omega)
        rw [if_pos (by omega)] at tI
        rw [if_neg (by omega)] at tO
        obtain ⟨E, hE⟩ : ∃ z, 2 * (1 * (k : Int)) * W * H = z := ⟨_, rfl⟩
        rw [hE] at eA
        have EA := Lib.hid eA
        have TI := Lib.hid tI
        have TO := Lib.hid tO
        have EF := Lib.hid eF
        have F4 := Lib.hid fr4
        have G4 := Lib.hid fj4
        have F5 := Lib.hid fr5
        have G5 := Lib.hid fj5
        have HX := Lib.hid (show (X + A).natAbs ≤ 1048576 ∧ (Y + B).natAbs ≤ 1048576 ∧ (X + O).natAbs ≤ 1048576 ∧ (Y + B2).natAbs ≤ 1048576 ∧ X.natAbs ≤ 1048576 ∧ Y.natAbs ≤ 1048576 by omega)
        clear e4 e5 fr4 fj4 fr5 fj5 FA FB FO FC cvt hfa hfb hfo hfc eA tI tO eF
        go_upto_region 17 with (go_quiet (fail))
        go_upto_region 18 with (go_quiet (fail))
        obtain ⟨xa, xb, xc, xd, xe, xf⟩ := HX.out
        refine wp_worldx (fun wx => Below x2.heap.size x2 wx ∧ OwP wx x2.heap.size (.slice A9 (4 * k) c9) (4 * k) (fun i => f (i % 4)) (fun i => g (i % 4))) ⟨by first | exact HBR.out | exact HBR.out.drew | exact bdrewN HBR.out _, by first | exact HL.out | exact (show OwP wr x2.heap.size (.slice A9 (4 * k) c9) (4 * k) (fun i => f (i % 4)) (fun i => g (i % 4)) from HL.out)⟩ ?_
        rintro z0 ⟨hz0, ho0⟩
        obtain ⟨A10', c10, e10, hp10, -⟩ := ho0.form
        injection e10 with e10a e10b e10c
        subst e10a
        subst e10c
        have HZ := Lib.hid hp10
        have Z0 := Lib.hid hz0
        have z0s := hz0.size
        clear hz0 ho0 hp10 HL HBR HP9
        have w1 : IntKind.i64.wrap (1 * (k : Int)) = 1 * (k : Int) := IntWalk.i64_in _ (by omega)
        have w1n : IntKind.i64.wrap (-(k : Int)) = -(k : Int) := IntWalk.i64_in _ (by omega)
        obtain ⟨M1, hM1⟩ : ∃ z, 2 * (k : Int) = z := ⟨_, rfl⟩
        have w2 : IntKind.i64.wrap (2 * (k : Int)) = M1 := by rw [hM1]; exact IntWalk.i64_in _ (by omega)
        have bM2 := abs_mul (a := M1) (b := W) (k := 10) (m := 65537) (by omega) (by omega)
        obtain ⟨M2, hM2⟩ : ∃ z, M1 * W = z := ⟨_, rfl⟩
        rw [hM2] at bM2
        have w3 : IntKind.i64.wrap (M1 * W) = M2 := by rw [hM2]; exact IntWalk.i64_in _ (by omega)
        have bM3 := abs_mul (a := M2) (b := H) (k := 10 * 65537) (m := 65537) (by omega) (by omega)
        have hE2 : M2 * H = E := by rw [← hM2, ← hM1, ← hE]; rw [Int.one_mul]
        rw [hE2] at bM3
        have w4 : IntKind.i64.wrap (M2 * H) = E := by rw [hE2]; exact IntWalk.i64_in _ (by omega)
        have bW := abs_mul (a := W) (b := W) (k := 65537) (m := 65537) (by omega) (by omega)
        have bH := abs_mul (a := H) (b := H) (k := 65537) (m := 65537) (by omega) (by omega)
        have w5 : IntKind.i64.wrap (W * W) = W * W := IntWalk.i64_in _ (by omega)
        have w6 : IntKind.i64.wrap (H * H) = H * H := IntWalk.i64_in _ (by omega)
        have w7 : IntKind.i64.wrap (W * W + H * H) = W * W + H * H := IntWalk.i64_in _ (by omega)
        clear bM2 bM3 bW bH hM2 hE2 hE
        go_wp2_with fail
        refine (area_any HZ.out (Nat.le_refl _) (by omega)).mono ?_
        rw [EA.out]
        rintro e z1 ⟨rfl, hz1⟩
        have z1s := hz1.size
        have Z1 := Lib.hid hz1
        clear hz1
        go_wp2_with fail
        refine (turns_any (HZ.out.below Z1.out) z1s F4.out G4.out xa xb (by omega)).mono ?_
        rw [TI.out]
        rintro e z2 ⟨rfl, hz2⟩
        have Z2 : Hid (Below z0.heap.size z0 z2) := Lib.hid (Z1.out.trans (hz2.mono z1s))
        have z2s := Z2.out.size
        clear hz2 Z1
        go_wp2_with fail
        refine (turns_any (HZ.out.below Z2.out) z2s F5.out G5.out xc xd (by omega)).mono ?_
        rw [TO.out]
        rintro e z3 ⟨rfl, hz3⟩
        have Z3 : Hid (Below z0.heap.size z0 z3) := Lib.hid (Z2.out.trans (hz3.mono z2s))
        have z3s := Z3.out.size
        clear hz3 Z2
        go_wp2_with fail
        refine (far_any (HZ.out.below Z3.out) z3s HFX.out HFY.out xe xf (by omega)).mono ?_
        rw [EF.out]
        rintro e z4 ⟨rfl, rfl⟩
        go_wp2_with fail
        go_ret
        exact ⟨rfl, (HB1.out.trans (HB3.out.mono h1s)).trans ((Z0.out.trans (Z3.out.mono z0s)).mono (Nat.le_trans h1s h2s))⟩
  · go_upto_region 10 with (go_at_call 21; refine (reverse_any HO.out (by simp) (by omega)).mono ?_; rintro e x2 ⟨rfl, ho2, hb2⟩; have HO2 := Lib.hid ho2; have HB3 := Lib.hid (HB2.out.trans (hb2.mono (Nat.le_refl _))); clear ho2 hb2)
    have bx : Box X Y W H (fun i => cx X W (4 - 1 - i)) (fun i => cy Y H (4 - 1 - i)) (-1) := Box.right
    obtain ⟨f, ef⟩ : ∃ f, (fun i => cx X W (4 - 1 - i)) = f := ⟨_, rfl⟩
    obtain ⟨g, eg⟩ : ∃ f, (fun i => cy Y H (4 - 1 - i)) = f := ⟨_, rfl⟩
    rw [ef, eg] at bx
    have HO3 : Hid (OwP x2 x1.heap.size (.slice (some ⟨x1.heap.size, 0, none⟩) 4 4) 4 f g) := Lib.hid (by rw [← ef, ← eg]; exact HO2.out)
    clear HO2 HO ef eg
    have h2s : x1.heap.size ≤ x2.heap.size := HB3.out.size
    have BX := Lib.hid bx
    clear bx
    obtain ⟨T, hT⟩ : ∃ T, ti.tmod 5 = T := ⟨_, rfl⟩
    have T0 : 0 ≤ T ∧ T ≤ 4 := by have a1 := Int.tmod_nonneg 5 ti0; have a2 := Int.tmod_lt_of_pos ti (b := 5) (by omega); omega
    obtain ⟨N, hN⟩ : ∃ N : Nat, 1 + T = N := ⟨(1 + T).toNat, by omega⟩
    have N0 : 1 ≤ N ∧ N ≤ 5 := by omega
    have kN : IntKind.i64.wrap (1 + T) = (N : Int) := by rw [hN]; exact IntWalk.i64_in _ (by omega)
    obtain ⟨A8, c8, e8, hp8, hA8⟩ := HO3.out.form
    injection e8 with e8a e8b e8c
    subst e8a
    subst e8c
    have HP8 := Lib.hid hp8
    clear hp8 hA8 e8b
    go_wp2_with fail
    go_loopw [23, 68] (fun s23 s68 wr => ∃ k : Nat, k ≤ N ∧ s68 = .int .i64 k ∧ OwP wr x2.heap.size s23 (4 * k) (fun i => f (i % 4)) (fun i => g (i % 4)) ∧ Below x2.heap.size x2 wr) (fun _ i _ => N - (intOf i).toNat)
    case atStart => exact ⟨0, Nat.zero_le _, rfl, OwP.nil_ _ _ _ _, Below.refl _ _⟩
    case round =>
      obtain ⟨k, hk, rfl, ho, hbr⟩ := hrel
      have HL := Lib.hid ho
      have HBR := Lib.hid hbr
      clear ho hbr
      by_cases hlt : k < N
      · go_wp2_with (at_builtin; refine wpList_app rfl (.tmp 70) (.tmp 71) rfl rfl rfl HL.out (HP8.out.below HBR.out) (.inr ⟨_, rfl⟩) (by omega) (HBR.out.size) ?_; intro v5 w5 hown5 hg5; have HO5 := Lib.hid hown5; have HB5 := Lib.hid (HBR.out.trans (HL.out.grew hg5 (Nat.le_refl _) HBR.out.size)); clear hown5 hg5)
        go_roundw
        case rel => exact ⟨k + 1, by omega, by go_num, HO5.out.congr_ (fun i hi => by rw [jn4 f k i (by omega), jn4 g k i (by omega)]; exact ⟨rfl, rfl⟩), HB5.out⟩
        case measure => simp [intOf]; omega
      · obtain rfl : k = N := by omega
        obtain ⟨A9, c9, rfl, hp9, -⟩ := HL.out.form
        have HP9 := Lib.hid hp9
        clear hp9
        go_upto_region 16 with fail
        obtain ⟨W1, hW1⟩ : ∃ z, W - 1 = z := ⟨_, rfl⟩
        obtain ⟨H1, hH1⟩ : ∃ z, H - 1 = z := ⟨_, rfl⟩
        have wW1 : IntKind.i64.wrap (W - 1) = W1 := by rw [hW1]; exact IntWalk.i64_in _ (by omega)
        have wH1 : IntKind.i64.wrap (H - 1) = H1 := by rw [hH1]; exact IntWalk.i64_in _ (by omega)
        obtain ⟨A1, hA1⟩ : ∃ z, i_.tmod W1 = z := ⟨_, rfl⟩
        obtain ⟨B1, hB1⟩ : ∃ z, up.tmod H1 = z := ⟨_, rfl⟩
        obtain ⟨B2, hB2⟩ : ∃ z, up.tmod H = z := ⟨_, rfl⟩
        have A10 : 0 ≤ A1 ∧ A1 < W1 := by have a1 := Int.tmod_nonneg W1 i0; have a2 := Int.tmod_lt_of_pos i_ (b := W1) (by omega); omega
        have B10 : 0 ≤ B1 ∧ B1 < H1 := by have a1 := Int.tmod_nonneg H1 up0; have a2 := Int.tmod_lt_of_pos up (b := H1) (by omega); omega
        have B20 : 0 ≤ B2 ∧ B2 < H := by have a1 := Int.tmod_nonneg H up0; have a2 := Int.tmod_lt_of_pos up (b := H) (by omega); omega
        obtain ⟨A, hA⟩ : ∃ z, 1 + A1 = z := ⟨_, rfl⟩
        obtain ⟨B, hB⟩ : ∃ z, 1 + B1 = z := ⟨_, rfl⟩
        obtain ⟨W2, hW2⟩ : ∃ z, W + 1 = z := ⟨_, rfl⟩
        obtain ⟨O, hO⟩ : ∃ z, W2 + i_ = z := ⟨_, rfl⟩
        have wA : IntKind.i64.wrap (1 + A1) = A := by rw [hA]; exact IntWalk.i64_in _ (by omega)
        have wB : IntKind.i64.wrap (1 + B1) = B := by rw [hB]; exact IntWalk.i64_in _ (by omega)
        have wW2 : IntKind.i64.wrap (W + 1) = W2 := by rw [hW2]; exact IntWalk.i64_in _ (by omega)
        have wO : IntKind.i64.wrap (W2 + i_) = O := by rw [hO]; exact IntWalk.i64_in _ (by omega)
        have nW1 : ¬ W1 = 0 := by omega
        have nH1 : ¬ H1 = 0 := by omega
        have nH : ¬ H = 0 := by omega
        obtain ⟨fa, hfa⟩ : ∃ z, floatOfInt .f64 A = z := ⟨_, rfl⟩
        obtain ⟨fb, hfb⟩ : ∃ z, floatOfInt .f64 B = z := ⟨_, rfl⟩
        obtain ⟨fo, hfo⟩ : ∃ z, floatOfInt .f64 O = z := ⟨_, rfl⟩
        obtain ⟨fc, hfc⟩ : ∃ z, floatOfInt .f64 B2 = z := ⟨_, rfl⟩
        have cvt : ∀ (z : Int) W', (convert 2 33 (.int .i64 z)).run Try.prog W' = .ok (.float .f64 (floatOfInt .f64 z)) W' := fun z W' => run_convert_int_float W' _ _ _ _ _ (by rw [Try.underlying2]; rfl) Try.underlying33
        have FA : Fl fa A := hfa ▸ Fl.int (by omega)
        have FB : Fl fb B := hfb ▸ Fl.int (by omega)
        have FO : Fl fo O := hfo ▸ Fl.int (by omega)
        have FC : Fl fc B2 := hfc ▸ Fl.int (by omega)
        have cva : ∀ W', (convert 2 33 (.int .i64 A)).run Try.prog W' = .ok (.float .f64 fa) W' := hfa ▸ cvt A
        have cvb : ∀ W', (convert 2 33 (.int .i64 B)).run Try.prog W' = .ok (.float .f64 fb) W' := hfb ▸ cvt B
        have cvo : ∀ W', (convert 2 33 (.int .i64 O)).run Try.prog W' = .ok (.float .f64 fo) W' := hfo ▸ cvt O
        have cvc : ∀ W', (convert 2 33 (.int .i64 B2)).run Try.prog W' = .ok (.float .f64 fc) W' := hfc ▸ cvt B2
        obtain ⟨⟨r4, j4, e4, fr4, fj4⟩, -⟩ := csum HFX.out HFY.out FA FB (by omega) (by omega) (by omega) (by omega)
        obtain ⟨⟨r5, j5, e5, fr5, fj5⟩, -⟩ := csum HFX.out HFY.out FO FC (by omega) (by omega) (by omega) (by omega)
        have k4 : ∀ W', (binOp .add 28 (.complex .f64 (wd X) (wd Y)) (.complex .f64 fa fb)).run Try.prog W' = .ok (.complex .f64 r4 j4) W' := fun W' => run_complex_sum W' _ (.inl rfl) _ _ _ _ _ _ _ _ e4
        have k5 : ∀ W', (binOp .add 28 (.complex .f64 (wd X) (wd Y)) (.complex .f64 fo fc)).run Try.prog W' = .ok (.complex .f64 r5 j5) W' := fun W' => run_complex_sum W' _ (.inl rfl) _ _ _ _ _ _ _ _ e5
        have eA := area_box BX.out k
        have tI := turn_box (p := X + A) (q := Y + B) BX.out k (by omega) (by omega) (by omega)
        have tO := turn_box (p := X + O) (q := Y + B2) BX.out k (by omega) (by omega) (by omega)
        have eF := far_box BX.out k (by omega)
        rw [if_pos (by omega)] at tI
        rw [if_neg (by omega)] at tO
        obtain ⟨E, hE⟩ : ∃ z, 2 * ((-1) * (k : Int)) * W * H = z := ⟨_, rfl⟩
        rw [hE] at eA
        have EA := Lib.hid eA
        have TI := Lib.hid tI
        have TO := Lib.hid tO
        have EF := Lib.hid eF
        have F4 := Lib.hid fr4
        have G4 := Lib.hid fj4
        have F5 := Lib.hid fr5
        have G5 := Lib.hid fj5
        have HX := Lib.hid (show (X + A).natAbs ≤ 1048576 ∧ (Y + B).natAbs ≤ 1048576 ∧ (X + O).natAbs ≤ 1048576 ∧ (Y + B2).natAbs ≤ 1048576 ∧ X.natAbs ≤ 1048576 ∧ Y.natAbs ≤ 1048576 by omega)
        clear e4 e5 fr4 fj4 fr5 fj5 FA FB FO FC cvt hfa hfb hfo hfc eA tI tO eF
        go_upto_region 17 with (go_quiet (fail))
        go_upto_region 18 with (go_quiet (fail))
        obtain ⟨xa, xb, xc, xd, xe, xf⟩ := HX.out
        refine wp_worldx (fun wx => Below x2.heap.size x2 wx ∧ OwP wx x2.heap.size (.slice A9 (4 * k) c9) (4 * k) (fun i => f (i % 4)) (fun i => g (i % 4))) ⟨by first | exact HBR.out | exact HBR.out.drew | exact bdrewN HBR.out _, by first | exact HL.out | exact (show OwP wr x2.heap.size (.slice A9 (4 * k) c9) (4 * k) (fun i => f (i % 4)) (fun i => g (i % 4)) from HL.out)⟩ ?_
        rintro z0 ⟨hz0, ho0⟩
        obtain ⟨A10', c10, e10, hp10, -⟩ := ho0.form
        injection e10 with e10a e10b e10c
        subst e10a
        subst e10c
        have HZ := Lib.hid hp10
        have Z0 := Lib.hid hz0
        have z0s := hz0.size
        clear hz0 ho0 hp10 HL HBR HP9
        have w1 : IntKind.i64.wrap ((-1) * (k : Int)) = (-1) * (k : Int) := IntWalk.i64_in _ (by omega)
        have w1n : IntKind.i64.wrap (-(k : Int)) = -(k : Int) := IntWalk.i64_in _ (by omega)
        obtain ⟨M1, hM1⟩ : ∃ z, 2 * (-(k : Int)) = z := ⟨_, rfl⟩
        have w2 : IntKind.i64.wrap (2 * (-(k : Int))) = M1 := by rw [hM1]; exact IntWalk.i64_in _ (by omega)
        have bM2 := abs_mul (a := M1) (b := W) (k := 10) (m := 65537) (by omega) (by omega)
        obtain ⟨M2, hM2⟩ : ∃ z, M1 * W = z := ⟨_, rfl⟩
        rw [hM2] at bM2
        have w3 : IntKind.i64.wrap (M1 * W) = M2 := by rw [hM2]; exact IntWalk.i64_in _ (by omega)
        have bM3 := abs_mul (a := M2) (b := H) (k := 10 * 65537) (m := 65537) (by omega) (by omega)
        have hE2 : M2 * H = E := by rw [← hM2, ← hM1, ← hE]; rw [Int.neg_mul, Int.one_mul]
        rw [hE2] at bM3
        have w4 : IntKind.i64.wrap (M2 * H) = E := by rw [hE2]; exact IntWalk.i64_in _ (by omega)
        have bW := abs_mul (a := W) (b := W) (k := 65537) (m := 65537) (by omega) (by omega)
        have bH := abs_mul (a := H) (b := H) (k := 65537) (m := 65537) (by omega) (by omega)
        have w5 : IntKind.i64.wrap (W * W) = W * W := IntWalk.i64_in _ (by omega)
        have w6 : IntKind.i64.wrap (H * H) = H * H := IntWalk.i64_in _ (by omega)
        have w7 : IntKind.i64.wrap (W * W + H * H) = W * W + H * H := IntWalk.i64_in _ (by omega)
        clear bM2 bM3 bW bH hM2 hE2 hE
        go_wp2_with fail
        refine (area_any HZ.out (Nat.le_refl _) (by omega)).mono ?_
        rw [EA.out]
        rintro e z1 ⟨rfl, hz1⟩
        have z1s := hz1.size
        have Z1 := Lib.hid hz1
        clear hz1
        go_wp2_with fail
        refine (turns_any (HZ.out.below Z1.out) z1s F4.out G4.out xa xb (by omega)).mono ?_
        rw [TI.out]
        rintro e z2 ⟨rfl, hz2⟩
        have Z2 : Hid (Below z0.heap.size z0 z2) := Lib.hid (Z1.out.trans (hz2.mono z1s))
        have z2s := Z2.out.size
        clear hz2 Z1
        go_wp2_with fail
        refine (turns_any (HZ.out.below Z2.out) z2s F5.out G5.out xc xd (by omega)).mono ?_
        rw [TO.out]
        rintro e z3 ⟨rfl, hz3⟩
        have Z3 : Hid (Below z0.heap.size z0 z3) := Lib.hid (Z2.out.trans (hz3.mono z2s))
        have z3s := Z3.out.size
        clear hz3 Z2
        go_wp2_with fail
        refine (far_any (HZ.out.below Z3.out) z3s HFX.out HFY.out xe xf (by omega)).mono ?_
        rw [EF.out]
        rintro e z4 ⟨rfl, rfl⟩
        go_wp2_with fail
        go_ret
        exact ⟨rfl, (HB1.out.trans (HB3.out.mono h1s)).trans ((Z0.out.trans (Z3.out.mono z0s)).mono (Nat.le_trans h1s h2s))⟩
set_option maxRecDepth 100000 in
theorem lifted (os : Os) (started : os.Started) (H : Type) (enc : TypeId × Value → H) :
    ReturnsInHanded {} Try.checked os 5 .any (Rows.swingBoxesSpec.pre6 enc Try.prog Try.f5 Rows.swingBoxesRow.domain false) (Rows.swingBoxesSpec.post enc Try.prog Try.f5 false true false false) := by
  refine returnsInHanded_of_change (C := Try.checked) own started (by kernel_rfl) Try.func5
    (ChangeSpec.witness6 (enc := enc) (C := Try.checked) false ⟨#[], #[.int .i32 0, .int .i32 0, .int .u16 0, .int .u16 0, .int .u16 0, .int .u16 0, .int .u8 0, .bool false], []⟩ 8 (by kernel_rfl) (by kernel_rfl) (by kernel_rfl) (by kernel_rfl)) ?_
  intro W base args ds gs before hval0 hW hcnd _
  have hval : ∀ (j : Nat) t v, Try.f5.params[j]? = some t → args[j]? = some v → Value.okWide Try.prog W .any base t v := hval0
  have hW' := hW
  obtain ⟨p, q, hA0, hV, rfl, hfz, hnd⟩ := hW
  have hA : DataW.TrodAll enc Try.prog W 0 (fun _ => true) true Try.f5.params.toList args.toList ds p := hA0
  rw [Try.params5] at hA hval
  obtain ⟨v0, vs0, d0, ds0, p0, q0, hargs, rfl, rfl, h0, r0⟩ := trodAll_cons hA
  obtain ⟨v1, vs1, d1, ds1, p1, q1, rfl, rfl, rfl, h1, r1⟩ := trodAll_cons r0
  obtain ⟨v2, vs2, d2, ds2, p2, q2, rfl, rfl, rfl, h2, r2⟩ := trodAll_cons r1
  obtain ⟨v3, vs3, d3, ds3, p3, q3, rfl, rfl, rfl, h3, r3⟩ := trodAll_cons r2
  obtain ⟨v4, vs4, d4, ds4, p4, q4, rfl, rfl, rfl, h4, r4⟩ := trodAll_cons r3
  obtain ⟨v5, vs5, d5, ds5, p5, q5, rfl, rfl, rfl, h5, r5⟩ := trodAll_cons r4
  obtain ⟨v6, vs6, d6, ds6, p6, q6, rfl, rfl, rfl, h6, r6⟩ := trodAll_cons r5
  obtain ⟨v7, vs7, d7, ds7, p7, q7, rfl, rfl, rfl, h7, r7⟩ := trodAll_cons r6
  obtain ⟨rfl, rfl, rfl⟩ := trodAll_nil r7
  obtain rfl : args = #[v0, v1, v2, v3, v4, v5, v6, v7] := by cases args; simp_all
  obtain ⟨rfl, rfl⟩ := trodVars_none hV
  obtain ⟨a0, rfl, rfl, rfl, w0⟩ := open_int Try.underlying21 (hval 0 _ v0 rfl rfl) h0
  obtain ⟨a1, rfl, rfl, rfl, w1⟩ := open_int Try.underlying21 (hval 1 _ v1 rfl rfl) h1
  obtain ⟨a2, rfl, rfl, rfl, w2⟩ := open_int Try.underlying48 (hval 2 _ v2 rfl rfl) h2
  obtain ⟨a3, rfl, rfl, rfl, w3⟩ := open_int Try.underlying48 (hval 3 _ v3 rfl rfl) h3
  obtain ⟨a4, rfl, rfl, rfl, w4⟩ := open_int Try.underlying48 (hval 4 _ v4 rfl rfl) h4
  obtain ⟨a5, rfl, rfl, rfl, w5⟩ := open_int Try.underlying48 (hval 5 _ v5 rfl rfl) h5
  obtain ⟨a6, rfl, rfl, rfl, w6⟩ := open_int Try.underlying5 (hval 6 _ v6 rfl rfl) h6
  obtain ⟨b7, rfl, rfl, rfl⟩ := open_bool Try.underlying4 (hval 7 _ v7 rfl rfl) h7
  clear hA0 hval0
  obtain ⟨l0, m0⟩ := wf_i32 w0
  obtain ⟨l1, m1⟩ := wf_i32 w1
  obtain ⟨l2, m2⟩ := wf_u16 w2
  obtain ⟨l3, m3⟩ := wf_u16 w3
  obtain ⟨l4, m4⟩ := wf_u16 w4
  obtain ⟨l5, m5⟩ := wf_u16 w5
  obtain ⟨l6, m6⟩ := wf_u8 w6
  refine (walk a0 a1 a2 a3 a4 a5 a6 b7 W l0 m0 l1 m1 l2 m2 l3 m3 l4 m4 l5 m5 l6 m6).mono fun e W' ⟨he, hg⟩ => ?_
  subst he
  exact ⟨_, rfl, post_of_law hW' rfl laidOut reads rfl Try.underlying4 rfl rfl rfl hg⟩
theorem over : Rows.swingBoxesRow.holds Try.pinned (OpenSpec.ofChange Rows.swingBoxesSpec) :=
  OpenClaim.holds_of_wide 5 Try.f5 rfl rfl rfl rfl rfl rfl rfl ⟨rfl, rfl, rfl, rfl, rfl⟩ rfl rfl rfl rfl rfl (by kernel_rfl) Try.func5 (by kernel_rfl)
    (of_decide_eq_true (by kernel_rfl)) (by unfold Func.isWrapper; first | (rw [if_pos (by decide +kernel)]; kernel_rfl) | (rw [if_neg (by decide +kernel)]; exact ⟨rfl, rfl⟩))
    (fun os started H enc _ => lifted os started H enc)
theorem proved : Rows.SwingBoxesSaid := over
end Go.Proofs.Ytcbpocannmconaa.swingBoxes
