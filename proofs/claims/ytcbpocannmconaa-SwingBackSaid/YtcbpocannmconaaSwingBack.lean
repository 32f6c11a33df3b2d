/- SwingBack is true of every two rows of numbers, every point to begin at and to move by, and changes nothing that it was given. -/
import Derived.Test.YtcbpocannmconaaSwo
import Derived.Test.YtcbpocannmconaaBxs
import Derived.Test.YtcbpocannmconaaHelpc
import Derived.Test.YtcbpocannmconaaAny
import Derived.Test.YtcbpocannmconaaRowb
import Derived.Test.YtcbpocannmconaaRows
import Derived.WalkKit
import Derived.SizedLaws
import Derived.ProofKit
import Derived.OpenShut
import Derived.Deep.DeepCutAuto
import Derived.Deep.CutBlock
import Derived.BigQuiet
import Derived.Deep.QuietTactic
import Derived.Deep.RegionHeld3
namespace Go.Proofs.Ytcbpocannmconaa.swingBack
open Go.ChangeShapes Go.WideShapes Go.ChangeAt Go.RowKit
set_option linter.unusedVariables false
theorem own : ownKnob Try.prog.godebug = none := by kernel_rfl
theorem laidOut : laidOutB Try.prog = true := by kernel_rfl
theorem reads : (Try.f4.params.toList.all fun t => Try.prog.readableRec t && decide (t < Try.prog.types.size)) = true := by kernel_rfl
set_option linter.unusedSimpArgs false
theorem tmod19 (u : Int) : -524288 < u.tmod 524288 ∧ u.tmod 524288 < 524288 := by
  have h := Int.tmod_lt_of_pos u (b := 524288) (by omega)
  have g := Int.tmod_lt_of_pos (-u) (b := 524288) (by omega)
  rw [Int.neg_tmod] at g
  omega
theorem clampZ_id {x : Int} (h0 : -1048576 ≤ x) (h1 : x ≤ 1048576) : clampZ x = x := by unfold clampZ; split <;> (try split) <;> omega
theorem tmod_nat (k : Int) (n : Nat) (hk : 0 ≤ k) (hn : 0 < n) : ∃ m : Nat, k.tmod (n : Int) = (m : Int) ∧ m < n := by
  have a1 := Int.tmod_nonneg (n : Int) hk
  have a2 := Int.tmod_lt_of_pos k (b := (n : Int)) (by omega)
  exact ⟨(k.tmod (n : Int)).toNat, by omega, by omega⟩
theorem jn_one (a b : Nat → Int) (u v : Int) (q i : Nat) (hi : i < q + 1) : jn q (fun i => a i + u) (fun _ => a q + u) i = a i + u ∧ jn q (fun i => b i + v) (fun _ => b q + v) i = b i + v := by
  unfold jn
  by_cases c : i < q
  · rw [if_pos c, if_pos c]; exact ⟨rfl, rfl⟩
  · rw [if_neg c, if_neg c]
    obtain rfl : i = q := by omega
    exact ⟨rfl, rfl⟩
def half (k : Nat) (U : Nat → Int) (i : Nat) : Int := if i < k then (U i).tmod 524288 else U i
theorem half_step (k : Nat) (U : Nat → Int) (i : Nat) : upI (half k U) k ((U k).tmod 524288) i = half (k + 1) U i := by
  unfold upI half
  by_cases c : i = k
  · subst c; rw [if_pos rfl, if_pos (by omega)]
  · rw [if_neg c]
    by_cases d : i < k
    · rw [if_pos d, if_pos (by omega)]
    · rw [if_neg d, if_neg (by omega)]
set_option maxRecDepth 100000 in
set_option maxHeartbeats 8000000 in
theorem walk (AU : Option Addr) (lu cu : Nat) (U : Nat → Int) (AL : Option Addr) (ll cl : Nat) (L : Nat → Int) (fr u v : Int) (w : World)
    (hlu : lu ≤ cu) (hcu : cu ≤ maxLen) (hU : SeqAt w w.heap.size AU lu 1 (fun i => [.int .i64 (U i)])) (hUo : ∀ i, -9223372036854775808 ≤ U i ∧ U i ≤ 9223372036854775807) (zu : lu * 8 ≤ 140737488351232)
    (hll : ll ≤ cl) (hcl : cl ≤ maxLen) (hL : SeqAt w w.heap.size AL ll 1 (fun i => [.int .i64 (L i)])) (hLo : ∀ i, -9223372036854775808 ≤ L i ∧ L i ≤ 9223372036854775807) (zl : ll * 8 ≤ 140737488351232)
    (f0 : 0 ≤ fr) (f1 : fr ≤ 255) (u0 : -2147483648 ≤ u) (u1 : u ≤ 2147483647) (v0 : -2147483648 ≤ v) (v1 : v ≤ 2147483647) :
    Calls Try.prog 4 #[.slice AU lu cu, .slice AL ll cl, .int .u8 fr, .int .i32 u, .int .i32 v] w fun e w' => e = .returned (.bool true) ∧ Below w.heap.size w w' := by
  unfold maxLen at hcu hcl
  have HU := Lib.hid hU
  have HL := Lib.hid hL
  have HUO := Lib.hid hUo
  have HLO := Lib.hid hLo
  clear hU hL hUo hLo
  go_enter Try.func4, Try.ntmps4
  go_wp2_with fail
  refine (awake12 _).mono ?_
  rintro e x1 ⟨rfl, hb1⟩
  have h1s := hb1.size
  have HU1 := Lib.hid (HU.out.up hb1 h1s)
  have HB1 := Lib.hid hb1
  clear hb1 HU
  go_wp2_with fail
  refine (cloneI_any HU1.out (by omega)).mono ?_
  rintro e x2 ⟨vU, rfl, hoU, hb2⟩
  have OU2 := Lib.hid hoU
  have OUB0 : Hid (∀ g, vU.ownBlock = some g → g < x2.heap.size) := Lib.hid (fun g e => own_lt hoU e)
  have B12 := Lib.hid hb2
  have s12 := hb2.size
  have HL2 := Lib.hid (HL.out.up (HB1.out.trans (hb2.mono h1s)) (Nat.le_trans h1s s12))
  clear hoU hb2 HL HU1
  go_wp2_with fail
  refine (cloneI_any HL2.out (by omega)).mono ?_
  rintro e x3 ⟨vL, rfl, hoL, hb3⟩
  have OL3 := Lib.hid hoL
  have B23 := Lib.hid hb3
  have s23 := hb3.size
  have OU3 := Lib.hid (OU2.out.below hb3)
  clear hoL hb3 HL2 OU2
  obtain ⟨AU2, cU2, rfl⟩ := own_form OU3.out
  obtain ⟨AL2, cL2, rfl⟩ := own_form OL3.out
  have OUB : Hid (∀ g, AU2 = some ⟨g, 0, none⟩ → g < x2.heap.size) := Lib.hid (fun g e => by subst e; exact OUB0.out g rfl)
  go_wp2_with fail
  go_loopw [11, 32] (fun s11 s32 wr => ∃ k : Nat, k ≤ lu ∧ s32 = .int .i64 k ∧ OwI wr x1.heap.size (.slice AU2 lu cU2) lu (half k U) ∧ OwI wr x2.heap.size (.slice AL2 ll cL2) ll L ∧ Below x1.heap.size x1 wr) (fun _ i _ => lu - (intOf i).toNat)
  case atStart => exact ⟨0, Nat.zero_le _, rfl, OU3.out.congr_ (fun i hi => by unfold half; rw [if_neg (by omega)]), OL3.out, B12.out.trans (B23.out.mono s12)⟩
  case round =>
    obtain ⟨k, hk, rfl, hoU, hoL, hbr⟩ := hrel
    have OU := Lib.hid hoU
    have OL := Lib.hid hoL
    have HBR := Lib.hid hbr
    by_cases hlt : k < lu
    · obtain ⟨g, c, e, hg0, hg1⟩ := own_at hoU (by omega)
      injection e with eA en ec
      subst eA
      subst ec
      have q0 := hoU.at_ hlt
      have z0 := hoU.free
      have eq0 : half k U k = U k := by unfold half; rw [if_neg (by omega)]
      rw [eq0] at q0
      obtain ⟨M, hM⟩ : ∃ z, (U k).tmod 524288 = z := ⟨_, rfl⟩
      have HM := Lib.hid hM
      have bM := tmod19 (U k)
      rw [hM] at bM
      have hgb : g < x2.heap.size := OUB.out g rfl
      clear hoU hoL hbr eq0 en
      go_wp2_with fail
      go_roundw
      case rel => exact ⟨k + 1, by omega, by go_num, (OU.out.set_ k M).congr_ (fun i _ => by rw [← HM.out]; exact half_step k U i), OL.out.far hgb _, HBR.out.setCell (p := ⟨g, k, none⟩) hg0 _⟩
      case measure => simp [intOf]; omega
    · obtain rfl : k = lu := by omega
      clear hoU hoL hbr
      go_wp2_with fail
      go_loopw [12, 44] (fun s12 s44 wr => ∃ j : Nat, j ≤ ll ∧ s44 = .int .i64 j ∧ OwI wr x1.heap.size (.slice AU2 k cU2) k (half k U) ∧ OwI wr x2.heap.size (.slice AL2 ll cL2) ll (half j L) ∧ Below x1.heap.size x1 wr) (fun _ i _ => ll - (intOf i).toNat)
      case atStart => exact ⟨0, Nat.zero_le _, rfl, OU.out, OL.out.congr_ (fun i hi => by unfold half; rw [if_neg (by omega)]), HBR.out⟩
      case round =>
        obtain ⟨j, hj, rfl, hoU, hoL, hbr⟩ := hrel
        have OU := Lib.hid hoU
        have OL := Lib.hid hoL
        have HBR := Lib.hid hbr
        by_cases hlt : j < ll
        · obtain ⟨g, c, e, hg0, hg1⟩ := own_at hoL (by omega)
          injection e with eA en ec
          subst eA
          subst ec
          have q0 := hoL.at_ hlt
          have z0 := hoL.free
          have eq0 : half j L j = L j := by unfold half; rw [if_neg (by omega)]
          rw [eq0] at q0
          obtain ⟨M, hM⟩ : ∃ z, (L j).tmod 524288 = z := ⟨_, rfl⟩
          have HM := Lib.hid hM
          have bM := tmod19 (L j)
          rw [hM] at bM
          have hgx : x1.heap.size ≤ g := Nat.le_trans s12 hg0
          clear hoU hoL hbr eq0 en
          go_wp2_with fail
          go_roundw
          case rel => exact ⟨j + 1, by omega, by go_num, OU.out.other_ (fun e => absurd (OUB.out g e) (by omega)) _, (OL.out.set_ j M).congr_ (fun i _ => by rw [← HM.out]; exact half_step j L i), HBR.out.setCell (p := ⟨g, j, none⟩) hgx _⟩
          case measure => simp [intOf]; omega
        · obtain rfl : j = ll := by omega
          clear hoU hoL hbr
          go_wp2_with fail
          obtain ⟨AU3, cU3, eU, hsU⟩ := OU.out.seq
          injection eU with eU1 eU2 eU3
          subst eU1
          subst eU3
          obtain ⟨AL3, cL3, eL, hsL⟩ := OL.out.seq
          injection eL with eL1 eL2 eL3
          subst eL1
          subst eL3
          clear eU2 eL2
          have HBW := Lib.hid (HB1.out.trans (HBR.out.mono h1s))
          refine (way_any hsU hsL (by omega) (by omega)).mono ?_
          rintro e x5 ⟨v6, v7, n, rfl, hn, ho1, ho2, hb5⟩
          have HO1 := Lib.hid (OwP.of ho1)
          have HB5 := Lib.hid (HBW.out.trans (hb5.mono HBW.out.size))
          have n60 : n ≤ 60 := by omega
          have nk : n ≤ k ∧ n ≤ j := by omega
          clear hn ho1 ho2 hb5 hsU hsL OU OL HBR HBW OU3 OL3 B12 B23 OUB OUB0 HB1
          have bnd : ∀ i, i < n → (fun i => clampZ (half k U i)) i = (fun i => (U i).tmod 524288) i ∧ (fun i => clampZ (half j L i)) i = (fun i => (L i).tmod 524288) i := fun i hi => by
            have b1 := tmod19 (U i)
            have b2 := tmod19 (L i)
            constructor
            · show clampZ (half k U i) = _
              unfold half
              rw [if_pos (by omega)]
              exact clampZ_id (by omega) (by omega)
            · show clampZ (half j L i) = _
              unfold half
              rw [if_pos (by omega)]
              exact clampZ_id (by omega) (by omega)
          have HO2 := Lib.hid (HO1.out.congr_ bnd)
          have bb : ∀ i, ((fun i => (U i).tmod 524288) i).natAbs < 524288 ∧ ((fun i => (L i).tmod 524288) i).natAbs < 524288 := fun i => by
            have b1 := tmod19 (U i)
            have b2 := tmod19 (L i)
            show ((U i).tmod 524288).natAbs < 524288 ∧ ((L i).tmod 524288).natAbs < 524288
            omega
          obtain ⟨a, ea⟩ : ∃ f : Nat → Int, (fun i => (U i).tmod 524288) = f := ⟨_, rfl⟩
          obtain ⟨b, eb⟩ : ∃ f : Nat → Int, (fun i => (L i).tmod 524288) = f := ⟨_, rfl⟩
          rw [ea, eb] at HO2 bb
          have BB := Lib.hid bb
          clear HO1 bnd bb ea eb
          obtain ⟨A1, c1, rfl, hp1, hA1⟩ := HO2.out.form
          have P1 := Lib.hid hp1
          have cap1 := HO2.out.cap
          unfold maxLen at cap1
          obtain ⟨cp0, cp1⟩ := cap1
          have s5 := HB5.out.size
          clear hp1
          by_cases h0 : n = 0
          · subst h0
            have ea0 : areaS a b 0 0 = 0 := rfl
            have et0 : turnS a b 0 0 0 0 = 0 := rfl
            clear hA1
            go_wp2_with fail
            refine (area_any P1.out (Nat.le_refl _) (by omega)).mono ?_
            rw [ea0]
            rintro e z1 ⟨rfl, hz1⟩
            have Z1 := Lib.hid hz1
            have z1s := hz1.size
            clear hz1
            go_wp2_with fail
            refine (turns_any (P1.out.below Z1.out) z1s Fl.zero Fl.zero (by decide) (by decide) (by omega)).mono ?_
            rw [et0]
            rintro e z2 ⟨rfl, hz2⟩
            have Z2 : Hid (Below x5.heap.size x5 z2) := Lib.hid (Z1.out.trans (hz2.mono z1s))
            have z2s := Z2.out.size
            clear hz2 Z1
            go_wp2_with fail
            refine (turned_any (P1.out.below Z2.out) z2s (by omega)).mono ?_
            rintro e z3 ⟨vT, rfl, hoT, hz3⟩
            have Z3 : Hid (Below x5.heap.size x5 z3) := Lib.hid (Z2.out.trans (hz3.mono z2s))
            obtain ⟨AT, cT, rfl, -, -⟩ := hoT.form
            clear hz3 Z2 hoT
            go_wp2_with fail
            go_ret
            exact ⟨rfl, HB5.out.trans (Z3.out.mono s5)⟩
          · rcases hA1 with ⟨_, h, _⟩ | ⟨g1, hg1a, hg1b, rfl⟩
            · exact absurd h h0
            have n0 : 0 < n := by omega
            obtain ⟨kk, hkk, hkn⟩ := tmod_nat fr n f0 n0
            have nn : ¬ (n : Int) = 0 := by omega
            go_upto_region 18 with fail
            have kk0 : (0 : Int) ≤ (kk : Int) := by omega
            have kk1 : (kk : Int) ≤ (n : Int) := by omega
            have kk2 : (kk : Int) ≤ (c1 : Int) := by omega
            have kk3 : kk ≤ n := by omega
            have kk4 : kk ≤ c1 := by omega
            have kk5 : ¬ c1 = kk := by omega
            refine wp_region_noPanic ?_
            refine begun (fun _ => True) [] (by kernel_rfl) trivial (fun hShut hHeld => ?_)
            refine anyB_takeW (i := 0) (v := ?_) rfl (by kernel_rfl) (by kernel_rfl) (by kernel_rfl) (by kernel_rfl) (fun _ _ _ h => h) hShut (fun _ => hHeld) (Or.inl ⟨by rfl, ?_⟩) (fun hShut => ?_)
            case refine_2 => (rintro wz -; go_simp; try with_reducible rfl)
            try simp only [Act.put, List.getElem_toArray, List.getElem_cons_zero, List.getElem_cons_succ, List.setIfInBounds_toArray, List.set_cons_zero, List.set_cons_succ]
            refine anyB_takeW (i := 1) (v := ?_) rfl (by kernel_rfl) (by kernel_rfl) (by kernel_rfl) (by kernel_rfl) (fun _ _ _ h => h) hShut (fun _ => hHeld) (Or.inl ⟨by rfl, ?_⟩) (fun hShut => ?_)
            case refine_2 => (rintro wz -; go_simp; try with_reducible rfl)
            try simp only [Act.put, List.getElem_toArray, List.getElem_cons_zero, List.getElem_cons_succ, List.setIfInBounds_toArray, List.set_cons_zero, List.set_cons_succ]
            refine anyB_takeW (i := 2) (v := ?_) rfl (by kernel_rfl) (by kernel_rfl) (by kernel_rfl) (by kernel_rfl) (fun _ _ _ h => h) hShut (fun _ => hHeld) (Or.inl ⟨by rfl, ?_⟩) (fun hShut => ?_)
            case refine_2 => (rintro wz -; go_simp; try with_reducible rfl)
            try simp only [Act.put, List.getElem_toArray, List.getElem_cons_zero, List.getElem_cons_succ, List.setIfInBounds_toArray, List.set_cons_zero, List.set_cons_succ]
            refine anyB_takeW (i := 4) (v := ?_) rfl (by kernel_rfl) (by kernel_rfl) (by kernel_rfl) (by kernel_rfl) (fun _ _ _ h => h) hShut (fun _ => hHeld) (Or.inl ⟨by rfl, ?_⟩) (fun hShut => ?_)
            case refine_2 => (rintro wz -; go_simp; try with_reducible rfl)
            try simp only [Act.put, List.getElem_toArray, List.getElem_cons_zero, List.getElem_cons_succ, List.setIfInBounds_toArray, List.set_cons_zero, List.set_cons_succ]
            refine anyB_takeW (i := 5) (v := ?_) rfl (by kernel_rfl) (by kernel_rfl) (by kernel_rfl) (by kernel_rfl) (fun _ _ _ h => h) hShut (fun _ => hHeld) (Or.inl ⟨by rfl, ?_⟩) (fun hShut => ?_)
            case refine_2 => (rintro wz -; go_simp; try with_reducible rfl)
            try simp only [Act.put, List.getElem_toArray, List.getElem_cons_zero, List.getElem_cons_succ, List.setIfInBounds_toArray, List.set_cons_zero, List.set_cons_succ]
            refine anyB_takeW (i := 6) (v := ?_) rfl (by kernel_rfl) (by kernel_rfl) (by kernel_rfl) (by kernel_rfl) (fun _ _ _ h => h) hShut (fun _ => hHeld) (Or.inl ⟨by rfl, ?_⟩) (fun hShut => ?_)
            case refine_2 => (rintro wz -; go_simp; try with_reducible rfl)
            try simp only [Act.put, List.getElem_toArray, List.getElem_cons_zero, List.getElem_cons_succ, List.setIfInBounds_toArray, List.set_cons_zero, List.set_cons_succ]
            refine anyB_each (rs := [3]) hShut (by kernel_rfl) (by simp) ?_
            refine List.forall_mem_cons.2 ⟨fun hShut => wpOp_step rfl (fun K hK => ?_), fun _ h => by cases h⟩
            rw [if_pos (by rfl)]
            refine wp_enter (by go_simp; exact ⟨rfl, rfl⟩) ?_
            refine (clone_any (w := x5.drew) ((P1.out.below (Below.refl x5.heap.size x5).drew).drop_ kk3) (.inr ⟨_, rfl⟩) (Nat.le_refl _) (by omega)).mono ?_
            rintro e x6 ⟨v6', rfl, ho6, hb6⟩
            have O6 := Lib.hid ho6
            have B6 : Hid (Below x5.heap.size x5 x6) := Lib.hid ((Below.refl x5.heap.size x5).drew.trans hb6)
            have s6 := B6.out.size
            clear ho6 hb6
            refine ⟨_, rfl, ?_⟩
            refine held hK trivial (fun hHeld => ?_)
            clear hK K
            try simp only [Act.put, List.getElem_toArray, List.getElem_cons_zero, List.getElem_cons_succ, List.setIfInBounds_toArray, List.set_cons_zero, List.set_cons_succ]
            refine anyB_each (rs := [7]) hShut (by kernel_rfl) (by simp) ?_
            refine List.forall_mem_cons.2 ⟨fun hShut => wpOp_step rfl (fun K hK => ?_), fun _ h => by cases h⟩
            rw [if_pos (by rfl)]
            refine wp_app (.tmp 85) (.tmp 88) rfl rfl rfl O6.out ((P1.out.take_ kk3).below B6.out) (.inr ⟨_, rfl⟩) (by omega) s6 ?_
            intro v7' x7 ho7 hg7
            have O7 := Lib.hid (ho7.congr_ (fun i hi => (⟨rfl, rfl⟩ : _ ∧ _)))
            have B7 := Lib.hid (B6.out.trans (O6.out.grew hg7 (Nat.le_refl _) s6))
            have s7 := B7.out.size
            clear ho7 hg7 O6 B6
            rw [show n - kk + kk = n from by omega] at O7
            refine held hK trivial (fun hHeld => ?_)
            clear hK K
            try simp only [Act.put, List.getElem_toArray, List.getElem_cons_zero, List.getElem_cons_succ, List.setIfInBounds_toArray, List.set_cons_zero, List.set_cons_succ]
            refine anyB_takeW (i := 8) (v := ?_) rfl (by kernel_rfl) (by kernel_rfl) (by kernel_rfl) (by kernel_rfl) (fun _ _ _ h => h) hShut (fun _ => hHeld) (Or.inl ⟨by rfl, ?_⟩) (fun hShut => ?_)
            case refine_2 => (rintro wz -; go_simp; try with_reducible rfl)
            try simp only [Act.put, List.getElem_toArray, List.getElem_cons_zero, List.getElem_cons_succ, List.setIfInBounds_toArray, List.set_cons_zero, List.set_cons_succ]
            refine anyB_done (by kernel_rfl) ?_ _
            refine NoPanic.normal ?_
            have P7 := Lib.hid (P1.out.up B7.out s7)
            go_wp2_with fail
            refine (clone_any P7.out (.inr ⟨_, rfl⟩) (Nat.le_refl _) (by omega)).mono ?_
            rintro e x8 ⟨v8', rfl, ho8, hb8⟩
            have O8 := Lib.hid ho8
            have B8 := Lib.hid hb8
            have s8 := hb8.size
            clear ho8 hb8
            go_wp2_with fail
            refine (reverse_any O8.out s8 (by omega)).mono ?_
            rintro e x9 ⟨rfl, ho9, hb9⟩
            have O9 := Lib.hid ho9
            have B9 := Lib.hid (B8.out.trans hb9)
            have s9 := B9.out.size
            clear ho9 hb9 O8 B8
            obtain ⟨by1, hby1⟩ : ∃ z, u.tmod 524288 = z := ⟨_, rfl⟩
            obtain ⟨by2, hby2⟩ : ∃ z, v.tmod 524288 = z := ⟨_, rfl⟩
            have bb1 := tmod19 u
            have bb2 := tmod19 v
            rw [hby1] at bb1
            rw [hby2] at bb2
            have fb1 : Fl (wd by1) by1 := (wd_fl by1).of_eq (clampZ_id (by omega) (by omega))
            have fb2 : Fl (wd by2) by2 := (wd_fl by2).of_eq (clampZ_id (by omega) (by omega))
            have FB1 := Lib.hid fb1
            have FB2 := Lib.hid fb2
            clear fb1 fb2
            go_upto_region 23 with (go_at_call 9; refine (at_any _ _ _).mono ?_; rintro e w1 ⟨rfl, rfl⟩)
            have P9 := Lib.hid (P7.out.up B9.out s9)
            go_wp2_with fail
            go_loopw [19, 21, 103] (fun s19 s21 s103 wr => ∃ q : Nat, q ≤ n ∧ s103 = .int .i64 q ∧ OwP wr x9.heap.size s19 q (fun i => a i + by1) (fun i => b i + by2) ∧ Below x9.heap.size x9 wr) (fun _ _ i _ => n - (intOf i).toNat)
            case atStart => exact ⟨0, Nat.zero_le _, rfl, OwP.nil_ _ _ _ _, Below.refl _ _⟩
            case round =>
              obtain ⟨q, hq, rfl, ho, hbr⟩ := hrel
              have HO := Lib.hid ho
              have HBR := Lib.hid hbr
              clear ho hbr
              have s10 := HBR.out.size
              by_cases hlt : q < n
              · obtain ⟨kb, ko, X, Y, e, hkb, hc⟩ := P9.out n0
                cases e
                obtain ⟨c0', f0', f1', b0', b1'⟩ := hc q hlt
                rw [Nat.zero_add] at c0'
                have q0 : wr.cell? ⟨g1, q, none⟩ = some (.complex .f64 (X q) (Y q)) := (HBR.out.cell (p := ⟨g1, q, none⟩) hkb).trans c0'
                have hr : g1 < wr.heap.size := by omega
                have bq := BB.out q
                obtain ⟨⟨r, i, e1, fr, fi⟩, -⟩ := csum f0' f1' FB1.out FB2.out (by omega) (by omega) (by omega) (by omega)
                have hs : ∀ W, (binOp .add 28 (.complex .f64 (X q) (Y q)) (.complex .f64 (wd by1) (wd by2))).run Try.prog W = .ok (.complex .f64 r i) W := fun W => run_complex_sum W _ (.inl rfl) _ _ _ _ _ _ _ _ e1
                have FR := Lib.hid fr
                have FI := Lib.hid fi
                have bq1 : (a q + by1).natAbs ≤ 1048576 := by omega
                have bq2 : (b q + by2).natAbs ≤ 1048576 := by omega
                clear hc c0' f0' f1' b0' b1' e1 fr fi
                go_wp2_with (at_builtin; refine wpList_app rfl (.tmp 107) (.tmp 111) rfl rfl rfl (HO.out.alloc _) (Pts.one (w := wr) FR.out FI.out bq1 bq2) (.inr ⟨_, rfl⟩) (by omega) (by simp; omega) ?_; intro v5 w5 hown5 hg5; have HO5 := Lib.hid hown5; have HB5 := Lib.hid ((HBR.out.alloc s10 (.cells #[.complex .f64 r i] 28)).trans (OwP.grew (HO.out.alloc (.cells #[.complex .f64 r i] 28)) hg5 (Nat.le_refl _) (by simp; omega))); clear hown5 hg5)
                go_roundw
                case rel => exact ⟨q + 1, by omega, by go_num, HO5.out.congr_ (fun i hi => jn_one a b by1 by2 q i hi), HB5.out⟩
                case measure => simp [intOf]; omega
              · obtain rfl : q = n := by omega
                have P10 := Lib.hid (P9.out.up HBR.out s10)
                go_upto_region 28 with fail
                have B79 := Lib.hid (B9.out.trans (HBR.out.mono s9))
                obtain ⟨A7, c7, rfl, p7, -⟩ := (O7.out.below B79.out).form
                obtain ⟨A8, c8, rfl, p8, -⟩ := (O9.out.below HBR.out).form
                obtain ⟨A9, c9, rfl, p9, -⟩ := HO.out.form
                have Q7 := Lib.hid p7
                have Q8 := Lib.hid p8
                have Q9 := Lib.hid p9
                clear p7 p8 p9
                have eO := area_rot a b hkn
                have eB := area_back a b q
                have eM := area_moved a b by1 by2 q
                have eT := area_turned a b q q
                have tR := turn_rot a b by1 by2 hkn
                have tM := turn_moved a b by1 by2 by1 by2 q q
                have fT := far_turned a b by1 by2 q
                have EB0 := areaS_in (a := a) (b := b) (n := q) (fun i hi => by have := BB.out i; omega) q (Nat.le_refl _)
                obtain ⟨E, hE⟩ : ∃ z, areaS a b q q = z := ⟨_, rfl⟩
                obtain ⟨T, hT⟩ : ∃ z, turnS a b by1 by2 q q = z := ⟨_, rfl⟩
                obtain ⟨F, hF⟩ : ∃ z, farS a b by1 by2 q = z := ⟨_, rfl⟩
                rw [hE] at eO eB eM eT EB0
                rw [hT] at tR tM
                rw [hF] at fT
                have hneg : IntKind.i64.wrap (-E) = -E := IntWalk.i64_in _ (by omega)
                obtain ⟨r2, i2, e2, fr2, fi2⟩ := cmul Fl.two Fl.zero FB1.out FB2.out (by decide) (by decide) (by omega) (by omega)
                obtain ⟨r3, i3, e3, fr3, fi3⟩ := cmul FB1.out FB2.out Fl.zero Fl.one (by omega) (by omega) (by decide) (by decide)
                have m2 : ∀ W, (binOp .mul 28 (.complex .f64 4611686018427387904 0) (.complex .f64 (wd by1) (wd by2))).run Try.prog W = .ok (.complex .f64 r2 i2) W := fun W => run_complex_mul W _ _ _ _ _ _ _ e2
                have m3 : ∀ W, (binOp .mul 28 (.complex .f64 (wd by1) (wd by2)) (.complex .f64 0 4607182418800017408)).run Try.prog W = .ok (.complex .f64 r3 i3) W := fun W => run_complex_mul W _ _ _ _ _ _ _ e3
                have FR2 := Lib.hid (fr2.of_eq (z' := by1 + by1) (by omega))
                have FI2 := Lib.hid (fi2.of_eq (z' := by2 + by2) (by omega))
                have FR3 := Lib.hid (fr3.of_eq (z' := -by2) (by omega))
                have FI3 := Lib.hid (fi3.of_eq (z' := by1) (by omega))
                have g1' : by1.natAbs ≤ 1048576 := by omega
                have g2' : by2.natAbs ≤ 1048576 := by omega
                have g3' : (by1 + by1).natAbs ≤ 1048576 := by omega
                have g4' : (by2 + by2).natAbs ≤ 1048576 := by omega
                have g5' : (-by2).natAbs ≤ 1048576 := by omega
                have EO := Lib.hid eO
                have EB := Lib.hid eB
                have EM := Lib.hid eM
                have ET := Lib.hid eT
                have TR := Lib.hid tR
                have TM := Lib.hid tM
                have FT := Lib.hid fT
                have HE := Lib.hid hE
                have HT := Lib.hid hT
                have HF := Lib.hid hF
                have BW := Lib.hid (HB5.out.trans ((B7.out.trans (B79.out.mono s7)).mono s5))
                clear eO eB eM eT EB0 hE hT hF tR tM fT e2 e3 fr2 fi2 fr3 fi3 B79 O7 O9 HO P9 P7 P1 HO2 B7 B9 HB5 HBR
                have sW := BW.out.size
                go_wp2_with fail
                refine (turned_any P10.out (Nat.le_refl _) (by omega)).mono ?_
                rintro e y0 ⟨vT, rfl, hoT, hbT⟩
                obtain ⟨AT, cT, rfl, pT, -⟩ := hoT.form
                have RT := Lib.hid pT
                have R1 := Lib.hid (P10.out.up hbT hbT.size)
                have R7 := Lib.hid (Q7.out.up hbT hbT.size)
                have R8 := Lib.hid (Q8.out.up hbT hbT.size)
                have R9 := Lib.hid (Q9.out.up hbT hbT.size)
                have BY := Lib.hid (BW.out.trans (hbT.mono sW))
                have sY := BY.out.size
                clear hoT pT hbT P10 Q7 Q8 Q9 BW
                go_wp2_with fail
                refine (area_any R1.out (Nat.le_refl _) (by omega)).mono ?_
                rw [HE.out]
                rintro e z1 ⟨rfl, hz⟩
                have Z1 : Hid (Below y0.heap.size y0 z1) := Lib.hid hz
                have z1s := Z1.out.size
                clear hz
                go_wp2_with fail
                refine (area_any (R7.out.below Z1.out) z1s (by omega)).mono ?_
                rw [EO.out]
                rintro e z2 ⟨rfl, hz⟩
                have Z2 : Hid (Below y0.heap.size y0 z2) := Lib.hid (Z1.out.trans (hz.mono z1s))
                have z2s := Z2.out.size
                clear hz Z1
                go_wp2_with fail
                refine (area_any (R8.out.below Z2.out) z2s (by omega)).mono ?_
                rw [EB.out]
                rintro e z3 ⟨rfl, hz⟩
                have Z3 : Hid (Below y0.heap.size y0 z3) := Lib.hid (Z2.out.trans (hz.mono z2s))
                have z3s := Z3.out.size
                clear hz Z2
                go_wp2_with fail
                refine (area_any (R9.out.below Z3.out) z3s (by omega)).mono ?_
                rw [EM.out]
                rintro e z4 ⟨rfl, hz⟩
                have Z4 : Hid (Below y0.heap.size y0 z4) := Lib.hid (Z3.out.trans (hz.mono z3s))
                have z4s := Z4.out.size
                clear hz Z3
                go_wp2_with fail
                refine (area_any (RT.out.below Z4.out) z4s (by omega)).mono ?_
                rw [ET.out]
                rintro e z5 ⟨rfl, hz⟩
                have Z5 : Hid (Below y0.heap.size y0 z5) := Lib.hid (Z4.out.trans (hz.mono z4s))
                have z5s := Z5.out.size
                clear hz Z4
                go_wp2_with fail
                refine (turns_any (R7.out.below Z5.out) z5s FB1.out FB2.out g1' g2' (by omega)).mono ?_
                rw [TR.out]
                rintro e z6 ⟨rfl, hz⟩
                have Z6 : Hid (Below y0.heap.size y0 z6) := Lib.hid (Z5.out.trans (hz.mono z5s))
                have z6s := Z6.out.size
                clear hz Z5
                go_wp2_with fail
                refine (turns_any (R1.out.below Z6.out) z6s FB1.out FB2.out g1' g2' (by omega)).mono ?_
                rw [HT.out]
                rintro e z7 ⟨rfl, hz⟩
                have Z7 : Hid (Below y0.heap.size y0 z7) := Lib.hid (Z6.out.trans (hz.mono z6s))
                have z7s := Z7.out.size
                clear hz Z6
                go_wp2_with fail
                refine (turns_any (R9.out.below Z7.out) z7s FR2.out FI2.out g3' g4' (by omega)).mono ?_
                rw [TM.out]
                rintro e z8 ⟨rfl, hz⟩
                have Z8 : Hid (Below y0.heap.size y0 z8) := Lib.hid (Z7.out.trans (hz.mono z7s))
                have z8s := Z8.out.size
                clear hz Z7
                go_wp2_with fail
                refine (turns_any (R1.out.below Z8.out) z8s FB1.out FB2.out g1' g2' (by omega)).mono ?_
                rw [HT.out]
                rintro e z9 ⟨rfl, hz⟩
                have Z9 : Hid (Below y0.heap.size y0 z9) := Lib.hid (Z8.out.trans (hz.mono z8s))
                have z9s := Z9.out.size
                clear hz Z8
                go_wp2_with fail
                refine (far_any (RT.out.below Z9.out) z9s FR3.out FI3.out g5' g1' (by omega)).mono ?_
                rw [FT.out]
                rintro e zz ⟨rfl, rfl⟩
                go_wp2_with fail
                refine (far_any (R1.out.below Z9.out) z9s FB1.out FB2.out g1' g2' (by omega)).mono ?_
                rw [HF.out]
                rintro e zz ⟨rfl, rfl⟩
                go_wp2_with fail
                refine (turned_any (RT.out.below Z9.out) z9s (by omega)).mono ?_
                rintro e t1 ⟨vA, rfl, hoA, hz⟩
                obtain ⟨AA, cA, rfl, pA, -⟩ := hoA.form
                have PA := Lib.hid pA
                have T1 : Hid (Below y0.heap.size y0 t1) := Lib.hid (Z9.out.trans (hz.mono z9s))
                have t1s := T1.out.size
                clear hz hoA pA Z9
                go_wp2_with fail
                refine (turned_any PA.out (Nat.le_refl _) (by omega)).mono ?_
                rintro e t2 ⟨vB, rfl, hoB, hz⟩
                obtain ⟨AB, cB, rfl, pB, -⟩ := hoB.form
                have PB := Lib.hid pB
                have T2 : Hid (Below y0.heap.size y0 t2) := Lib.hid (T1.out.trans (hz.mono t1s))
                have t2s := T2.out.size
                clear hz hoB pB T1
                go_wp2_with fail
                refine (turned_any PB.out (Nat.le_refl _) (by omega)).mono ?_
                rintro e t3 ⟨vC, rfl, hoC, hz⟩
                obtain ⟨AC, cC, rfl, pC, -⟩ := hoC.form
                have PC := Lib.hid (pC.congr_ (a' := a) (b' := b) (fun i hi => by constructor <;> simp))
                have T3 : Hid (Below y0.heap.size y0 t3) := Lib.hid (T2.out.trans (hz.mono t2s))
                have t3s := T3.out.size
                clear hz hoC pC T2
                go_wp2_with fail
                refine (equal_any PC.out (R1.out.below T3.out) (Nat.le_refl _) t3s (by omega)).mono ?_
                rintro e t4 ⟨rfl, hz⟩
                have T4 : Hid (Below y0.heap.size y0 t4) := Lib.hid (T3.out.trans (hz.mono t3s))
                clear hz T3
                go_wp2_with fail
                go_ret
                exact ⟨rfl, BY.out.trans (T4.out.mono sY)⟩
set_option maxRecDepth 100000 in
theorem lifted (os : Os) (started : os.Started) (H : Type) (enc : TypeId × Value → H) :
    ReturnsInHanded {} Try.checked os 4 .any (Rows.swingBackSpec.pre6 enc Try.prog Try.f4 Rows.swingBackRow.domain false) (Rows.swingBackSpec.post enc Try.prog Try.f4 false true false false) := by
  refine returnsInHanded_of_change_sized (C := Try.checked) own started (by kernel_rfl) Try.func4
    (ChangeSpec.witness6 (enc := enc) (C := Try.checked) false ⟨#[], #[.slice none 0 0, .slice none 0 0, .int .u8 0, .int .i32 0, .int .i32 0], []⟩ 8 (by kernel_rfl) (by kernel_rfl) (by kernel_rfl) (by kernel_rfl)) ?_
  intro W base args ds gs before hval0 hW hcnd hsz0 _
  have hsz : (DataW.weightsEach Try.prog (Try.f4.params.toList ++ Rows.swingBackSpec.plain.varTypes Try.prog) (ds ++ gs)).all (· ≤ reachBytes) = true := hsz0
  clear hsz0
  have hval : ∀ (j : Nat) t v, Try.f4.params[j]? = some t → args[j]? = some v → Value.okWide Try.prog W .any base t v := hval0
  have hW' := hW
  obtain ⟨p, q, hA0, hV, rfl, hfz, hnd⟩ := hW
  have hA : DataW.TrodAll enc Try.prog W 0 (fun _ => true) true Try.f4.params.toList args.toList ds p := hA0
  rw [Try.params4] at hA hval hsz
  obtain ⟨v0, vs0, d0, ds0, p0, q0, hargs, rfl, rfl, h0, r0⟩ := trodAll_cons hA
  obtain ⟨v1, vs1, d1, ds1, p1, q1, rfl, rfl, rfl, h1, r1⟩ := trodAll_cons r0
  obtain ⟨v2, vs2, d2, ds2, p2, q2, rfl, rfl, rfl, h2, r2⟩ := trodAll_cons r1
  obtain ⟨v3, vs3, d3, ds3, p3, q3, rfl, rfl, rfl, h3, r3⟩ := trodAll_cons r2
  obtain ⟨v4, vs4, d4, ds4, p4, q4, rfl, rfl, rfl, h4, r4⟩ := trodAll_cons r3
  obtain ⟨rfl, rfl, rfl⟩ := trodAll_nil r4
  obtain rfl : args = #[v0, v1, v2, v3, v4] := by cases args; simp_all
  obtain ⟨rfl, rfl⟩ := trodVars_none hV
  obtain ⟨A0, len0, cap0, rfl⟩ := okWide_slice Try.underlying22 (hval 0 _ v0 rfl rfl)
  obtain ⟨fu0, g0⟩ := h0
  obtain ⟨s0, t0, Q0, u0, o0⟩ := open_i64s g0
  have zz0 := sized_len (j := 0) Try.underlying22 g0 hsz rfl rfl
  rw [show Try.prog.bytesOf 2 = 8 from by kernel_rfl] at zz0
  obtain ⟨A1, len1, cap1, rfl⟩ := okWide_slice Try.underlying22 (hval 1 _ v1 rfl rfl)
  obtain ⟨fu1, g1⟩ := h1
  obtain ⟨s1, t1, Q1, u1, o1⟩ := open_i64s g1
  have zz1 := sized_len (j := 1) Try.underlying22 g1 hsz rfl rfl
  rw [show Try.prog.bytesOf 2 = 8 from by kernel_rfl] at zz1
  obtain ⟨a2, rfl, rfl, rfl, w2⟩ := open_int Try.underlying5 (hval 2 _ v2 rfl rfl) h2
  obtain ⟨a3, rfl, rfl, rfl, w3⟩ := open_int Try.underlying21 (hval 3 _ v3 rfl rfl) h3
  obtain ⟨a4, rfl, rfl, rfl, w4⟩ := open_int Try.underlying21 (hval 4 _ v4 rfl rfl) h4
  clear hA0 hval0
  obtain ⟨l2, m2⟩ := wf_u8 w2
  obtain ⟨l3, m3⟩ := wf_i32 w3
  obtain ⟨l4, m4⟩ := wf_i32 w4
  refine (walk A0 len0 cap0 Q0 A1 len1 cap1 Q1 a2 a3 a4 W s0 t0 u0 o0 zz0 s1 t1 u1 o1 zz1 l2 m2 l3 m3 l4 m4).mono fun e W' ⟨he, hg⟩ => ?_
  subst he
  exact ⟨_, rfl, post_of_law hW' rfl laidOut reads rfl Try.underlying4 rfl rfl rfl hg⟩
theorem over : Rows.swingBackRow.holds Try.pinned (OpenSpec.ofChange Rows.swingBackSpec) :=
  OpenClaim.holds_of_wide 4 Try.f4 rfl rfl rfl rfl rfl rfl rfl ⟨rfl, rfl, rfl, rfl, rfl⟩ rfl rfl rfl rfl rfl (by kernel_rfl) Try.func4 (by kernel_rfl)
    (of_decide_eq_true (by kernel_rfl)) (by unfold Func.isWrapper; first | (rw [if_pos (by decide +kernel)]; kernel_rfl) | (rw [if_neg (by decide +kernel)]; exact ⟨rfl, rfl⟩))
    (fun os started H enc _ => lifted os started H enc)
theorem proved : Rows.SwingBackSaid := over
end Go.Proofs.Ytcbpocannmconaa.swingBack
