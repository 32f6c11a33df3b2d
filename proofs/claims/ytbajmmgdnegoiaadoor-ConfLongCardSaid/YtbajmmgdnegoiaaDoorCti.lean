/- ConfOrders' walk. -/
import Derived.Test.YtbajmmgdnegoiaaDoorCth
import Derived.Test.YtbajmmgdnegoiaaDoorAny
import Derived.Test.YtbajmmgdnegoiaaDoorSeq
namespace Go.Proofs.YtbajmmgdnegoiaaDoor
open Go.ChangeShapes Go.WideShapes Go.ChangeAt Go.RowKit Kn
set_option linter.unusedVariables false
set_option linter.unusedSimpArgs false
theorem own_rows {w : World} {base n : Nat} {v : Value} {xs : List Value} (h : w.ownsRow base sT 1 v n xs) (h0 : 0 < n) : ∃ g cap cur, v = .slice (some ⟨g, 0, none⟩) n cap ∧ base ≤ g ∧ n ≤ cap ∧ cap ≤ maxLen ∧ Blk w g sT cur ∧ ∀ i, i < n → cur[i]? = xs[i]? := by
  rcases h.2 with ⟨_, h1⟩ | ⟨g, cap, cur, hv, hb, hg, hnc, hcm, hcs, htake⟩
  · omega
  · refine ⟨g, cap, cur, hv, hb, hnc, hcm, hg, fun i hi => ?_⟩
    rw [← htake, List.getElem?_take, if_pos (by omega)]
    simp
/-- The lines that lie there, in an order. -/
structure OrdAt (w0 : World) (w : World) (g : Nat) (V : Nat → Value) (σ : Nat → Nat) (c : Cf) : Prop where
  rows : ∃ cs, Blk w g sT cs ∧ RowS V σ cs
  inj : ∀ a b, a < 16 → b < 16 → σ a = σ b → a = b
  rng : ∀ a, a < 16 → σ a < 16
  lo : w0.heap.size < g
  box : CfBox w w0.heap.size c
  be : Below w0.heap.size w0 w
theorem OrdAt.below {w0 w w' : World} {g : Nat} {V : Nat → Value} {σ : Nat → Nat} {c : Cf} (h : OrdAt w0 w g V σ c) (hb : Below w.heap.size w w') : OrdAt w0 w' g V σ c := by
  obtain ⟨cs, h1, h2⟩ := h.rows
  exact ⟨⟨cs, h1.below_ hb h1.size, h2⟩, h.inj, h.rng, h.lo, h.box.below_ hb h.box.size, h.be.trans (hb.mono h.be.size)⟩
set_option maxRecDepth 20000 in
set_option maxHeartbeats 8000000 in
theorem walko (c : Cf) (hc : c.ok) (A : Option Addr) (len cap : Nat) (O : Nat → Int) (tw : Int) (ag : Bool) (w : World) (hs : Std w) (hl : len ≤ cap) (hcap : cap ≤ maxLen) (hO : SeqAt w w.heap.size A len 1 (fun i => [.int .u8 (O i)])) (hO5 : ∀ i, 0 ≤ O i ∧ O i ≤ 255) (t0 : 0 ≤ tw) (t1 : tw ≤ 255) :
    Calls Tryd.prog 5 #[c.v, .slice A len cap, .int .u8 tw, .bool ag] w fun e w' => e = .returned (.bool true) ∧ Below w.heap.size w w' := by
  have HS := Lib.hid hs
  have HO := Lib.hid hO
  have HO5 := Lib.hid hO5
  have HC := Lib.hid hc
  clear hs hO hO5 hc
  unfold maxLen at hcap
  obtain ⟨d, hd⟩ : ∃ d : Nat, tw.toNat % 16 = d := ⟨_, rfl⟩
  have hd16 : d < 16 := by omega
  have m1 : tw.tmod 16 = (d : Int) := by rw [Int.tmod_eq_emod_of_nonneg t0]; omega
  have m2 : IntKind.i64.wrap (d : Int) = (d : Int) := IntWalk.i64_in _ (by omega)
  clear hd
  obtain ⟨v, hv⟩ : ∃ v, vOf c = v := ⟨_, rfl⟩
  obtain ⟨TX, hTX⟩ : ∃ T, txtK (vOf c) 16 = T := ⟨_, rfl⟩
  have hR := rtext_any c HC.out
  rw [hTX] at hR
  have hts : TX.size ≤ 21000 := by have := txt_len (vOf c) (vOf_fits HC.out) 16 (Nat.le_refl _); rw [hTX] at this; omega
  have hLn := rlines TX hts
  have hrows := txt_rows (vOf c)
  rw [hTX, hv] at hrows
  rw [strs_len] at hrows
  rw [hrows.1] at hLn
  obtain ⟨V, hV⟩ : ∃ V : Nat → Value, (fun i => Value.string (mkT (lineL i (v i)))) = V := ⟨_, rfl⟩
  have hVi : ∀ i, V i = .string (mkT (lineL i (v i))) := fun i => by rw [← hV]
  have HR := Lib.hid hR
  have HLN := Lib.hid hLn
  have HROWS := Lib.hid hrows
  have HVI := Lib.hid hVi
  have HVC := Lib.hid hv
  clear hR hLn hrows hVi hTX hV
  go_enter Tryd.func5, Tryd.ntmps5
  go_upto_region 1 with fail
  refine wp_worldx (fun wx => CfBox wx w.heap.size c ∧ Below w.heap.size w wx) ⟨Blk.made _ _ _, (Below.refl _ _).alloc (Nat.le_refl _) _⟩ ?_
  rintro x1 ⟨hb1, hw1⟩
  have HB1 := Lib.hid hb1
  have HW1 := Lib.hid hw1
  clear hb1 hw1
  go_wp2_with fail
  refine (awake13 _ (HS.out.below HW1.out)).mono ?_
  rintro e x2 ⟨rfl, hw2⟩
  have HB2 := Lib.hid (HB1.out.below_ hw2 HB1.out.size)
  have HW2 := Lib.hid (HW1.out.trans (hw2.mono HW1.out.size))
  clear hw2 HB1 HW1
  go_wp2_with (refine wpList_load_row rfl 24 (.tmp 4) rfl _ rfl _ #[.int .i64 c.ti, .int .i64 c.ro, .int .i64 c.ta, .int .i64 c.iv, .int .i64 c.hg, .int .i64 c.lo, .int .i64 c.dw, .int .i64 c.ho, .int .i64 c.sp, .int .i64 c.kp, .int .i64 c.ki, .int .i64 c.kd, .int .i64 c.lm, .int .i64 c.st, .int .i64 c.th, .int .i64 c.rg] _ _ HB2.out Tryd.underlying24 rfl cf_info ?_)
  refine (lown13 c _).mono ?_
  rintro e x3 ⟨rfl, hr3, hw3⟩
  have HR3 := Lib.hid hr3
  have HB3 := Lib.hid (HB2.out.below_ hw3 HB2.out.size)
  have HW3 := Lib.hid (HW2.out.trans (hw3.mono (Nat.le_of_lt HB2.out.size)))
  clear hr3 hw3 HB2 HW2
  go_wp2_with fail
  refine (HR.out _ _ HR3.out).mono ?_
  rintro e x4 ⟨rfl, hw4⟩
  have HB4 := Lib.hid (HB3.out.below_ hw4 HB3.out.size)
  have HW4 := Lib.hid (HW3.out.trans (hw4.mono (Nat.le_of_lt HB3.out.size)))
  clear hw4 HB3 HW3 HR3 HR
  go_wp2_with fail
  refine (HLN.out _).mono ?_
  rintro e x5 ⟨lv, rfl, hrow, hw5⟩
  obtain ⟨g, lcap, cur, rfl, hg4, hcap17, hcapm, hblk, hcur⟩ := own_rows hrow (by omega)
  unfold maxLen at hcapm
  have hV0 : RowS V (fun i => i) cur := fun i hi => by rw [hcur i (by omega), HROWS.out.2 i hi, HVI.out i]
  have HA := Lib.hid (show OrdAt w x5 g V (fun i => i) c from ⟨⟨cur, hblk, hV0⟩, fun _ _ _ _ e => e, fun _ h => h, by have := HB4.out.size; omega, HB4.out.below_ hw5 HB4.out.size, HW4.out.trans (hw5.mono (Nat.le_of_lt HB4.out.size))⟩)
  clear hrow hw5 hblk hcur hV0 HB4 HW4 HLN HROWS
  go_wp2_with fail
  go_loopw [28] (fun s28 wr => ∃ (i : Nat) (σ : Nat → Nat), i ≤ len ∧ s28 = .int .i64 (i : Int) ∧ OrdAt w wr g V σ c) (fun s _ => len + 1 - (intOf s).toNat)
  case atStart => exact ⟨0, _, Nat.zero_le _, rfl, HA.out⟩
  case round =>
    clear HA
    obtain ⟨i, σ, hi, rfl, ha⟩ := hrel
    have HA := Lib.hid ha
    clear ha
    have i0 : (0 : Int) ≤ (i : Int) := by omega
    by_cases hil : i < len
    · have k1 : IntKind.i64.wrap ((i : Int) + 1) = (i : Int) + 1 := IntWalk.i64_in _ (by omega)
      obtain ⟨tb, tof, rfl, htb, htc⟩ := HO.out (by omega)
      have y0 := htc i hil 0 (by omega)
      rw [Nat.mul_one] at y0
      simp only [Nat.add_zero] at y0
      have y1 := (HA.out.be.cell (p := ⟨tb, tof + i, none⟩) htb).trans y0
      obtain ⟨q, hq⟩ : ∃ q : Nat, O i = (q : Int) := ⟨(O i).toNat, by have := HO5.out i; omega⟩
      have hq5 : q ≤ 255 := by have := HO5.out i; omega
      replace y1 : wr.cell? ⟨tb, tof + i, none⟩ = some (.int .u8 (q : Int)) := by rw [← hq]; exact y1
      have i1 : (i : Int) < (len : Int) := by omega
      clear htc y0 hq
      by_cases hi16 : i < 16
      · have i2 : (i : Int) < 16 := by omega
        obtain ⟨dd, hdd⟩ : ∃ dd, 16 - i = dd := ⟨_, rfl⟩
        obtain ⟨r, hr⟩ : ∃ r, q % dd = r := ⟨_, rfl⟩
        have hrd : r < dd := by rw [← hr]; exact Nat.mod_lt _ (by omega)
        obtain ⟨j, hj⟩ : ∃ j, i + r = j := ⟨_, rfl⟩
        have hj16 : j < 16 := by omega
        have f1 : IntKind.i64.wrap (q : Int) = (q : Int) := by rw [IntKind.wrap_i64]; omega
        have f2 : IntKind.i64.wrap (16 - (i : Int)) = (dd : Int) := by rw [IntKind.wrap_i64]; omega
        have f3 : (q : Int).tmod (dd : Int) = (r : Int) := by rw [Int.tmod_eq_emod_of_nonneg (by omega), ← hr]; rfl
        have f4 : IntKind.i64.wrap ((i : Int) + (r : Int)) = (j : Int) := by rw [IntKind.wrap_i64]; omega
        have f5 : ¬ (dd : Int) = 0 := by omega
        have f6 : IntKind.i64.wrap (r : Int) = (r : Int) := by rw [IntKind.wrap_i64]; omega
        have f7 : ¬ dd = 0 := by omega
        have j0 : (0 : Int) ≤ (j : Int) := by omega
        have j1 : (j : Int) < 16 := by omega
        obtain ⟨cs, hcs, hci⟩ := HA.out.rows
        have CS := Lib.hid hcs
        have hgT := Nat.le_of_lt HA.out.lo
        have x0 : wr.cell? ⟨g, i, none⟩ = some (V (σ i)) := CS.out.val (hci i hi16)
        have x1 : wr.cell? ⟨g, j, none⟩ = some (V (σ j)) := CS.out.val (hci j hj16)
        have zf : ∀ k, wr.frozen? ⟨g, k, none⟩ = false := CS.out.free
        have W1 := Lib.hid (sw1 hi16 hj16 hci)
        have INJ2 := Lib.hid (sw_inj hi16 hj16 HA.out.inj)
        have RNG2 := Lib.hid (sw_rng hi16 hj16 HA.out.rng)
        rw [HVI.out (σ i)] at x0 W1
        rw [HVI.out (σ j)] at x1 W1
        obtain ⟨X, hX⟩ : ∃ X, mkT (lineL (σ i) (v (σ i))) = X := ⟨_, rfl⟩
        obtain ⟨Y, hY⟩ : ∃ Y, mkT (lineL (σ j) (v (σ j))) = Y := ⟨_, rfl⟩
        rw [hX] at x0 W1
        rw [hY] at x1 W1
        clear hdd hr hj hci hX hY hcs
        go_upto_region 10 with fail
        refine begun (fun w' => w'.cell? ⟨g, i, none⟩ = some (.string X) ∧ w'.cell? ⟨g, j, none⟩ = some (.string Y)) [13, 15] (by kernel_rfl) ⟨x0, x1⟩ (fun hShut hHeld => ?_)
        refine anyB_takeW (i := 0) (v := ?_) rfl (by kernel_rfl) (by kernel_rfl) (by kernel_rfl) (by kernel_rfl) (fun _ _ _ h => h) hShut (fun _ => hHeld) (Or.inl ⟨by rfl, ?_⟩) (fun hShut => ?_)
        case refine_2 => (rintro wz -; go_simp; try with_reducible rfl)
        try simp only [Act.put, List.setIfInBounds_toArray, List.set_cons_zero, List.set_cons_succ]
        refine anyB_takeW (i := 1) (v := ?_) rfl (by kernel_rfl) (by kernel_rfl) (by kernel_rfl) (by kernel_rfl) (fun _ _ _ h => h) hShut (fun _ => hHeld) (Or.inl ⟨by rfl, ?_⟩) (fun hShut => ?_)
        case refine_2 => (rintro wz -; go_simp; try with_reducible rfl)
        try simp only [Act.put, List.setIfInBounds_toArray, List.set_cons_zero, List.set_cons_succ]
        refine anyB_takeW (i := 2) (v := ?_) rfl (by kernel_rfl) (by kernel_rfl) (by kernel_rfl) (by kernel_rfl) (fun _ _ _ h => h) hShut (fun _ => hHeld) (Or.inl ⟨by rfl, ?_⟩) (fun hShut => ?_)
        case refine_2 => (rintro wz -; go_simp; try with_reducible rfl)
        try simp only [Act.put, List.setIfInBounds_toArray, List.set_cons_zero, List.set_cons_succ]
        refine anyB_takeW (i := 3) (v := ?_) rfl (by kernel_rfl) (by kernel_rfl) (by kernel_rfl) (by kernel_rfl) (fun _ _ _ h => h) hShut (fun _ => hHeld) (Or.inl ⟨by rfl, ?_⟩) (fun hShut => ?_)
        case refine_2 => (rintro wz -; go_simp; try with_reducible rfl)
        try simp only [Act.put, List.setIfInBounds_toArray, List.set_cons_zero, List.set_cons_succ]
        refine anyB_takeW (i := 4) (v := ?_) rfl (by kernel_rfl) (by kernel_rfl) (by kernel_rfl) (by kernel_rfl) (fun _ _ _ h => h) hShut (fun _ => hHeld) (Or.inl ⟨by rfl, ?_⟩) (fun hShut => ?_)
        case refine_2 => (rintro wz -; go_simp; try with_reducible rfl)
        try simp only [Act.put, List.setIfInBounds_toArray, List.set_cons_zero, List.set_cons_succ]
        refine anyB_takeW (i := 5) (v := ?_) rfl (by kernel_rfl) (by kernel_rfl) (by kernel_rfl) (by kernel_rfl) (fun _ _ _ h => h) hShut (fun _ => hHeld) (Or.inl ⟨by rfl, ?_⟩) (fun hShut => ?_)
        case refine_2 => (rintro wz -; go_simp; try with_reducible rfl)
        try simp only [Act.put, List.setIfInBounds_toArray, List.set_cons_zero, List.set_cons_succ]
        refine anyB_takeW (i := 6) (v := ?_) rfl (by kernel_rfl) (by kernel_rfl) (by kernel_rfl) (by kernel_rfl) (fun _ _ _ h => h) hShut (fun _ => hHeld) (Or.inl ⟨by rfl, ?_⟩) (fun hShut => ?_)
        case refine_2 => (rintro wz -; go_simp; try with_reducible rfl)
        try simp only [Act.put, List.setIfInBounds_toArray, List.set_cons_zero, List.set_cons_succ]
        refine anyB_take 9 (i := 7) (v := ?_) rfl (by kernel_rfl) (by kernel_rfl) (by kernel_rfl) (by kernel_rfl) (by kernel_rfl) (fun _ _ _ h => h) hShut hHeld (Or.inl ⟨by rfl, ?_⟩) (fun hShut => ?_)
        case refine_2 => (rintro wz ⟨sz0, sz1⟩; go_simp; try with_reducible rfl)
        try simp only [Act.put, List.setIfInBounds_toArray, List.set_cons_zero, List.set_cons_succ]
        refine anyB_takeW (i := 8) (v := ?_) rfl (by kernel_rfl) (by kernel_rfl) (by kernel_rfl) (by kernel_rfl) (fun _ _ _ h => h) hShut (fun _ => hHeld) (Or.inl ⟨by rfl, ?_⟩) (fun hShut => ?_)
        case refine_2 => (rintro wz -; go_simp; try with_reducible rfl)
        try simp only [Act.put, List.setIfInBounds_toArray, List.set_cons_zero, List.set_cons_succ]
        refine anyB_takeW (i := 9) (v := ?_) rfl (by kernel_rfl) (by kernel_rfl) (by kernel_rfl) (by kernel_rfl) (fun _ _ _ h => h) hShut (fun _ => hHeld) (Or.inl ⟨by rfl, ?_⟩) (fun hShut => ?_)
        case refine_2 => (rintro wz -; go_simp; try with_reducible rfl)
        try simp only [Act.put, List.setIfInBounds_toArray, List.set_cons_zero, List.set_cons_succ]
        refine anyB_takeW (i := 10) (v := ?_) rfl (by kernel_rfl) (by kernel_rfl) (by kernel_rfl) (by kernel_rfl) (fun _ _ _ h => h) hShut (fun _ => hHeld) (Or.inl ⟨by rfl, ?_⟩) (fun hShut => ?_)
        case refine_2 => (rintro wz -; go_simp; try with_reducible rfl)
        try simp only [Act.put, List.setIfInBounds_toArray, List.set_cons_zero, List.set_cons_succ]
        refine anyB_take 9 (i := 11) (v := ?_) rfl (by kernel_rfl) (by kernel_rfl) (by kernel_rfl) (by kernel_rfl) (by kernel_rfl) (fun _ _ _ h => h) hShut hHeld (Or.inl ⟨by rfl, ?_⟩) (fun hShut => ?_)
        case refine_2 => (rintro wz ⟨sz0, sz1⟩; go_simp; try with_reducible rfl)
        try simp only [Act.put, List.setIfInBounds_toArray, List.set_cons_zero, List.set_cons_succ]
        refine anyB_takeW (i := 12) (v := ?_) rfl (by kernel_rfl) (by kernel_rfl) (by kernel_rfl) (by kernel_rfl) (fun _ _ _ h => h) hShut (fun _ => hHeld) (Or.inl ⟨by rfl, ?_⟩) (fun hShut => ?_)
        case refine_2 => (rintro wz -; go_simp; try with_reducible rfl)
        try simp only [Act.put, List.setIfInBounds_toArray, List.set_cons_zero, List.set_cons_succ]
        refine anyB_each (rs := [13]) hShut (by kernel_rfl) (by simp) ?_
        refine List.forall_mem_cons.2 ⟨fun hShut => wpOp_step rfl (fun K hK => ?_), ?_⟩
        · go_simp
          refine unheld hK (by kernel_rfl) ?_
          clear hK K
          have g1 : Blk (World.drew (World.setCell wr ⟨g, i, none⟩ (.string Y))) g sT (cs.setIfInBounds i (.string Y)) := CS.out.set_ i _
          have k2 : CfBox (World.drew (World.setCell wr ⟨g, i, none⟩ (.string Y))) w.heap.size c := HA.out.box.far _ (Nat.ne_of_lt HA.out.lo)
          have k3 : Below w.heap.size w (World.drew (World.setCell wr ⟨g, i, none⟩ (.string Y))) := (HA.out.be.setCell hgT _).drew
          revert g1 k2 k3
          generalize (World.drew (World.setCell wr ⟨g, i, none⟩ (.string Y))) = wq
          intro g1 k2 k3
          have G1 := Lib.hid g1
          have K2 := Lib.hid k2
          have K3 := Lib.hid k3
          have y1 : wq.cell? ⟨g, j, none⟩ = some (.string Y) := g1.val (by by_cases e : i = j; (subst e; exact get_set_same (by rw [CS.out.at_] at x0; exact (Array.getElem?_eq_some_iff.1 x0).1) _); (rw [get_set_far e, ← CS.out.at_]; exact x1))
          have zf2 : ∀ k, wq.frozen? ⟨g, k, none⟩ = false := g1.free
          have hlo := HA.out.lo
          clear g1 k2 k3 x0 x1 zf hHeld HA
          refine anyB_takeW (i := 14) (v := ?_) rfl (by kernel_rfl) (by kernel_rfl) (by kernel_rfl) (by kernel_rfl) (fun _ _ _ h => h) hShut (fun c => absurd c (by decide +kernel)) (Or.inl ⟨by rfl, ?_⟩) (fun hShut => ?_)
          case refine_2 => (rintro wz -; go_simp; try with_reducible rfl)
          try simp only [Act.put, List.setIfInBounds_toArray, List.set_cons_zero, List.set_cons_succ]
          refine anyB_each (rs := [15]) hShut (by kernel_rfl) (by simp) ?_
          refine List.forall_mem_cons.2 ⟨fun hShut => wpOp_step rfl (fun K hK => ?_), ?_⟩
          · go_simp
            refine unheld hK (by kernel_rfl) ?_
            clear hK K
            refine anyB_done (by kernel_rfl) ?_ _
            go_wp2_with fail
            go_roundw
            case rel => exact ⟨i + 1, _, by omega, by go_num, ⟨_, G1.out.set_ j _, W1.out⟩, INJ2.out, RNG2.out, hlo, K2.out.far _ (Nat.ne_of_lt hlo), K3.out.setCell hgT _⟩
            case measure => simp [intOf]; omega
          · exact fun _ h => by cases h
        · exact fun _ h => by cases h
      · have i3 : ¬ (i : Int) < 16 := by omega
        have i4 : decide ((i : Int) < 16) = false := decide_eq_false i3
        go_wp2_with fail
        go_roundw
        case rel => exact ⟨i + 1, σ, by omega, by go_num, HA.out⟩
        case measure => simp [intOf]; omega
    · have e : i = len := by omega
      subst e
      have HVF := Lib.hid (vOf_fits HC.out)
      rw [HVC.out] at HVF
      have HN := Lib.hid (fun k (hk : k ≤ 16) => ord_len HVF.out HA.out.rng (ag := ag) (d := d) (k := k) hk)
      go_wp2_with fail
      go_loopw [13, 59] (fun s13 s59 wz => ∃ k : Nat, k ≤ 16 ∧ s13 = .string (ordT v σ ag d k) ∧ s59 = .int .i64 (k : Int) ∧ wz = wr) (fun _ s _ => 17 - (intOf s).toNat)
      case atStart => exact ⟨0, by omega, by cases ag <;> rfl, rfl, rfl⟩
      case round =>
        obtain ⟨k, hk, rfl, rfl, rfl⟩ := hrel
        have k0 : (0 : Int) ≤ (k : Int) := by omega
        have kw : IntKind.i64.wrap ((k : Int) + 1) = (k : Int) + 1 := IntWalk.i64_in _ (by omega)
        by_cases hk16 : k < 16
        · obtain ⟨cs, hcs, hci⟩ := HA.out.rows
          have x0 : wr.cell? ⟨g, k, none⟩ = some (V (σ k)) := hcs.val (hci k hk16)
          rw [HVI.out (σ k)] at x0
          have ho1 := @ord_once v σ ag d k
          have ho2 := @ord_twice v σ ag d k
          have hsz := (HN.out k hk).1
          have hlx : (mkT (lineL (σ k) (v (σ k)))).size ≤ 120 := by rw [mkT_size]; exact line_short _ _ (HA.out.rng k hk16) (HVF.out _ (HA.out.rng k hk16)).1 (HVF.out _ (HA.out.rng k hk16)).2
          obtain ⟨X, hX⟩ : ∃ X, mkT (lineL (σ k) (v (σ k))) = X := ⟨_, rfl⟩
          obtain ⟨S, hS⟩ : ∃ S, ordT v σ ag d k = S := ⟨_, rfl⟩
          obtain ⟨S1, hS1⟩ : ∃ S, ordT v σ ag d (k + 1) = S := ⟨_, rfl⟩
          rw [hX] at x0 ho1 ho2 hlx
          rw [hS] at ho1 ho2 hsz
          rw [hS1] at ho1 ho2
          rw [hS]
          have a1 : (X ++ ⟨#[10]⟩).size = X.size + 1 := by rw [ByteArray.size_append]; rfl
          have a2 : (S ++ (X ++ ⟨#[10]⟩)).size = S.size + (X.size + 1) := by rw [ByteArray.size_append, a1]
          have b0 : (⟨#[10]⟩ : ByteArray).size = 1 := rfl
          have q1 : ¬ 9223372036854775807 < X.size + (⟨#[10]⟩ : ByteArray).size := by omega
          have q2 : ¬ 9223372036854775807 < S.size + (X ++ ⟨#[10]⟩).size := by omega
          have q3 : ¬ 9223372036854775807 < (S ++ (X ++ ⟨#[10]⟩)).size + (X ++ ⟨#[10]⟩).size := by omega
          have r1 : ¬ 9223372036854775807 < X.size + 1 := by omega
          have r2 : ¬ 9223372036854775807 < S.size + (X.size + 1) := by omega
          have r3 : ¬ 9223372036854775807 < S.size + (X.size + 1) + (X.size + 1) := by omega
          have kk : (k : Int) < 16 := by omega
          have HO1 := Lib.hid ho1
          have HO2 := Lib.hid ho2
          have HS1 := Lib.hid hS1
          clear ho1 ho2 hS hS1 hX hsz hlx a1 a2 b0 hcs hci
          cases ag with
          | false =>
            have HE := Lib.hid (HO1.out (by simp))
            go_wp2_with fail
            go_roundw
            case rel => exact ⟨k + 1, by omega, by rw [HS1.out, ← HE.out], by go_num, by trivial⟩
            case measure => simp [intOf]; omega
          | true =>
            by_cases hkd : k = d
            · have HE := Lib.hid (HO2.out ⟨rfl, hkd⟩)
              subst hkd
              go_wp2_with fail
              go_roundw
              case rel => exact ⟨k + 1, by omega, by rw [HS1.out, ← HE.out], by go_num, by trivial⟩
              case measure => simp [intOf]; omega
            · have HE := Lib.hid (HO1.out (by simp [hkd]))
              have hkb : ((k : Int) == (d : Int)) = false := by simp; omega
              go_wp2_with fail
              go_roundw
              case rel => exact ⟨k + 1, by omega, by rw [HS1.out, ← HE.out], by go_num, by trivial⟩
              case measure => simp [intOf]; omega
        · have e : k = 16 := by omega
          subst e
          have HSZ := Lib.hid (HN.out 16 (Nat.le_refl _)).1
          have hPS := fun (wq : World) (h : Std wq) => parse_short (ordT v σ ag d 16) (by have := HSZ.out; omega) wq h
          have hbk := ord_back c HC.out HA.out.rng HA.out.inj d
          have hag := ord_again c HC.out HA.out.rng HA.out.inj d hd16
          rw [HVC.out] at hbk hag
          obtain ⟨ve, hve⟩ : ∃ z, validE c = z := ⟨_, rfl⟩
          have hV := valid_any c
          rw [hve] at hbk hV
          have hvo : ve = 0 ∨ ve = 1 := by rw [← hve]; exact validE_or c
          have HV := Lib.hid hV
          clear hV hve
          have HB := Lib.hid HA.out.box
          have HW := Lib.hid HA.out.be
          clear HA HN
          cases ag with
          | true =>
            have hz : endV (linesE ((ordT v σ true d 16).size + 1) (ordT v σ true d 16) (fun _ => false) dfv) = Cf.zero := by unfold endV; rw [hag, if_neg (by decide)]; rfl
            rw [hag, hz] at hPS
            obtain ⟨S, hS⟩ : ∃ S, ordT v σ true d 16 = S := ⟨_, rfl⟩
            rw [hS] at hPS
            rw [hS]
            have HP := Lib.hid hPS
            clear hPS hag hbk hz hS HSZ
            go_wp2_with fail
            refine (HP.out _ (HS.out.below HW.out)).mono ?_
            rintro e x7 ⟨rfl, hw7⟩
            simp only [Cf.zero]
            go_wp2_with fail
            go_ret
            exact ⟨rfl, (HW.out.trans (hw7.mono HW.out.size)).alloc (by have := HW.out.size; have := hw7.size; omega) _⟩
          | false =>
            rw [hbk.1, hbk.2] at hPS
            obtain ⟨S, hS⟩ : ∃ S, ordT v σ false d 16 = S := ⟨_, rfl⟩
            rw [hS] at hPS
            rw [hS]
            have HP := Lib.hid hPS
            clear hPS hag hbk hS HSZ
            go_wp2_with fail
            refine (HP.out _ (HS.out.below HW.out)).mono ?_
            rintro e x7 ⟨rfl, hw7⟩
            have HB7 := Lib.hid (HB.out.below_ hw7 HB.out.size)
            have HW7 := Lib.hid (HW.out.trans (hw7.mono HW.out.size))
            clear hw7 HB HW
            rcases hvo with rfl | rfl
            · rw [if_pos (by rfl)]
              go_upto_region 21 with fail
              refine wp_worldx (fun wx => CfBox wx w.heap.size c ∧ CfBox wx x7.heap.size c ∧ Below w.heap.size w wx) ⟨HB7.out.alloc_ _, Blk.made _ _ _, HW7.out.alloc HW7.out.size _⟩ ?_
              rintro x8 ⟨hb8, hd8, hw8⟩
              have HB8 := Lib.hid hb8
              have HD8 := Lib.hid hd8
              have HW8 := Lib.hid hw8
              clear hb8 hd8 hw8 HB7 HW7
              go_wp2_with (refine wpList_load_row rfl 24 (.tmp 4) rfl _ rfl _ #[.int .i64 c.ti, .int .i64 c.ro, .int .i64 c.ta, .int .i64 c.iv, .int .i64 c.hg, .int .i64 c.lo, .int .i64 c.dw, .int .i64 c.ho, .int .i64 c.sp, .int .i64 c.kp, .int .i64 c.ki, .int .i64 c.kd, .int .i64 c.lm, .int .i64 c.st, .int .i64 c.th, .int .i64 c.rg] _ _ HB8.out Tryd.underlying24 rfl cf_info ?_)
              refine (HV.out _).mono ?_
              rintro e x9 ⟨rfl, hw9⟩
              have HB9 := Lib.hid (HB8.out.below_ hw9 HB8.out.size)
              have HD9 := Lib.hid (HD8.out.below_ hw9 HD8.out.size)
              have HW9 := Lib.hid (HW8.out.trans (hw9.mono (Nat.le_of_lt HB8.out.size)))
              clear hw9 HB8 HD8 HW8
              go_wp2_with (first | refine wpList_load_rowg (by kernel_rfl) 24 (.tmp 16) rfl _ rfl _ #[.int .i64 c.ti, .int .i64 c.ro, .int .i64 c.ta, .int .i64 c.iv, .int .i64 c.hg, .int .i64 c.lo, .int .i64 c.dw, .int .i64 c.ho, .int .i64 c.sp, .int .i64 c.kp, .int .i64 c.ki, .int .i64 c.kd, .int .i64 c.lm, .int .i64 c.st, .int .i64 c.th, .int .i64 c.rg] _ HD9.out Tryd.underlying24 rfl cf_info ?_ | refine wpList_load_rowg (by kernel_rfl) 24 (.tmp 4) rfl _ rfl _ #[.int .i64 c.ti, .int .i64 c.ro, .int .i64 c.ta, .int .i64 c.iv, .int .i64 c.hg, .int .i64 c.lo, .int .i64 c.dw, .int .i64 c.ho, .int .i64 c.sp, .int .i64 c.kp, .int .i64 c.ki, .int .i64 c.kd, .int .i64 c.lm, .int .i64 c.st, .int .i64 c.th, .int .i64 c.rg] _ HB9.out Tryd.underlying24 rfl cf_info ?_)
              go_ret
              exact ⟨by trivial, HW9.out⟩
            · rw [if_neg (by decide)]
              simp only [Cf.zero]
              go_upto_region 21 with fail
              refine wp_worldx (fun wx => CfBox wx w.heap.size c ∧ CfBox wx x7.heap.size Cf.zero ∧ Below w.heap.size w wx) ⟨HB7.out.alloc_ _, Blk.made _ _ _, HW7.out.alloc HW7.out.size _⟩ ?_
              rintro x8 ⟨hb8, hd8, hw8⟩
              have HB8 := Lib.hid hb8
              have HD8 := Lib.hid hd8
              have HW8 := Lib.hid hw8
              clear hb8 hd8 hw8 HB7 HW7
              go_wp2_with (refine wpList_load_row rfl 24 (.tmp 4) rfl _ rfl _ #[.int .i64 c.ti, .int .i64 c.ro, .int .i64 c.ta, .int .i64 c.iv, .int .i64 c.hg, .int .i64 c.lo, .int .i64 c.dw, .int .i64 c.ho, .int .i64 c.sp, .int .i64 c.kp, .int .i64 c.ki, .int .i64 c.kd, .int .i64 c.lm, .int .i64 c.st, .int .i64 c.th, .int .i64 c.rg] _ _ HB8.out Tryd.underlying24 rfl cf_info ?_)
              refine (HV.out _).mono ?_
              rintro e x9 ⟨rfl, hw9⟩
              have HB9 := Lib.hid (HB8.out.below_ hw9 HB8.out.size)
              have HD9 := Lib.hid (HD8.out.below_ hw9 HD8.out.size)
              have HW9 := Lib.hid (HW8.out.trans (hw9.mono (Nat.le_of_lt HB8.out.size)))
              clear hw9 HB8 HD8 HW8
              go_wp2_with (first | refine wpList_load_rowg (by kernel_rfl) 24 (.tmp 16) rfl _ rfl _ #[.int .i64 0, .int .i64 0, .int .i64 0, .int .i64 0, .int .i64 0, .int .i64 0, .int .i64 0, .int .i64 0, .int .i64 0, .int .i64 0, .int .i64 0, .int .i64 0, .int .i64 0, .int .i64 0, .int .i64 0, .int .i64 0] _ HD9.out Tryd.underlying24 rfl cf_info ?_ | refine wpList_load_rowg (by kernel_rfl) 24 (.tmp 4) rfl _ rfl _ #[.int .i64 c.ti, .int .i64 c.ro, .int .i64 c.ta, .int .i64 c.iv, .int .i64 c.hg, .int .i64 c.lo, .int .i64 c.dw, .int .i64 c.ho, .int .i64 c.sp, .int .i64 c.kp, .int .i64 c.ki, .int .i64 c.kd, .int .i64 c.lm, .int .i64 c.st, .int .i64 c.th, .int .i64 c.rg] _ HB9.out Tryd.underlying24 rfl cf_info ?_)
              go_ret
              exact ⟨by trivial, HW9.out⟩
end Go.Proofs.YtbajmmgdnegoiaaDoor
