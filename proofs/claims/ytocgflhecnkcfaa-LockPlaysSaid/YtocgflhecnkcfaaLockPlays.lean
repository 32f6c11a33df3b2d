/- LockPlays is true of every list of small numbers, and changes nothing that it was given. -/
import Derived.Test.YtocgflhecnkcfaaLkd
import Derived.Test.YtocgflhecnkcfaaLke
import Derived.Test.YtocgflhecnkcfaaRowb
import Derived.Test.YtocgflhecnkcfaaRows
import Derived.WalkKit
import Derived.ProofKit
import Derived.OpenShut
import Derived.Deep.DeepCutAuto
namespace Go.Proofs.Ytocgflhecnkcfaa.lockPlays
open Go.ChangeShapes Go.WideShapes Go.ChangeAt Go.RowKit
set_option linter.unusedVariables false
theorem own : ownKnob Try.prog.godebug = none := by kernel_rfl
theorem laidOut : laidOutB Try.prog = true := by kernel_rfl
theorem reads : (Try.f3.params.toList.all fun t => Try.prog.readableRec t && decide (t < Try.prog.types.size)) = true := by kernel_rfl
set_option maxRecDepth 100000 in
set_option maxHeartbeats 8000000 in
theorem walk (A : Option Addr) (len cap : Nat) (K : Nat → Int) (w : World) (hlc : len ≤ cap) (hcm : cap ≤ maxLen) (hK : SeqAt w w.heap.size A len 1 (fun i => [.int .i8 (K i)])) (hok : ∀ i, -128 ≤ K i ∧ K i ≤ 127) :
    Calls Try.prog 3 #[.slice A len cap] w fun e w' => e = .returned (.bool true) ∧ Below w.heap.size w w' := by
  unfold maxLen at hcm
  have HK := Lib.hid hK
  have HO := Lib.hid hok
  clear hK hok
  go_enter Try.func3, Try.ntmps3
  go_wp2_with fail
  refine (awake19 _).mono ?_
  rintro e w1 ⟨rfl, hb⟩
  have B1 := Lib.hid hb
  clear hb
  go_wp2_with fail
  refine (lk_new _).mono ?_
  rintro e w2 ⟨rfl, h2, b2⟩
  obtain ⟨l, hl⟩ : ∃ l, w1.heap.size = l := ⟨_, rfl⟩
  have hwl : w.heap.size ≤ l := by have := B1.out.size; omega
  have B2 := Lib.hid (B1.out.trans (b2.mono B1.out.size))
  rw [hl] at h2 ⊢
  have H2 := Lib.hid h2
  clear h2 b2 hl B1
  go_upto_region 4 with fail
  refine wp_worldx (fun wx => LkAt wx l (-1) ∧ DLk wx w2.heap.size (-1) ∧ Below w.heap.size w wx) ⟨Blk.alloc_ H2.out _, Blk.made _ _ _, B2.out.alloc B2.out.size _⟩ ?_
  obtain ⟨x, hx⟩ : ∃ x, w2.heap.size = x := ⟨_, rfl⟩
  have hwx : w.heap.size ≤ x := by have := B2.out.size; omega
  rw [hx]
  clear hx H2 B2
  rintro w3 ⟨h1, h2, h3⟩
  have H1 := Lib.hid h1
  have H2 := Lib.hid h2
  have H3 := Lib.hid h3
  clear h1 h2 h3
  go_wp2_with fail
  go_loopw [17] (fun s17 wr => ∃ k : Nat, k ≤ len ∧ s17 = .int .i64 (k : Int) ∧ ∃ o : Int, -1 ≤ o ∧ LkAt wr l o ∧ DLk wr x o ∧ Below w.heap.size w wr) (fun i _ => len - (intOf i).toNat)
  case atStart => exact ⟨0, Nat.zero_le _, rfl, -1, by omega, H1.out, H2.out, H3.out⟩
  case round =>
    clear H1 H2 H3
    obtain ⟨k, hk, rfl, o, o0, h1, h2, h3⟩ := hrel
    have H1 := Lib.hid h1
    have H2 := Lib.hid h2
    have H3 := Lib.hid h3
    clear h1 h2 h3
    by_cases hlt : k < len
    · have k0 : (0 : Int) ≤ (k : Int) := by omega
      have k1 : (k : Int) < (len : Int) := by omega
      by_cases h100 : 100 ≤ k
      · have h100' : (100 : Int) ≤ (k : Int) := by omega
        obtain ⟨kb, ko, rfl, hkb, hkc⟩ := HK.out (by omega)
        have q0 : wr.cell? ⟨kb, ko + k, none⟩ = some (.int .i8 (K k)) := by
          have := hkc k hlt 0 (by omega)
          rw [Nat.mul_one] at this
          exact (H3.out.cell (p := ⟨kb, ko + k, none⟩) hkb).trans this
        clear hkc
        go_wp2_with fail
        go_ret
        exact ⟨rfl, H3.out⟩
      · have h100' : ¬ (100 : Int) ≤ (k : Int) := by omega
        obtain ⟨kb, ko, rfl, hkb, hkc⟩ := HK.out (by omega)
        have q0 : wr.cell? ⟨kb, ko + k, none⟩ = some (.int .i8 (K k)) := by
          have := hkc k hlt 0 (by omega)
          rw [Nat.mul_one] at this
          exact (H3.out.cell (p := ⟨kb, ko + k, none⟩) hkb).trans this
        clear hkc
        obtain ⟨q, hq⟩ : ∃ q, wrap64 (IntKind.i8.wrap ((K k).tdiv 2)) = q := ⟨_, rfl⟩
        by_cases hm : (K k).tmod 2 = 0
        · go_wp2_with fail
          refine (lk_try l o q _ H1.out).mono ?_
          rintro e w4 ⟨hv0, h4, k4⟩
          obtain ⟨d, hd0⟩ : ∃ d : Bool, decide (0 ≤ q ∧ o = -1) = d := ⟨_, rfl⟩
          rw [hd0] at hv0
          subst hv0
          have HD := Lib.hid hd0
          clear hd0
          have hne : ¬ x = l := fun h => (Blk.other H1.out H2.out (by decide)) h.symm
          have hd := Blk.kept H2.out k4 hne
          have hb := H3.out.trans (k4.below (B := w.heap.size) (fun j hj => by omega) H3.out.size)
          have H4 := Lib.hid h4
          have D4 := Lib.hid hd
          have B4 := Lib.hid hb
          clear h4 k4 hd hb H1 H2 H3
          go_wp2_with fail
          refine (dk_try_ x o q _ D4.out o0).mono ?_
          rintro e w5 ⟨hv, h5, k5⟩
          have hne' : ¬ l = x := fun h => hne h.symm
          rw [HD.out] at hv
          subst hv
          have hl5 := Blk.kept H4.out k5 hne'
          have hb := B4.out.trans (k5.below (B := w.heap.size) (fun j hj => by omega) B4.out.size)
          obtain ⟨o', ho'⟩ : ∃ o' : Int, (if 0 ≤ q ∧ o = -1 then q else o) = o' := ⟨_, rfl⟩
          have ho0 : -1 ≤ o' := by rw [← ho']; split <;> omega
          rw [ho'] at h5
          replace hl5 : LkAt w5 l o' := by rw [← ho']; exact hl5
          have H5 := Lib.hid hl5
          have D5 := Lib.hid h5
          have B5 := Lib.hid hb
          have x0 : w5.cell? ⟨x, 0, none⟩ = some (.int .i64 o') := Blk.val h5 (i := 0) rfl
          clear hl5 h5 hb H4 D4 B4 k5 HD ho' o0 hne hne'
          by_cases hz : o' = -1
          · have hz' : ¬ 0 ≤ o' := by omega
            go_wp2_with fail
            refine (lk_owner l o' _ H5.out).mono ?_
            rw [show whoE o' = 0 from if_pos hz, show decide (o' ≠ -1) = false from decide_eq_false (fun h => h hz)]
            rintro e w6 ⟨rfl, rfl⟩
            go_wp2_with fail
            exact ⟨⟨k + 1, by omega, by simp, o', ho0, H5.out, D5.out, B5.out⟩, by simp [intOf]; omega⟩
          · have hz' : 0 ≤ o' := by omega
            go_wp2_with fail
            refine (lk_owner l o' _ H5.out).mono ?_
            rw [show whoE o' = o' from if_neg hz, show decide (o' ≠ -1) = true from decide_eq_true hz]
            rintro e w6 ⟨rfl, rfl⟩
            go_wp2_with fail
            exact ⟨⟨k + 1, by omega, by simp, o', ho0, H5.out, D5.out, B5.out⟩, by simp [intOf]; omega⟩
        · go_wp2_with fail
          refine (lk_free l o q _ H1.out).mono ?_
          rintro e w4 ⟨hv0, h4, k4⟩
          obtain ⟨d, hd0⟩ : ∃ d : Bool, decide (0 ≤ q ∧ o = q) = d := ⟨_, rfl⟩
          rw [hd0] at hv0
          subst hv0
          have HD := Lib.hid hd0
          clear hd0
          have hne : ¬ x = l := fun h => (Blk.other H1.out H2.out (by decide)) h.symm
          have hd := Blk.kept H2.out k4 hne
          have hb := H3.out.trans (k4.below (B := w.heap.size) (fun j hj => by omega) H3.out.size)
          have H4 := Lib.hid h4
          have D4 := Lib.hid hd
          have B4 := Lib.hid hb
          clear h4 k4 hd hb H1 H2 H3
          go_wp2_with fail
          refine (dk_free x o q _ D4.out).mono ?_
          rintro e w5 ⟨hv, h5, k5⟩
          have hne' : ¬ l = x := fun h => hne h.symm
          rw [HD.out] at hv
          subst hv
          have hl5 := Blk.kept H4.out k5 hne'
          have hb := B4.out.trans (k5.below (B := w.heap.size) (fun j hj => by omega) B4.out.size)
          obtain ⟨o', ho'⟩ : ∃ o' : Int, (if 0 ≤ q ∧ o = q then -1 else o) = o' := ⟨_, rfl⟩
          have ho0 : -1 ≤ o' := by rw [← ho']; split <;> omega
          rw [ho'] at h5
          replace hl5 : LkAt w5 l o' := by rw [← ho']; exact hl5
          have H5 := Lib.hid hl5
          have D5 := Lib.hid h5
          have B5 := Lib.hid hb
          have x0 : w5.cell? ⟨x, 0, none⟩ = some (.int .i64 o') := Blk.val h5 (i := 0) rfl
          clear hl5 h5 hb H4 D4 B4 k5 HD ho' o0 hne hne'
          by_cases hz : o' = -1
          · have hz' : ¬ 0 ≤ o' := by omega
            go_wp2_with fail
            refine (lk_owner l o' _ H5.out).mono ?_
            rw [show whoE o' = 0 from if_pos hz, show decide (o' ≠ -1) = false from decide_eq_false (fun h => h hz)]
            rintro e w6 ⟨rfl, rfl⟩
            go_wp2_with fail
            exact ⟨⟨k + 1, by omega, by simp, o', ho0, H5.out, D5.out, B5.out⟩, by simp [intOf]; omega⟩
          · have hz' : 0 ≤ o' := by omega
            go_wp2_with fail
            refine (lk_owner l o' _ H5.out).mono ?_
            rw [show whoE o' = o' from if_neg hz, show decide (o' ≠ -1) = true from decide_eq_true hz]
            rintro e w6 ⟨rfl, rfl⟩
            go_wp2_with fail
            exact ⟨⟨k + 1, by omega, by simp, o', ho0, H5.out, D5.out, B5.out⟩, by simp [intOf]; omega⟩
    · obtain rfl : k = len := by omega
      go_wp2_with fail
      go_ret
      exact ⟨rfl, H3.out⟩
set_option maxRecDepth 100000 in
theorem lifted (os : Os) (started : os.Started) (H : Type) (enc : TypeId × Value → H) :
    ReturnsInHanded {} Try.checked os 3 .any (Rows.lockPlaysSpec.pre6 enc Try.prog Try.f3 Rows.lockPlaysRow.domain false) (Rows.lockPlaysSpec.post enc Try.prog Try.f3 false true false false) := by
  refine returnsInHanded_of_change (C := Try.checked) own started (by kernel_rfl) Try.func3
    (ChangeSpec.witness6 (enc := enc) (C := Try.checked) false ⟨#[], #[.slice none 0 0], []⟩ 8 (by kernel_rfl) (by kernel_rfl) (by kernel_rfl) (by kernel_rfl)) ?_
  intro W base args ds gs before hval0 hW hcnd _
  have hval : ∀ (j : Nat) t v, Try.f3.params[j]? = some t → args[j]? = some v → Value.okWide Try.prog W .any base t v := hval0
  have hW' := hW
  obtain ⟨p, q, hA0, hV, rfl, hfz, hnd⟩ := hW
  have hA : DataW.TrodAll enc Try.prog W 0 (fun _ => true) true Try.f3.params.toList args.toList ds p := hA0
  rw [Try.params3] at hA hval
  obtain ⟨v0, vs0, d0, ds0, p0, q0, hargs, rfl, rfl, h0, r0⟩ := trodAll_cons hA
  obtain ⟨rfl, rfl, rfl⟩ := trodAll_nil r0
  obtain rfl : args = #[v0] := by cases args; simp_all
  obtain ⟨rfl, rfl⟩ := trodVars_none hV
  obtain ⟨A0, len0, cap0, rfl⟩ := okWide_slice Try.underlying22 (hval 0 _ v0 rfl rfl)
  obtain ⟨fu0, g0⟩ := h0
  obtain ⟨s0, t0, Q0, u0, o0⟩ := open_i8s g0
  clear hA0 hval0
  refine (walk A0 len0 cap0 Q0 W s0 t0 u0 o0).mono fun e W' ⟨he, hg⟩ => ?_
  subst he
  exact ⟨_, rfl, post_of_law hW' rfl laidOut reads rfl Try.underlying4 rfl rfl rfl hg⟩
theorem over : Rows.lockPlaysRow.holds Try.pinned (OpenSpec.ofChange Rows.lockPlaysSpec) :=
  OpenClaim.holds_of_wide 3 Try.f3 rfl rfl rfl rfl rfl rfl rfl ⟨rfl, rfl, rfl, rfl, rfl⟩ rfl rfl rfl rfl rfl (by kernel_rfl) Try.func3 (by kernel_rfl)
    (of_decide_eq_true (by kernel_rfl)) (by unfold Func.isWrapper; first | (rw [if_pos (by decide +kernel)]; kernel_rfl) | (rw [if_neg (by decide +kernel)]; exact ⟨rfl, rfl⟩))
    (fun os started H enc _ => lifted os started H enc)
theorem proved : Rows.LockPlaysSaid := over
end Go.Proofs.Ytocgflhecnkcfaa.lockPlays
