/- DequePlays is true of every number of rows, every room and every script of calls, and changes nothing that it was given. -/
import Derived.Test.YtgjfigjebojjdaaDlike
import Derived.Test.YtgjfigjebojjdaaDact
import Derived.Test.YtgjfigjebojjdaaRowb
import Derived.Test.YtgjfigjebojjdaaRows
import Derived.WalkKit
import Derived.ProofKit
import Derived.OpenShut
import Derived.Deep.DeepCutAuto
import Derived.Deep.RegionHeld3
import Derived.Deep.DrawnRows
namespace Go.Proofs.Ytgjfigjebojjdaa.dequePlays
open Go.ChangeShapes Go.WideShapes Go.ChangeAt Go.RowKit
set_option linter.unusedVariables false
theorem own : ownKnob Try.prog.godebug = none := by kernel_rfl
theorem laidOut : laidOutB Try.prog = true := by kernel_rfl
theorem reads : (Try.f8.params.toList.all fun t => Try.prog.readableRec t && decide (t < Try.prog.types.size)) = true := by kernel_rfl
theorem not_ownD {w : World} {p a b N M : Nat} {n : Nat → Nat} {A : Nat → Nat → Nat} {ub : Int} (h : RowsAt w p a b N M n A ub) : ¬ ownD w p ∧ ¬ ownD w a ∧ ¬ ownD w b := by
  have hk : ∀ k, k = p ∨ k = a ∨ k = b → ¬ ownD w k := by
    rintro k hk ⟨cs, hb | hb⟩
    · exact h.apart hb (by decide) (by decide) (by decide) hk
    · exact h.apart hb (by decide) (by decide) (by decide) hk
  exact ⟨hk p (.inl rfl), hk a (.inr (.inl rfl)), hk b (.inr (.inr rfl))⟩
theorem apart_ref {w : World} {p a b N M : Nat} {n : Nat → Nat} {A : Nat → Nat → Nat} {ub : Int} (h : RowsAt w p a b N M n A ub) (k : Nat) (t : TypeId) (cs : Array Value) (hb : Blk w k t cs) (ht : t = 130 ∨ t = 59 ∨ t = 3) : ¬ (k = a ∨ k = b) := by
  intro c
  have c' : k = p ∨ k = a ∨ k = b := .inr c
  rcases ht with rfl | rfl | rfl
  · exact h.apart hb (by decide) (by decide) (by decide) c'
  · exact h.apart hb (by decide) (by decide) (by decide) c'
  · exact h.apart hb (by decide) (by decide) (by decide) c'
attribute [local go_sem ↓] Go.wp_at_zero Go.wp_at_succ
set_option maxRecDepth 100000 in
set_option maxHeartbeats 8000000 in
theorem walk (x y : Int) (A : Option Addr) (len cap : Nat) (Q : Nat → Dq) (w : World) (hl : len ≤ cap) (hc : cap ≤ maxLen) (hQ : SeqAt w w.heap.size A len 3 (fun i => dqRow (Q i))) (hok : ∀ i, i < len → (Q i).ok) (x0 : 0 ≤ x) (x1 : x ≤ 255) (y0 : 0 ≤ y) (y1 : y ≤ 255) :
    Calls Try.prog 8 #[.int .u8 x, .int .u8 y, .slice A len cap] w fun e w' => e = .returned (.bool true) ∧ Below w.heap.size w w' := by
  unfold maxLen at hc
  obtain ⟨N, hN⟩ : ∃ N : Nat, 1 + x % 8 = (N : Int) := ⟨(1 + x % 8).toNat, by omega⟩
  obtain ⟨M, hM⟩ : ∃ M : Nat, 1 + y % 20 = (M : Int) := ⟨(1 + y % 20).toNat, by omega⟩
  have n0 : 1 ≤ N := by omega
  have n1 : N ≤ 8 := by omega
  have m0 : 1 ≤ M := by omega
  have m1 : M ≤ 20 := by omega
  have HN := Lib.hid hN
  have HM := Lib.hid hM
  have HQ := Lib.hid hQ
  have HOK := Lib.hid hok
  clear hN hM hQ hok
  go_enter Try.func8, Try.ntmps8
  go_wp2_with (go_at_call 32; refine (awaked _).mono ?_; rintro e w0 ⟨rfl, hb0⟩)
  rw [HN.out, HM.out]
  refine (dnew_yes N M _ n0 n1 m0 (by omega)).mono ?_
  rintro e w1 ⟨p, a, b, rfl, hp, ha, hb, h1, hbw⟩
  have h2 : RowsL w1 p a b N M (fun _ => []) 0 := ⟨_, _, _, _, _, _, _, h1, Rep.start N M, fun _ => ⟨by simp, by simp⟩⟩
  have hb1 := hb0.trans (hbw.mono hb0.size)
  have hz0 := hb0.size
  have hz1 := hbw.size
  have H2 := Lib.hid h2
  have HB1 := Lib.hid hb1
  have ⟨hl1, hl2, hl3⟩ := h2.lts
  clear h1 h2 hbw hb0 hb1
  go_wp2_with fail
  refine (rnew_any N M _ n0 n1).mono ?_
  rintro e w2 ⟨q, g, rc, v0, rfl, hr2, hb2⟩
  have R2 := Lib.hid (hr2.low (base' := w.heap.size) (by omega))
  have H3 := Lib.hid (RowsAt.below H2.out hb2 hl1 hl2 hl3)
  have HB2 := Lib.hid (HB1.out.trans (hb2.mono (by omega)))
  have ⟨k1, k2, k3⟩ := H3.out.lts
  clear hr2 hb2 H2 HB1 hl1 hl2 hl3
  go_wp2
  go_loopw [39] (fun s39 wr => ∃ (k : Nat) (L : Nat → List Nat) (v : Nat → Value), k ≤ len ∧ k ≤ 60 ∧ s39 = .int .i64 k ∧ RowsL wr p a b N M L (k : Int) ∧ RefAt wr w.heap.size q g N rc M L v ∧ Below w.heap.size w wr) (fun i _ => len - (intOf i).toNat)
  case atStart => exact ⟨0, _, _, Nat.zero_le _, Nat.zero_le _, rfl, H3.out, R2.out, HB2.out⟩
  case round =>
    obtain ⟨k, L, v, hk, hk60, rfl, hr, hf, hbr⟩ := hrel
    have hzr := hbr.size
    have ⟨hp1, hp2, hp3⟩ := hr.lts
    by_cases hlt : k < len
    · obtain ⟨kb, ko, rfl, hkb, hkc⟩ := HQ.out (by omega)
      have hq : ∀ j, j < 3 → wr.cell? ⟨kb, ko + k * 3 + j, none⟩ = (dqRow (Q k))[j]? := fun j hj => (hbr.cell hkb).trans (hkc k hlt j hj)
      have hqk := HOK.out k hlt
      obtain ⟨⟨d, r, i⟩, hqe⟩ : ∃ q, Q k = q := ⟨_, rfl⟩
      rw [hqe] at hq hqk
      obtain ⟨⟨d0, d1⟩, ⟨r0, r1⟩, ⟨i0, i1⟩⟩ := hqk
      have q0 : wr.cell? ⟨kb, ko + k * 3, none⟩ = some (.int .u8 d) := hq 0 (by omega)
      have q1 : wr.cell? ⟨kb, ko + k * 3 + 1, none⟩ = some (.int .i64 r) := hq 1 (by omega)
      have q2 : wr.cell? ⟨kb, ko + k * 3 + 2, none⟩ = some (.int .i64 i) := hq 2 (by omega)
      have hkr : kb < wr.heap.size := by omega
      have ht : d.tmod 5 = d % 5 := Int.tmod_eq_emod_of_nonneg d0
      clear hq hkc hqe
      by_cases h60 : k < 60
      · have ha0 := Blk.made wr 79 #[.int .u8 d, .int .i64 r, .int .i64 i]
        have AB := Lib.hid ha0
        have HR := Lib.hid (RowsAt.kept hr (own := fun _ => False) ((Kept.refl _ wr).alloc_ (.cells #[.int .u8 d, .int .i64 r, .int .i64 i] 79)) id id id)
        have HF := Lib.hid (hf.alloc_ (.cells #[.int .u8 d, .int .i64 r, .int .i64 i] 79))
        have HBR := Lib.hid (hbr.alloc hzr (.cells #[.int .u8 d, .int .i64 r, .int .i64 i] 79))
        have HLS := Lib.hid hr.lists
        clear ha0 hr hf
        by_cases hd : d % 5 < 3
        · have hdt : decide (d.tmod 5 < 3) = true := by rw [ht]; exact decide_eq_true hd
          clear ht
          have e1 := AB.out.val (i := 1) rfl
          have e2 := AB.out.val (i := 2) rfl
          go_wp2
          go_region_held3 (fun w' => w'.cell? ⟨wr.heap.size, 1, none⟩ = some (.int .i64 r) ∧ w'.cell? ⟨wr.heap.size, 2, none⟩ = some (.int .i64 i))
            (first | go_keep | exact ⟨AB5.out.val (i := 1) rfl, AB5.out.val (i := 2) rfl⟩ | exact ⟨AB6.out.val (i := 1) rfl, AB6.out.val (i := 2) rfl⟩)
            (first
              | (go_at_call 35; refine (push_any _ _ _ (RowsAt.kept HR.out (own := fun _ => False) (Kept.refl _ _).drew_ id id id) (by omega) (by omega)).mono ?_; rintro e w5 ⟨rfl, h5, k5⟩; have H5 := Lib.hid h5; have K5 := Lib.hid k5; have AB5 := Lib.hid (Blk.kept (w := (wr.alloc (.cells #[.int .u8 d, .int .i64 r, .int .i64 i] 79)).drew) AB.out K5.out (by omega)); clear h5 k5)
              | (go_at_call 36; have hx1 : w.heap.size ≤ w5.heap.size := (by have := K5.out.size; simp at this; omega); have hx2 : RefAt w5 w.heap.size q g N rc M L v := HF.out.drew_.kept K5.out (fun k t cs hb ht => apart_ref HR.out k t cs hb ht); refine (rpush_any _ _ _ hx2 HLS.out (by omega) hx1).mono ?_; rintro e w6 ⟨rfl, v', h6, b6, k6⟩; have H6 := Lib.hid h6; have K6 := Lib.hid k6; have B6 := Lib.hid b6; have AB6 := Lib.hid (AB5.out.kept K6.out (ownD_not AB5.out (by decide) (by decide))); clear h6 b6 k6))
          have HB6 := Lib.hid ((HBR.out.drew.trans (K5.out.below (B := w.heap.size) (fun g hg => by omega) (by simp; omega))).trans B6.out)
          have hno := not_ownD H5.out
          have HR6 := Lib.hid (RowsAt.kept H5.out K6.out hno.1 hno.2.1 hno.2.2)
          clear hno H5 K5 K6 AB5 B6 AB HR HF HBR
          have e3 := AB6.out.val (i := 2) rfl
          have ⟨z1, z2, z3⟩ := HR6.out.lts
          have z4 := AB6.out.size
          go_wp2_with fail
          go_region_held3 (fun w' => w'.cell? ⟨wr.heap.size, 2, none⟩ = some (.int .i64 i))
            (first | go_keep | exact AB7.out.val (i := 2) rfl)
            (first
              | (go_at_call 39; have hx3 : RowsL w6.drew p a b N M (pushQ N M L r i) ((k : Int) + 1) := RowsAt.kept HR6.out (own := fun _ => False) (Kept.refl _ _).drew_ id id id; have hx4 := H6.out.drew_; refine (like_any _ hx3 hx4 (by omega)).mono ?_; clear hx3 hx4; rintro e w7 ⟨rfl, b7x⟩; have b7 : Below w6.heap.size w6 w7 := ⟨b7x.os, b7x.tape, b7x.output, b7x.size, b7x.block⟩; clear b7x; have B7 := Lib.hid b7; have AB7 := Lib.hid (AB6.out.below_ b7 z4); have HR7 := Lib.hid (show RowsL w7 p a b N M (pushQ N M L r i) ((k : Int) + 1) from RowsAt.below HR6.out b7 z1 z2 z3); have H7 := Lib.hid (H6.out.below b7); clear b7)
              | (go_at_call 40; refine (where_any _ _ HR7.out).mono ?_; rintro e w8 ⟨rfl, rfl⟩)
              | (go_at_call 41; refine (rwhere_any _ _ H7.out (RowsL.lists HR7.out) (by omega)).mono ?_; rintro e w8 ⟨rfl, rfl⟩))
          go_wp2
          go_roundw
          case rel => exact ⟨k + 1, _, _, by omega, by omega, by go_num, HR7.out, H7.out, HB6.out.trans (B7.out.mono HB6.out.size)⟩
          case measure => simp [intOf]; omega
        · have hdt : decide (d.tmod 5 < 3) = false := by rw [ht]; exact decide_eq_false hd
          clear ht
          have e2 := AB.out.val (i := 2) rfl
          go_wp2
          go_region_held3 (fun w' => w'.cell? ⟨wr.heap.size, 2, none⟩ = some (.int .i64 i))
            (first | go_keep | exact AB5.out.val (i := 2) rfl | exact AB6.out.val (i := 2) rfl)
            (first
              | (go_at_call 37; refine (rem_any _ _ (RowsAt.kept HR.out (own := fun _ => False) (Kept.refl _ _).drew_ id id id) (by omega)).mono ?_; rintro e w5 ⟨rfl, h5, k5⟩; have H5 := Lib.hid h5; have K5 := Lib.hid k5; have AB5 := Lib.hid (Blk.kept (w := (wr.alloc (.cells #[.int .u8 d, .int .i64 r, .int .i64 i] 79)).drew) AB.out K5.out (by omega)); clear h5 k5)
              | (go_at_call 38; have hx1 : w.heap.size ≤ w5.heap.size := (by have := K5.out.size; simp at this; omega); have hx2 : RefAt w5 w.heap.size q g N rc M L v := HF.out.drew_.kept K5.out (fun k t cs hb ht => apart_ref HR.out k t cs hb ht); refine (rrem_any _ _ hx2 HLS.out (by omega) hx1).mono ?_; rintro e w6 ⟨rfl, v', h6, b6, k6⟩; have H6 := Lib.hid h6; have K6 := Lib.hid k6; have B6 := Lib.hid b6; have AB6 := Lib.hid (AB5.out.kept K6.out (ownD_not AB5.out (by decide) (by decide))); clear h6 b6 k6))
          have HB6 := Lib.hid ((HBR.out.drew.trans (K5.out.below (B := w.heap.size) (fun g hg => by omega) (by simp; omega))).trans B6.out)
          have hno := not_ownD H5.out
          have HR6 := Lib.hid (RowsAt.kept H5.out K6.out hno.1 hno.2.1 hno.2.2)
          clear hno H5 K5 K6 AB5 B6 AB HR HF HBR
          have e3 := AB6.out.val (i := 2) rfl
          have ⟨z1, z2, z3⟩ := HR6.out.lts
          have z4 := AB6.out.size
          go_wp2_with fail
          go_region_held3 (fun w' => w'.cell? ⟨wr.heap.size, 2, none⟩ = some (.int .i64 i))
            (first | go_keep | exact AB7.out.val (i := 2) rfl)
            (first
              | (go_at_call 39; have hx3 : RowsL w6.drew p a b N M (remQ N M L i) (k : Int) := RowsAt.kept HR6.out (own := fun _ => False) (Kept.refl _ _).drew_ id id id; have hx4 := H6.out.drew_; refine (like_any _ hx3 hx4 (by omega)).mono ?_; clear hx3 hx4; rintro e w7 ⟨rfl, b7x⟩; have b7 : Below w6.heap.size w6 w7 := ⟨b7x.os, b7x.tape, b7x.output, b7x.size, b7x.block⟩; clear b7x; have B7 := Lib.hid b7; have AB7 := Lib.hid (AB6.out.below_ b7 z4); have HR7 := Lib.hid (show RowsL w7 p a b N M (remQ N M L i) (k : Int) from RowsAt.below HR6.out b7 z1 z2 z3); have H7 := Lib.hid (H6.out.below b7); clear b7)
              | (go_at_call 40; refine (where_any _ _ HR7.out).mono ?_; rintro e w8 ⟨rfl, rfl⟩)
              | (go_at_call 41; refine (rwhere_any _ _ H7.out (RowsL.lists HR7.out) (by omega)).mono ?_; rintro e w8 ⟨rfl, rfl⟩))
          go_wp2
          go_roundw
          case rel => exact ⟨k + 1, _, _, by omega, by omega, by go_num, RowsAt.more HR7.out (by omega), H7.out, HB6.out.trans (B7.out.mono HB6.out.size)⟩
          case measure => simp [intOf]; omega
      · clear ht
        go_wp2
        go_ret
        exact ⟨rfl, hbr.alloc hzr _⟩
    · go_wp2
      go_ret
      exact ⟨rfl, hbr⟩
set_option maxRecDepth 100000 in
theorem lifted (os : Os) (started : os.Started) (H : Type) (enc : TypeId × Value → H) :
    ReturnsInHanded {} Try.checked os 8 .any (Rows.dequePlaysSpec.pre6 enc Try.prog Try.f8 Rows.dequePlaysRow.domain false) (Rows.dequePlaysSpec.post enc Try.prog Try.f8 false true false false) := by
  refine returnsInHanded_of_change (C := Try.checked) own started (by kernel_rfl) Try.func8
    (ChangeSpec.witness6 (enc := enc) (C := Try.checked) false ⟨#[], #[.int .u8 0, .int .u8 0, .slice none 0 0], []⟩ 8 (by kernel_rfl) (by kernel_rfl) (by kernel_rfl) (by kernel_rfl)) ?_
  intro W base args ds gs before hval0 hW hcnd _
  have hval : ∀ (j : Nat) t v, Try.f8.params[j]? = some t → args[j]? = some v → Value.okWide Try.prog W .any base t v := hval0
  have hW' := hW
  obtain ⟨p, q, hA0, hV, rfl, hfz, hnd⟩ := hW
  have hA : DataW.TrodAll enc Try.prog W 0 (fun _ => true) true Try.f8.params.toList args.toList ds p := hA0
  rw [Try.params8] at hA hval
  obtain ⟨v0, vs0, d0, ds0, p0, q0, hargs, rfl, rfl, h0, r0⟩ := trodAll_cons hA
  obtain ⟨v1, vs1, d1, ds1, p1, q1, rfl, rfl, rfl, h1, r1⟩ := trodAll_cons r0
  obtain ⟨v2, vs2, d2, ds2, p2, q2, rfl, rfl, rfl, h2, r2⟩ := trodAll_cons r1
  obtain ⟨rfl, rfl, rfl⟩ := trodAll_nil r2
  obtain rfl : args = #[v0, v1, v2] := by cases args; simp_all
  obtain ⟨rfl, rfl⟩ := trodVars_none hV
  obtain ⟨a0, rfl, rfl, rfl, w0⟩ := open_int Try.underlying5 (hval 0 _ v0 rfl rfl) h0
  obtain ⟨a1, rfl, rfl, rfl, w1⟩ := open_int Try.underlying5 (hval 1 _ v1 rfl rfl) h1
  obtain ⟨A2, len2, cap2, rfl⟩ := okWide_slice Try.underlying72 (hval 2 _ v2 rfl rfl)
  obtain ⟨fu2, g2⟩ := h2
  obtain ⟨s2, t2, Q2, u2, o2⟩ := open_dqs g2
  clear hA0 hval0
  obtain ⟨l0, m0⟩ := wf_u8 w0
  obtain ⟨l1, m1⟩ := wf_u8 w1
  refine (walk a0 a1 A2 len2 cap2 Q2 W s2 t2 u2 o2 l0 m0 l1 m1).mono fun e W' ⟨he, hg⟩ => ?_
  subst he
  exact ⟨_, rfl, post_of_law hW' rfl laidOut reads rfl Try.underlying4 rfl rfl rfl hg⟩
theorem over : Rows.dequePlaysRow.holds Try.pinned (OpenSpec.ofChange Rows.dequePlaysSpec) :=
  OpenClaim.holds_of_wide 8 Try.f8 rfl rfl rfl rfl rfl rfl rfl ⟨rfl, rfl, rfl, rfl, rfl⟩ rfl rfl rfl rfl rfl (by kernel_rfl) Try.func8 (by kernel_rfl)
    (of_decide_eq_true (by kernel_rfl)) (by unfold Func.isWrapper; first | (rw [if_pos (by decide +kernel)]; kernel_rfl) | (rw [if_neg (by decide +kernel)]; exact ⟨rfl, rfl⟩))
    (fun os started H enc _ => lifted os started H enc)
theorem proved : Rows.DequePlaysSaid := over
end Go.Proofs.Ytgjfigjebojjdaa.dequePlays
