/- A heap in memory: sinking. -/
import Derived.Test.YtjkklcigmikleaaHpg
namespace Go.Proofs.Ytjkklcigmikleaa
open Go.ChangeShapes Go.WideShapes Go.RowKit
set_option linter.unusedVariables false
set_option linter.unusedSimpArgs false
theorem hbelow (a : Nat) (h1 : a ≤ 4096) (w : World) : Calls Try.prog 72 #[.int .i64 (a : Int)] w fun e w' => e = .returned (.agg #[.int .i64 ((2 * a + 1 : Nat) : Int), .int .i64 ((2 * a + 2 : Nat) : Int)]) ∧ Below w.heap.size w w' := by
  have e0 : IntKind.i64.wrap (2 * (a : Int)) = 2 * (a : Int) := by rw [IntKind.wrap_i64]; omega
  have e1 : IntKind.i64.wrap (2 * (a : Int) + 1) = ((2 * a + 1 : Nat) : Int) := by rw [IntKind.wrap_i64]; omega
  have e2 : IntKind.i64.wrap (2 * (a : Int) + 2) = ((2 * a + 2 : Nat) : Int) := by rw [IntKind.wrap_i64]; omega
  obtain ⟨x, hx⟩ : ∃ x : Nat, 2 * a + 1 = x := ⟨_, rfl⟩
  obtain ⟨y, hy⟩ : ∃ y : Nat, 2 * a + 2 = y := ⟨_, rfl⟩
  rw [hx] at e1 ⊢
  rw [hy] at e2 ⊢
  clear hx hy
  go_enter Try.func72, Try.ntmps72
  go_wp2
  refine bodyPost_ret (v := .agg #[.int .i64 (x : Int), .int .i64 (y : Int)]) (by simp [results, Try.results72, go_sem, *]) rfl ⟨rfl, ?_⟩
  repeat (first | with_reducible exact Below.refl _ _ | refine Below.setCell ?_ (by simp) _ | refine Below.alloc ?_ (by simp) _ )
/-- The better of one and another, who may not be there. -/
noncomputable def bet (m : Nat) (E : Nat → En) (f k : Nat) : Nat := open Classical in if k < m ∧ ltE (E k) (E f) then k else f
section
variable {w w' : World} {p b n m c : Nat} {A : Option Addr} {E : Nat → En} {P : Nat → Int} {F : Nat → Option (Int × Int)}
theorem bet_yes {f k : Nat} (hk : k < m) (hl : ltE (E k) (E f)) : bet m E f k = k := by unfold bet; rw [if_pos ⟨hk, hl⟩]
theorem bet_no {f k : Nat} (h : ¬ (k < m ∧ ltE (E k) (E f))) : bet m E f k = f := by unfold bet; rw [if_neg h]
theorem hlen (w : World) (h : HeapIn w p b n A m c E F) : ∃ P, HeapAt w p b n A m c E P := by obtain ⟨P, h1, h2⟩ := h.at_; exact ⟨P, h1⟩
set_option maxRecDepth 20000 in
set_option maxHeartbeats 2000000 in
theorem hfirst (w : World) {q : Nat} (hq : q < m) (h : HeapIn w p b n A m c E F) :
    Calls Try.prog 79 #[.pointer (some ⟨p, 0, none⟩), .int .i64 (q : Int)] w fun e w' => e = .returned (.int .i64 (bet m E (bet m E q (2 * q + 1)) (2 * q + 2) : Nat)) ∧ Below w.heap.size w w' := by
  have hm := h.mn
  have hn := h.n0
  have HH := Lib.hid h
  obtain ⟨r, hr⟩ : ∃ r, bet m E (bet m E q (2 * q + 1)) (2 * q + 2) = r := ⟨_, rfl⟩
  rw [hr]
  have HR := Lib.hid hr
  clear h hr
  go_enter Try.func79, Try.ntmps79
  go_wp2_with fail
  refine (hbelow q (by omega) _).mono ?_
  rintro e w1 ⟨rfl, hb1⟩
  obtain ⟨x, hx⟩ : ∃ x : Nat, 2 * q + 1 = x := ⟨_, rfl⟩
  obtain ⟨y, hy⟩ : ∃ y : Nat, 2 * q + 2 = y := ⟨_, rfl⟩
  have hr := HR.out
  rw [hx, hy] at hr
  have HR2 := Lib.hid hr
  rw [hx, hy]
  have hx2 : 2 * q + 1 = x := hx
  have hy2 : 2 * q + 2 = y := hy
  have HX := Lib.hid hx
  have HY := Lib.hid hy
  clear hr HR hx hy hx2 hy2
  have ix0 : ∀ w, (Instr.index 105 (.agg #[.int .i64 (x : Int), .int .i64 (y : Int)]) (.int .i64 0)).run Try.prog w = .ok (.int .i64 (x : Int)) w := fun _ => by kernel_rfl
  have ix1 : ∀ w, (Instr.index 105 (.agg #[.int .i64 (x : Int), .int .i64 (y : Int)]) (.int .i64 1)).run Try.prog w = .ok (.int .i64 (y : Int)) w := fun _ => by kernel_rfl
  go_wp2_with fail
  go_loopw [5, 11] (fun s5 s11 wr => ∃ (i f : Nat), s11 = .int .i64 (i : Int) ∧ s5 = .int .i64 (f : Int) ∧ f < m ∧ Below w.heap.size w wr ∧ ((i = 0 ∧ f = q) ∨ (i = 1 ∧ f = bet m E q x) ∨ (i = 2 ∧ f = r))) (fun _ i _ => 2 - (intOf i).toNat)
  case atStart => exact ⟨0, q, rfl, rfl, hq, hb1, .inl ⟨rfl, rfl⟩⟩
  case round =>
    clear hb1
    obtain ⟨i, f, rfl, rfl, hf, hb, hc⟩ := hrel
    have HB := Lib.hid hb
    have H1 := Lib.hid (HH.out.below hb)
    clear hb
    obtain ⟨P1, ha⟩ := hlen _ H1.out
    have g0 := ha.p0
    clear ha
    have key : ∀ {z : Nat} {i : Nat}, True := fun {_ _} => trivial
    rcases hc with ⟨rfl, rfl⟩ | ⟨rfl, hfe⟩ | ⟨rfl, rfl⟩
    · by_cases hxm : x < m
      · have xi : (x : Int) < (m : Int) := by omega
        have hcc := cmpE_neg (E x) (E f)
        by_cases hl : ltE (E x) (E f)
        · have e : decide (cmpE (E x) (E f) < 0) = true := decide_eq_true (hcc.2 hl)
          have hbt := bet_yes hxm hl
          have HT := Lib.hid hbt
          clear hcc hbt
          go_wp2_with fail
          refine (hbefore _ hxm hf H1.out).mono ?_
          rw [e]
          rintro e w2 ⟨rfl, hb2⟩
          have B2 := Lib.hid (HB.out.trans (hb2.mono HB.out.size))
          clear hb2
          go_wp2_with fail
          go_roundw
          case rel => exact ⟨1, x, by go_num, rfl, hxm, B2.out, .inr (.inl ⟨rfl, HT.out.symm⟩)⟩
          case measure => simp [intOf]
        · have e : decide (cmpE (E x) (E f) < 0) = false := decide_eq_false (fun h => hl (hcc.1 h))
          have hbt : bet m E f x = f := bet_no fun h => hl h.2
          have HT := Lib.hid hbt
          clear hcc hbt
          go_wp2_with fail
          refine (hbefore _ hxm hf H1.out).mono ?_
          rw [e]
          rintro e w2 ⟨rfl, hb2⟩
          have B2 := Lib.hid (HB.out.trans (hb2.mono HB.out.size))
          clear hb2
          go_wp2_with fail
          go_roundw
          case rel => exact ⟨1, f, by go_num, rfl, hf, B2.out, .inr (.inl ⟨rfl, HT.out.symm⟩)⟩
          case measure => simp [intOf]
      · have e2 : decide ((x : Int) < (m : Int)) = false := by simp; omega
        have e3 : ¬ (x : Int) < (m : Int) := by omega
        have hbt : bet m E f x = f := bet_no fun h => hxm h.1
        have HT := Lib.hid hbt
        clear hbt
        go_wp2_with fail
        go_roundw
        case rel => exact ⟨1, f, by go_num, rfl, hf, HB.out, .inr (.inl ⟨rfl, HT.out.symm⟩)⟩
        case measure => simp [intOf]
    · have hr2 := HR2.out
      rw [← hfe] at hr2
      have HR3 := Lib.hid hr2
      clear hr2 hfe
      by_cases hym : y < m
      · have yi : (y : Int) < (m : Int) := by omega
        have hcc := cmpE_neg (E y) (E f)
        by_cases hl : ltE (E y) (E f)
        · have e : decide (cmpE (E y) (E f) < 0) = true := decide_eq_true (hcc.2 hl)
          have hbt := bet_yes hym hl
          have HT := Lib.hid hbt
          clear hcc hbt
          go_wp2_with fail
          refine (hbefore _ hym hf H1.out).mono ?_
          rw [e]
          rintro e w2 ⟨rfl, hb2⟩
          have B2 := Lib.hid (HB.out.trans (hb2.mono HB.out.size))
          clear hb2
          go_wp2_with fail
          go_roundw
          case rel => exact ⟨2, y, by go_num, rfl, hym, B2.out, .inr (.inr ⟨rfl, HT.out.symm.trans HR3.out⟩)⟩
          case measure => simp [intOf]
        · have e : decide (cmpE (E y) (E f) < 0) = false := decide_eq_false (fun h => hl (hcc.1 h))
          have hbt : bet m E f y = f := bet_no fun h => hl h.2
          have HT := Lib.hid hbt
          clear hcc hbt
          go_wp2_with fail
          refine (hbefore _ hym hf H1.out).mono ?_
          rw [e]
          rintro e w2 ⟨rfl, hb2⟩
          have B2 := Lib.hid (HB.out.trans (hb2.mono HB.out.size))
          clear hb2
          go_wp2_with fail
          go_roundw
          case rel => exact ⟨2, f, by go_num, rfl, hf, B2.out, .inr (.inr ⟨rfl, HT.out.symm.trans HR3.out⟩)⟩
          case measure => simp [intOf]
      · have e2 : decide ((y : Int) < (m : Int)) = false := by simp; omega
        have e3 : ¬ (y : Int) < (m : Int) := by omega
        have hbt : bet m E f y = f := bet_no fun h => hym h.1
        have HT := Lib.hid hbt
        clear hbt
        go_wp2_with fail
        go_roundw
        case rel => exact ⟨2, f, by go_num, rfl, hf, HB.out, .inr (.inr ⟨rfl, HT.out.symm.trans HR3.out⟩)⟩
        case measure => simp [intOf]
    · go_wp2_with fail
      go_ret
      exact ⟨rfl, HB.out⟩
/-- What the first of three is. -/
theorem bet_spec {q : Nat} (hq : q < m) : (bet m E (bet m E q (2 * q + 1)) (2 * q + 2) = q ∧ ∀ k, 0 < k → k < m → (k - 1) / 2 = q → ¬ ltE (E k) (E q)) ∨
    (∃ f, bet m E (bet m E q (2 * q + 1)) (2 * q + 2) = f ∧ f < m ∧ q < f ∧ (f - 1) / 2 = q ∧ ltE (E f) (E q) ∧ ∀ k, 0 < k → k < m → (k - 1) / 2 = q → ¬ ltE (E k) (E f)) := by
  have hk : ∀ k, 0 < k → (k - 1) / 2 = q → k = 2 * q + 1 ∨ k = 2 * q + 2 := by omega
  by_cases h1 : 2 * q + 1 < m ∧ ltE (E (2 * q + 1)) (E q)
  · rw [bet_yes h1.1 h1.2]
    by_cases h2 : 2 * q + 2 < m ∧ ltE (E (2 * q + 2)) (E (2 * q + 1))
    · rw [bet_yes h2.1 h2.2]
      refine .inr ⟨_, rfl, h2.1, by omega, by omega, ltE_trans h2.2 h1.2, fun k h0 hkm hp => ?_⟩
      rcases hk k h0 hp with rfl | rfl
      · exact ltE_asymm h2.2
      · exact ltE_irrefl _
    · rw [bet_no h2]
      refine .inr ⟨_, rfl, h1.1, by omega, by omega, h1.2, fun k h0 hkm hp => ?_⟩
      rcases hk k h0 hp with rfl | rfl
      · exact ltE_irrefl _
      · exact fun h => h2 ⟨hkm, h⟩
  · rw [bet_no h1]
    by_cases h2 : 2 * q + 2 < m ∧ ltE (E (2 * q + 2)) (E q)
    · rw [bet_yes h2.1 h2.2]
      refine .inr ⟨_, rfl, h2.1, by omega, by omega, h2.2, fun k h0 hkm hp => ?_⟩
      rcases hk k h0 hp with rfl | rfl
      · exact fun h => h1 ⟨hkm, ltE_trans h h2.2⟩
      · exact ltE_irrefl _
    · rw [bet_no h2]
      refine .inl ⟨rfl, fun k h0 hkm hp => ?_⟩
      rcases hk k h0 hp with rfl | rfl
      · exact fun h => h1 ⟨hkm, h⟩
      · exact fun h => h2 ⟨hkm, h⟩
set_option maxRecDepth 20000 in
set_option maxHeartbeats 2000000 in
theorem hsink (w : World) {q0 : Nat} (hq : q0 < m) (h : HeapIn w p b n A m c E F) (ho : OrdDown m E q0) :
    Calls Try.prog 64 #[.pointer (some ⟨p, 0, none⟩), .int .i64 (q0 : Int)] w fun e w' => e = .returned (.tuple #[]) ∧ (∃ E', HeapIn w' p b n A m c E' F ∧ Ord m E') ∧ Kept (hOwn b A) w w' := by
  have hm := h.mn
  have hn := h.n0
  have HH := Lib.hid h
  have HO := Lib.hid ho
  clear h ho
  go_enter Try.func64, Try.ntmps64
  go_wp2_with fail
  go_loopw [1] (fun s1 wr => ∃ (q : Nat) (E' : Nat → En), s1 = .int .i64 (q : Int) ∧ q < m ∧ HeapIn wr p b n A m c E' F ∧ OrdDown m E' q ∧ Kept (hOwn b A) w wr) (fun i _ => m - (intOf i).toNat)
  case atStart => exact ⟨q0, E, rfl, hq, HH.out, HO.out, Kept.refl _ _⟩
  case round =>
    clear HO HH
    obtain ⟨q, E', rfl, hqm, h, ho, hk⟩ := hrel
    have HH := Lib.hid h
    have HO := Lib.hid ho
    have HK := Lib.hid hk
    clear h ho hk
    rcases bet_spec (E := E') hqm with ⟨e, hl⟩ | ⟨f, e, hfm, hqf, hfp, hfl, hl⟩
    · have HL := Lib.hid hl
      clear hl
      go_wp2_with fail
      refine (hfirst _ hqm HH.out).mono ?_
      rw [e]
      rintro e w2 ⟨rfl, hb2⟩
      have H2 := Lib.hid (HH.out.below hb2)
      have K2 := Lib.hid (HK.out.trans (Kept.of_below hb2))
      clear hb2
      go_wp2_with fail
      refine bodyPost_ret (results_none rfl _ _ _) rfl ?_
      exact ⟨rfl, ⟨E', H2.out, HO.out.ord HL.out⟩, K2.out⟩
    · have HL := Lib.hid hl
      have ne : ¬ (f : Int) = (q : Int) := by omega
      have ne2 : ¬ f = q := by omega
      clear hl
      go_wp2_with fail
      refine (hfirst _ hqm HH.out).mono ?_
      rw [e]
      rintro e w2 ⟨rfl, hb2⟩
      have H2 := Lib.hid (HH.out.below hb2)
      have K2 := Lib.hid (HK.out.trans (Kept.of_below hb2))
      clear hb2
      go_wp2_with fail
      refine (hswap _ hqm hfm H2.out).mono ?_
      rintro e w4 ⟨rfl, h4, k4⟩
      have H4 := Lib.hid h4
      have K4 := Lib.hid (K2.out.trans k4)
      clear h4 k4
      go_wp2_with fail
      go_roundw
      case rel => exact ⟨f, _, rfl, hfm, H4.out, HO.out.step hfm (by omega) hfp hfl HL.out, K4.out⟩
      case measure => simp [intOf]; omega
end
end Go.Proofs.Ytjkklcigmikleaa
