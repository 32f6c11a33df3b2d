/- A heap in memory: rising. -/
import Derived.Test.YtjkklcigmikleaaHpf
import Derived.Test.YtjkklcigmikleaaHpm
namespace Go.Proofs.Ytjkklcigmikleaa
open Go.ChangeShapes Go.WideShapes Go.RowKit
set_option linter.unusedVariables false
set_option linter.unusedSimpArgs false
/-- The blocks that a heap's methods write: the places, the tree. -/
def hOwn (b : Nat) (A : Option Addr) : Nat → Prop := fun g => g = b ∨ ∃ x, A = some x ∧ x.block = g
/-- A heap of room n, m members in it, who are those of F; its tree in what order soever. -/
structure HeapIn (w : World) (p b n : Nat) (A : Option Addr) (m c : Nat) (E : Nat → En) (F : Nat → Option (Int × Int)) : Prop where
  at_ : ∃ P, HeapAt w p b n A m c E P ∧ Links n m E P F
  nil_ : c = 0 → A = none
  cmax : c ≤ maxLen
section
variable {w w' : World} {p b n m c : Nat} {A : Option Addr} {E : Nat → En} {P : Nat → Int} {F : Nat → Option (Int × Int)}
theorem HeapIn.below (h : HeapIn w p b n A m c E F) (hb : Below w.heap.size w w') : HeapIn w' p b n A m c E F := by
  obtain ⟨P, h1, h2⟩ := h.at_
  exact ⟨⟨P, h1.below hb, h2⟩, h.nil_, h.cmax⟩
theorem HeapIn.mn (h : HeapIn w p b n A m c E F) : m ≤ n := by obtain ⟨P, h1, h2⟩ := h.at_; exact h1.mn
theorem HeapIn.n0 (h : HeapIn w p b n A m c E F) : n ≤ 1024 := by obtain ⟨P, h1, h2⟩ := h.at_; exact h1.n0
theorem hbefore (w : World) {i j : Nat} (hi : i < m) (hj : j < m) (h : HeapIn w p b n A m c E F) : Calls Try.prog 69 #[.pointer (some ⟨p, 0, none⟩), .int .i64 (i : Int), .int .i64 (j : Int)] w fun e w' => e = .returned (.bool (decide (cmpE (E i) (E j) < 0))) ∧ Below w.heap.size w w' := by
  obtain ⟨P, h1, h2⟩ := h.at_
  exact before_any hi hj w h1
theorem hswap (w : World) {i j : Nat} (hi : i < m) (hj : j < m) (h : HeapIn w p b n A m c E F) : Calls Try.prog 63 #[.pointer (some ⟨p, 0, none⟩), .int .i64 (i : Int), .int .i64 (j : Int)] w fun e w' => e = .returned (.tuple #[]) ∧ HeapIn w' p b n A m c (swE E i j) F ∧ Kept (hOwn b A) w w' := by
  obtain ⟨P, h1, h2⟩ := h.at_
  refine (hswap_any hi hj w h1 h2.mem).mono ?_
  rintro e w' ⟨rfl, h3, h4⟩
  refine ⟨rfl, ⟨⟨_, h3, h2.swap hi hj⟩, h.nil_, h.cmax⟩, h4.more fun k hk ho => ?_⟩
  rcases ho with ho | ho
  · exact .inl ho
  · obtain ⟨a, ea, _⟩ := h1.at_ (by omega)
    exact .inr ⟨_, ea, ho _ ea⟩
set_option maxHeartbeats 2000000 in
theorem hrise (w : World) {q0 : Nat} (hq : q0 < m) (h : HeapIn w p b n A m c E F) (ho : OrdTwo m E q0) :
    Calls Try.prog 58 #[.pointer (some ⟨p, 0, none⟩), .int .i64 (q0 : Int)] w fun e w' => e = .returned (.tuple #[]) ∧ (∃ E', HeapIn w' p b n A m c E' F ∧ OrdDown m E' q0) ∧ Kept (hOwn b A) w w' := by
  have hm := h.mn
  have hn := h.n0
  have HH := Lib.hid h
  have HO := Lib.hid ho
  clear h ho
  go_enter Try.func58, Try.ntmps58
  go_wp2_with fail
  go_loopw [1] (fun s1 wr => ∃ (q : Nat) (E' : Nat → En), s1 = .int .i64 (q : Int) ∧ q < m ∧ HeapIn wr p b n A m c E' F ∧ ((q = q0 ∧ OrdTwo m E' q0) ∨ OrdBut m E' q) ∧ Kept (hOwn b A) w wr) (fun i _ => (intOf i).toNat)
  case atStart => exact ⟨q0, E, rfl, hq, HH.out, .inl ⟨rfl, HO.out⟩, Kept.refl _ _⟩
  case round =>
    clear HO HH
    obtain ⟨q, E', rfl, hqm, h, ho, hk⟩ := hrel
    have HH := Lib.hid h
    have HO := Lib.hid ho
    have HK := Lib.hid hk
    clear h ho hk
    by_cases h0 : 0 < q
    · have i0 : (0 : Int) < (q : Int) := by omega
      obtain ⟨r, hr⟩ : ∃ r, (q - 1) / 2 = r := ⟨_, rfl⟩
      have hrm : r < m := by omega
      have hc := cmpE_neg (E' q) (E' r)
      by_cases hl : ltE (E' q) (E' r)
      · have e : decide (cmpE (E' q) (E' r) < 0) = true := decide_eq_true (hc.2 hl)
        clear hc
        go_wp2_with fail
        refine (hparent q _ h0 (by omega)).mono ?_
        rintro e w1 ⟨rfl, rfl⟩
        rw [hr]
        go_wp2_with fail
        refine (hbefore _ hqm hrm HH.out).mono ?_
        rw [e]
        rintro e w2 ⟨rfl, hb2⟩
        have H2 := Lib.hid (HH.out.below hb2)
        have K2 := Lib.hid (HK.out.trans (Kept.of_below hb2))
        clear hb2
        go_wp2_with fail
        refine (hparent q _ h0 (by omega)).mono ?_
        rintro e w3 ⟨rfl, rfl⟩
        rw [hr]
        go_wp2_with fail
        refine (hswap _ hqm hrm H2.out).mono ?_
        rintro e w4 ⟨rfl, h4, k4⟩
        have H4 := Lib.hid h4
        have K4 := Lib.hid (K2.out.trans k4)
        clear h4 k4
        go_wp2_with fail
        refine (hparent q _ h0 (by omega)).mono ?_
        rintro e w5 ⟨rfl, rfl⟩
        rw [hr]
        go_wp2_with fail
        go_roundw
        case rel =>
          refine ⟨r, _, rfl, hrm, H4.out, .inr ?_, K4.out⟩
          subst hr
          rcases HO.out with ⟨e, ho⟩ | ho
          · subst e; exact (ho.but h0 hl).step h0 hqm hl
          · exact ho.step h0 hqm hl
        case measure => simp [intOf]; omega
      · have e : decide (cmpE (E' q) (E' r) < 0) = false := decide_eq_false (fun h => hl (hc.1 h))
        clear hc
        go_wp2_with fail
        refine (hparent q _ h0 (by omega)).mono ?_
        rintro e w1 ⟨rfl, rfl⟩
        rw [hr]
        go_wp2_with fail
        refine (hbefore _ hqm hrm HH.out).mono ?_
        rw [e]
        rintro e w2 ⟨rfl, hb2⟩
        have H2 := Lib.hid (HH.out.below hb2)
        have K2 := Lib.hid (HK.out.trans (Kept.of_below hb2))
        clear hb2
        go_wp2_with fail
        first | go_end0 | skip
        refine ⟨rfl, ⟨E', H2.out, ?_⟩, K2.out⟩
        subst hr
        rcases HO.out with ⟨e, ho⟩ | ho
        · subst e; exact ho.down (.inr hl)
        · exact (ho.ord (.inr hl)).down _
    · have hq0 : q = 0 := by omega
      subst hq0
      go_wp2_with fail
      first | go_end0 | skip
      refine ⟨rfl, ⟨E', HH.out, ?_⟩, HK.out⟩
      rcases HO.out with ⟨e, ho⟩ | ho
      · subst e; exact ho.down (.inl rfl)
      · exact (ho.ord (.inl rfl)).down _
end
end Go.Proofs.Ytjkklcigmikleaa
