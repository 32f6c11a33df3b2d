/- A heap in memory: one who goes. -/
import Derived.Test.YtjkklcigmikleaaHpj
namespace Go.Proofs.Ytjkklcigmikleaa
open Go.ChangeShapes Go.WideShapes Go.RowKit
set_option linter.unusedVariables false
set_option linter.unusedSimpArgs false
section
variable {w w' : World} {p b n m c : Nat} {A : Option Addr} {E : Nat → En} {P : Nat → Int} {F : Nat → Option (Int × Int)}
theorem HeapAt.cut {M : Nat} (h : HeapAt w p b n A M c E P) (hM : M = m + 1) : HeapAt (w.setCell ⟨p, 0, none⟩ (.slice A m c)) p b n A m c E P := by
  obtain ⟨hd, h1, h2, h3, ht, ⟨ps, bp, pz, pc⟩⟩ := h
  have npb : b ≠ p := bp.other hd (by decide)
  refine ⟨?_, h1, by omega, by omega, fun h0 => ?_, ⟨ps, bp.far _ npb, pz, pc⟩⟩
  · have := hd.set_ 0 (.slice A m c)
    simpa using this
  · obtain ⟨a, cs, e, ba, az, ac⟩ := ht h0
    exact ⟨a, cs, e, ba.far _ (ba.other hd (by decide)), az, fun k hk => ac k (by omega)⟩
theorem HeapIn.drewN (h : HeapIn w p b n A m c E F) (k : Nat) : HeapIn (w.drewN k) p b n A m c E F := h.below ⟨rfl, rfl, rfl, Nat.le_refl _, fun _ _ => rfl⟩
theorem HeapIn.drew (h : HeapIn w p b n A m c E F) : HeapIn w.drew p b n A m c E F := h.below ⟨rfl, rfl, rfl, Nat.le_refl _, fun _ _ => rfl⟩
theorem hrem_out (i : Int) (hi : i < 0 ∨ (n : Int) ≤ i) (w : World) (h : HeapIn w p b n A m c E F) : Calls Try.prog 41 #[.pointer (some ⟨p, 0, none⟩), .int .i64 i] w fun e w' => e = .returned (.int .i64 1) ∧ w = w' := by
  obtain ⟨P, h1, h2⟩ := h.at_
  have HA := Lib.hid h1
  clear h1 h2 h
  go_enter Try.func41, Try.ntmps41
  go_wp2_with fail
  refine (hmem_no _ hi _ HA.out).mono ?_
  rintro e w1 ⟨rfl, rfl⟩
  go_wp2_with fail
  go_ret
  exact ⟨rfl, rfl⟩
set_option maxHeartbeats 1000000 in
theorem hrem_none {i : Nat} (hi : i < n) (hF : F i = none) (w : World) (h : HeapIn w p b n A m c E F) : Calls Try.prog 41 #[.pointer (some ⟨p, 0, none⟩), .int .i64 (i : Int)] w fun e w' => e = .returned (.int .i64 3) ∧ Below w.heap.size w w' := by
  obtain ⟨P, h1, h2⟩ := h.at_
  have hP := (h2.none_ hi).1 hF
  have q0 := h1.p0
  have q1 := h1.p1
  have c0 := h1.b0 hi
  have hn := h1.n0
  have hm := h1.mn
  rw [hP] at c0
  have i0 : (0 : Int) ≤ (i : Int) := by omega
  have i1 : (i : Int) < (n : Int) := by omega
  have HA := Lib.hid h1
  clear h1 h2 h
  go_enter Try.func41, Try.ntmps41
  go_wp2_with fail
  refine (hmem_yes hi _ HA.out).mono ?_
  rintro e w1 ⟨rfl, rfl⟩
  go_upto_region 5 with fail
  go_quiet (fail)
  go_wp2_with fail
  go_ret
  exact ⟨rfl, ⟨rfl, rfl, rfl, Nat.le_refl _, fun _ _ => rfl⟩⟩
set_option maxRecDepth 20000 in
set_option maxHeartbeats 2000000 in
theorem hrem_yes {i M : Nat} {kt : Int × Int} (hi : i < n) (hF : F i = some kt) (hM : M = m + 1) (w : World) (h : HeapIn w p b n A M c E F) (ho : Ord M E) : Calls Try.prog 41 #[.pointer (some ⟨p, 0, none⟩), .int .i64 (i : Int)] w fun e w' => e = .returned (.int .i64 0) ∧
    ∃ E', HeapIn w' p b n A m c E' (fun x => if x = i then none else F x) ∧ Ord m E' ∧ Kept (hOwnP p b A) w w' := by
  obtain ⟨P, h1, h2⟩ := h.at_
  obtain ⟨x, hx, hp, hex⟩ := h2.get hi hF
  have q0 := h1.p0
  have q1 := h1.p1
  have c0 := h1.b0 hi
  have hn := h1.n0
  have hmn := h1.mn
  have hmc := h1.mc
  rw [hp] at c0
  have i0 : (0 : Int) ≤ (i : Int) := by omega
  have i1 : (i : Int) < (n : Int) := by omega
  have x1 : ¬ (x : Int) = -1 := by omega
  have e1 : IntKind.i64.wrap ((M : Int) - 1) = (m : Int) := by rw [IntKind.wrap_i64]; omega
  have hmM : m < M := by omega
  have HX := Lib.hid hex
  have HA := Lib.hid h1
  have HO := Lib.hid ho
  have HC := Lib.hid h
  have HM := Lib.hid hM
  clear h1 h2 h hM ho hex
  go_enter Try.func41, Try.ntmps41
  go_wp2_with fail
  refine (hmem_yes hi _ HA.out).mono ?_
  rintro e w1 ⟨rfl, rfl⟩
  go_upto_region 5 with fail
  go_quiet (fail)
  go_wp2_with fail
  refine (hswap _ hx hmM (HC.out.drewN _)).mono ?_
  rintro e w2 ⟨rfl, h2, k2⟩
  obtain ⟨P2, a2, l2⟩ := h2.at_
  obtain ⟨y, hy, hpy, hey⟩ := l2.get hi hF
  have hym : y = m := by
    refine l2.one hy hmM ?_
    rw [hey, swE_j, HX.out]
  rw [hym] at hpy
  have HP := Lib.hid hpy
  have H2 := Lib.hid h2
  have A2 := Lib.hid a2
  have L2 := Lib.hid l2
  have K2 := Lib.hid (((Kept.refl (hOwnP p b A) w).drewN_ _).trans (k2.more fun g _ h => .inr h))
  obtain ⟨a, ea, -, -⟩ := a2.at_ (by omega)
  clear q0 q1 c0 HA hey hpy k2 l2 h2
  have q0 := a2.p0
  have zp : w2.frozen? ⟨p, 0, none⟩ = false := a2.head.free 0
  rw [ea] at q0
  have m0 : (0 : Int) ≤ (m : Int) := by omega
  have m1 : (m : Int) ≤ (c : Int) := by omega
  clear a2
  go_upto_region 10 with fail
  refine wp_worldh (fun wx => HeapAt wx p b n A m c (swE E x m) P2 ∧ Kept (hOwnP p b A) w wx) ⟨by have h3 := A2.out.cut HM.out; rw [ea] at h3 ⊢; exact h3, K2.out.set_ (.inl (.inl rfl)) _⟩ ?_
  clear q0 zp A2 K2
  rintro w3 ⟨a3, k3⟩
  have q1 := a3.p1
  have c0 := a3.b0 hi
  have z0 := a3.zb i
  have A3 := Lib.hid a3
  have K3 := Lib.hid k3
  clear a3 k3
  go_upto_region 11 with fail
  refine wp_worldh (fun wx => HeapAt wx p b n A m c (swE E x m) (fun y => if y = i then -1 else P2 y) ∧ Kept (hOwnP p b A) w wx) ⟨A3.out.setP (-1), K3.out.set_ (.inl (.inr (.inl rfl))) _⟩ ?_
  clear q1 c0 z0 A3 K3
  rintro w4 ⟨a4, k4⟩
  have h4 : HeapIn w4 p b n A m c (swE E x m) (fun y => if y = i then none else F y) := ⟨⟨_, a4, Links.pop (by have := L2.out; rw [HM.out] at this; exact this) hi HP.out⟩, (fun h => by rw [HC.out.nil_ h] at ea; cases ea), HC.out.cmax⟩
  have H4 := Lib.hid h4
  have K4 := Lib.hid k4
  clear h4 a4 k4 ea
  by_cases hxm : x < m
  · have xi : (x : Int) < (m : Int) := by omega
    go_wp2_with fail
    refine (hrise _ hxm H4.out (by have := HO.out; rw [HM.out] at this; exact this.gap hxm)).mono ?_
    rintro e w5 ⟨rfl, ⟨E5, h5, o5⟩, k5⟩
    have H5 := Lib.hid h5
    have O5 := Lib.hid o5
    have K5 := Lib.hid (K4.out.trans (k5.more fun g _ h => .inr h))
    clear h5 o5 k5
    go_wp2_with fail
    refine (hsink _ hxm H5.out O5.out).mono ?_
    rintro e w6 ⟨rfl, ⟨E6, h6, o6⟩, k6⟩
    have H6 := Lib.hid h6
    have O6 := Lib.hid o6
    have K6 := Lib.hid (K5.out.trans (k6.more fun g _ h => .inr h))
    clear h6 o6 k6
    go_wp2_with fail
    go_ret
    exact ⟨rfl, E6, H6.out, O6.out, K6.out⟩
  · have xm : x = m := by have := HM.out; omega
    have xi : ¬ (x : Int) < (m : Int) := by omega
    have e2 : decide ((x : Int) < (m : Int)) = false := by simp; omega
    have HXM := Lib.hid xm
    clear xm
    go_wp2_with fail
    go_ret
    refine ⟨rfl, _, H4.out, ?_, K4.out⟩
    have ho := HO.out
    rw [HM.out] at ho
    exact ho.cut.same fun k hk => swE_x E (i := x) (j := m) (x := k) (by have := HXM.out; omega) (by omega)
end
end Go.Proofs.Ytjkklcigmikleaa
