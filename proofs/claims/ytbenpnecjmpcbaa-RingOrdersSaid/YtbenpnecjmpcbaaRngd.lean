/- What each step of an act does. -/
import Derived.Test.YtbenpnecjmpcbaaRngc
import Derived.Deep.DeepCutAuto
namespace Go.Proofs.Ytbenpnecjmpcbaa
open Go.RowKit
set_option linter.unusedVariables false
theorem wp_world_ {P : Program} {code : Code} {Q : Exit → Act → World → Prop} {a : Act} {w : World} (φ : World → Prop) (h : φ w) (k : ∀ wx, φ wx → Code.wp P code Q a wx) : Code.wp P code Q a w := k w h
def Mine (a r s k : Nat) : Prop := k = a ∨ k = r ∨ k = s
section
variable {r s n : Nat} {g : Rg}
set_option maxRecDepth 20000 in
set_option maxHeartbeats 2000000 in
theorem rstep2 {a : Nat} {cp cl : Nat} {cu cq : Int} {cr cs : Bool} (w : World) (h : RingAt w r s n g) (ha : ActAt w a r ⟨2, cp, cl, cu, cq, cr, cs⟩) :
    Calls Try.prog 29 #[.pointer (some ⟨a, 0, none⟩)] w fun e w' => e = .returned (.bool false) ∧ RingAt w' r s n g ∧ ActAt w' a r ⟨3, g.T, cl, cu, cq, true, cr && decide (g.T = cp)⟩ ∧ Kept (Mine a r s) w w' := by
  have hap := ha.apart h
  have har : a ≠ r := hap.1
  have has : a ≠ s := hap.2
  have hra : r ≠ a := Ne.symm har
  have hsa : s ≠ a := Ne.symm has
  have hrs : r ≠ s := h.rs
  have hsr : s ≠ r := Ne.symm hrs
  have c0 : w.cell? ⟨a, 0, none⟩ = some (.pointer (some ⟨r, 0, none⟩)) := ha.ring
  have c1 : w.cell? ⟨a, 1, none⟩ = some (.int .i64 2) := ha.nx
  have H := Lib.hid h
  have A := Lib.hid ha
  clear hap h ha
  go_enter Try.func29, Try.ntmps29
  go_wp2_with fail
  refine (rended _ A.out).mono ?_
  rintro e w1 ⟨rfl, rfl⟩
  rw [show endE 2 = false from rfl]
  go_wp2_with fail
  refine (rread 0 _ _ _ H.out.t0 A.out hra).mono ?_
  rintro e w2 ⟨⟨v, rfl⟩, h2, k2⟩
  have A2 := Lib.hid h2
  have H2 := Lib.hid (H.out.kept k2 (by omega) (by omega))
  have K2 := Lib.hid (show Kept (Mine a r s) w w2 from k2.more fun k _ e => .inl e)
  clear h2 k2
  go_wp2_with fail
  refine (rended _ A2.out).mono ?_
  rintro e w3 ⟨rfl, rfl⟩
  rw [show endE 3 = false from rfl]
  go_wp2
  go_ret
  exact ⟨rfl, H2.out, A2.out, K2.out⟩
set_option maxRecDepth 20000 in
set_option maxHeartbeats 2000000 in
theorem rstep7 {a : Nat} {cp cl : Nat} {cu cq : Int} {cr cs : Bool} (w : World) (h : RingAt w r s n g) (ha : ActAt w a r ⟨7, cp, cl, cu, cq, cr, cs⟩) :
    Calls Try.prog 29 #[.pointer (some ⟨a, 0, none⟩)] w fun e w' => e = .returned (.bool false) ∧ RingAt w' r s n g ∧ ActAt w' a r ⟨8, g.H, cl, cu, cq, true, cr && decide (g.H = cp)⟩ ∧ Kept (Mine a r s) w w' := by
  have hap := ha.apart h
  have har : a ≠ r := hap.1
  have has : a ≠ s := hap.2
  have hra : r ≠ a := Ne.symm har
  have hsa : s ≠ a := Ne.symm has
  have hrs : r ≠ s := h.rs
  have hsr : s ≠ r := Ne.symm hrs
  have c0 : w.cell? ⟨a, 0, none⟩ = some (.pointer (some ⟨r, 0, none⟩)) := ha.ring
  have c1 : w.cell? ⟨a, 1, none⟩ = some (.int .i64 7) := ha.nx
  have H := Lib.hid h
  have A := Lib.hid ha
  clear hap h ha
  go_enter Try.func29, Try.ntmps29
  go_wp2_with fail
  refine (rended _ A.out).mono ?_
  rintro e w1 ⟨rfl, rfl⟩
  rw [show endE 7 = false from rfl]
  go_wp2_with fail
  refine (rread 1 _ _ _ H.out.h0 A.out hra).mono ?_
  rintro e w2 ⟨⟨v, rfl⟩, h2, k2⟩
  have A2 := Lib.hid h2
  have H2 := Lib.hid (H.out.kept k2 (by omega) (by omega))
  have K2 := Lib.hid (show Kept (Mine a r s) w w2 from k2.more fun k _ e => .inl e)
  clear h2 k2
  go_wp2_with fail
  refine (rended _ A2.out).mono ?_
  rintro e w3 ⟨rfl, rfl⟩
  rw [show endE 8 = false from rfl]
  go_wp2
  go_ret
  exact ⟨rfl, H2.out, A2.out, K2.out⟩
set_option maxRecDepth 20000 in
set_option maxHeartbeats 2000000 in
theorem rstep3 {a : Nat} {cp cl : Nat} {cu cq : Int} {cr cs : Bool} (w : World) (h : RingAt w r s n g) (ha : ActAt w a r ⟨3, cp, cl, cu, cq, cr, cs⟩) {j : Nat} (hj : cp % n = j) (hp : cp ≤ 900000) (hS : g.S j ≤ 1000000) :
    Calls Try.prog 29 #[.pointer (some ⟨a, 0, none⟩)] w fun e w' => e = .returned (.bool (endE (lookE (g.S j) cp 4 2))) ∧ RingAt w' r s n g ∧ ActAt w' a r ⟨lookE (g.S j) cp 4 2, cp, cl, cu, cq, cr, cs⟩ ∧ Kept (Mine a r s) w w' := by
  have hap := ha.apart h
  have har : a ≠ r := hap.1
  have has : a ≠ s := hap.2
  have hra : r ≠ a := Ne.symm har
  have hsa : s ≠ a := Ne.symm has
  have hrs : r ≠ s := h.rs
  have hsr : s ≠ r := Ne.symm hrs
  have c0 : w.cell? ⟨a, 0, none⟩ = some (.pointer (some ⟨r, 0, none⟩)) := ha.ring
  have c1 : w.cell? ⟨a, 1, none⟩ = some (.int .i64 3) := ha.nx
  have c2 : w.cell? ⟨a, 2, none⟩ = some (.int .u64 (cp : Int)) := ha.po
  have HJ := Lib.hid hj
  clear hj
  have H := Lib.hid h
  have A := Lib.hid ha
  clear hap h ha
  go_enter Try.func29, Try.ntmps29
  go_wp2_with fail
  refine (rended _ A.out).mono ?_
  rintro e w1 ⟨rfl, rfl⟩
  rw [show endE 3 = false from rfl]
  go_wp2_with fail
  refine (rcheck cp _ _ _ H.out A.out HJ.out (show cp ≤ 1000000 by omega) (by omega) hS).mono ?_
  rintro e w2 ⟨⟨v, rfl⟩, k, rfl⟩
  have A2 := Lib.hid ((A.out.drewN_ k).setNx (lookE (g.S j) cp 4 2))
  have H2 := Lib.hid ((H.out.drewN_ k).far (p := ⟨a, 1, none⟩) hra hsa (.int .i64 (lookE (g.S j) cp 4 2)))
  have K2 := Lib.hid (show Kept (Mine a r s) w ((w.drewN k).setCell ⟨a, 1, none⟩ (.int .i64 (lookE (g.S j) cp 4 2))) from ((Kept.refl _ w).drewN_ k).set_ (.inl (.inl rfl)) _)
  go_wp2_with fail
  refine (rended _ A2.out).mono ?_
  rintro e w3 ⟨rfl, rfl⟩
  skip
  go_wp2
  go_ret
  exact ⟨rfl, H2.out, A2.out, K2.out⟩
set_option maxRecDepth 20000 in
set_option maxHeartbeats 2000000 in
theorem rstep8 {a : Nat} {cp cl : Nat} {cu cq : Int} {cr cs : Bool} (w : World) (h : RingAt w r s n g) (ha : ActAt w a r ⟨8, cp, cl, cu, cq, cr, cs⟩) {j : Nat} (hj : cp % n = j) (hp : cp ≤ 900000) (hS : g.S j ≤ 1000000) :
    Calls Try.prog 29 #[.pointer (some ⟨a, 0, none⟩)] w fun e w' => e = .returned (.bool (endE (lookE (g.S j) (cp + 1) 9 7))) ∧ RingAt w' r s n g ∧ ActAt w' a r ⟨lookE (g.S j) (cp + 1) 9 7, cp, cl, cu, cq, cr, cs⟩ ∧ Kept (Mine a r s) w w' := by
  have hap := ha.apart h
  have har : a ≠ r := hap.1
  have has : a ≠ s := hap.2
  have hra : r ≠ a := Ne.symm har
  have hsa : s ≠ a := Ne.symm has
  have hrs : r ≠ s := h.rs
  have hsr : s ≠ r := Ne.symm hrs
  have c0 : w.cell? ⟨a, 0, none⟩ = some (.pointer (some ⟨r, 0, none⟩)) := ha.ring
  have c1 : w.cell? ⟨a, 1, none⟩ = some (.int .i64 8) := ha.nx
  have c2 : w.cell? ⟨a, 2, none⟩ = some (.int .u64 (cp : Int)) := ha.po
  have hcast : ((cp + 1 : Nat) : Int) = (cp : Int) + 1 := by omega
  have HC := Lib.hid hcast
  have HJ := Lib.hid hj
  clear hj hcast
  have H := Lib.hid h
  have A := Lib.hid ha
  clear hap h ha
  go_enter Try.func29, Try.ntmps29
  go_wp2_with fail
  refine (rended _ A.out).mono ?_
  rintro e w1 ⟨rfl, rfl⟩
  rw [show endE 8 = false from rfl]
  go_wp2_with fail
  rw [← HC.out]
  refine (rcheck (cp + 1) _ _ _ H.out A.out HJ.out (show cp ≤ 1000000 by omega) (by omega) hS).mono ?_
  rintro e w2 ⟨⟨v, rfl⟩, k, rfl⟩
  have A2 := Lib.hid ((A.out.drewN_ k).setNx (lookE (g.S j) (cp + 1) 9 7))
  have H2 := Lib.hid ((H.out.drewN_ k).far (p := ⟨a, 1, none⟩) hra hsa (.int .i64 (lookE (g.S j) (cp + 1) 9 7)))
  have K2 := Lib.hid (show Kept (Mine a r s) w ((w.drewN k).setCell ⟨a, 1, none⟩ (.int .i64 (lookE (g.S j) (cp + 1) 9 7))) from ((Kept.refl _ w).drewN_ k).set_ (.inl (.inl rfl)) _)
  go_wp2_with fail
  refine (rended _ A2.out).mono ?_
  rintro e w3 ⟨rfl, rfl⟩
  skip
  go_wp2
  go_ret
  exact ⟨rfl, H2.out, A2.out, K2.out⟩
end
end Go.Proofs.Ytbenpnecjmpcbaa
