/- An act claims a place. -/
import Derived.Test.YtbenpnecjmpcbaaRngd
import Derived.Deep.DeepCutAuto
namespace Go.Proofs.Ytbenpnecjmpcbaa
open Go.RowKit
set_option linter.unusedVariables false
section
variable {r s n : Nat} {g : Rg}
set_option maxRecDepth 20000 in
set_option maxHeartbeats 2000000 in
theorem rstep4h {a : Nat} {cp cl : Nat} {cu cq : Int} {cr cs : Bool} (w : World) (h : RingAt w r s n g) (ha : ActAt w a r ⟨4, cp, cl, cu, cq, cr, cs⟩) (hp : cp ≤ 900000) (hx : g.T = cp) :
    Calls Try.prog 29 #[.pointer (some ⟨a, 0, none⟩)] w fun e w' => e = .returned (.bool false) ∧ RingAt w' r s n { g with T := cp + 1 } ∧ ActAt w' a r ⟨6, cp, cp, cu, cq, cr, cs⟩ ∧ Kept (Mine a r s) w w' := by
  have hap := ha.apart h
  have har : a ≠ r := hap.1
  have has : a ≠ s := hap.2
  have hra : r ≠ a := Ne.symm har
  have hsa : s ≠ a := Ne.symm has
  have hrs : r ≠ s := h.rs
  have hsr : s ≠ r := Ne.symm hrs
  have c0 : w.cell? ⟨a, 0, none⟩ = some (.pointer (some ⟨r, 0, none⟩)) := ha.ring
  have c1 : w.cell? ⟨a, 1, none⟩ = some (.int .i64 4) := ha.nx
  have hx0 : w.cell? ⟨r, 0, none⟩ = some (.int .u64 (cp : Int)) := by rw [← hx]; exact h.t0
  have hz0 := h.zr 0
  have HX := Lib.hid hx0
  have hcast : ((cp + 1 : Nat) : Int) = (cp : Int) + 1 := by omega
  have HC := Lib.hid hcast
  clear hx hx0 hcast
  have H := Lib.hid h
  have A := Lib.hid ha
  clear hap h ha
  go_enter Try.func29, Try.ntmps29
  go_wp2_with fail
  refine (rended _ A.out).mono ?_
  rintro e w1 ⟨rfl, rfl⟩
  rw [show endE 4 = false from rfl]
  go_wp2_with fail
  refine (rclaim_hit 0 _ _ _ HX.out hz0 A.out hra (by omega)).mono ?_
  rintro e w2 ⟨⟨v, rfl⟩, rfl⟩
  have H2 := Lib.hid (((H.out.drew_.setT (cp + 1)).far (p := ⟨a, 3, none⟩) hra hsa (.int .u64 (cp : Int))).far (p := ⟨a, 1, none⟩) hra hsa (.int .i64 6))
  have A2 := Lib.hid (((ActAt.far (show ActAt w.drew a r _ from A.out) (p := ⟨r, 0, none⟩) har (.int .u64 ((cp + 1 : Nat) : Int))).setPl cp).setNx 6)
  rw [HC.out] at H2 A2
  have K2 := Lib.hid (show Kept (Mine a r s) w (((w.drew.setCell ⟨r, 0, none⟩ (.int .u64 ((cp : Int) + 1))).setCell ⟨a, 3, none⟩ (.int .u64 (cp : Int))).setCell ⟨a, 1, none⟩ (.int .i64 6)) from by
    repeat (first | with_reducible exact Kept.refl _ _ | refine Kept.set_ ?_ (.inl (by unfold Mine; simp)) _ | with_reducible refine Kept.drewN_ ?_ _ | with_reducible refine Kept.drew_ ?_))
  go_wp2_with fail
  refine (rended _ A2.out).mono ?_
  rintro e w3 ⟨rfl, rfl⟩
  rw [show endE 6 = false from rfl]
  go_wp2
  go_ret
  exact ⟨rfl, H2.out, A2.out, K2.out⟩
set_option maxRecDepth 20000 in
set_option maxHeartbeats 2000000 in
theorem rstep4m {a : Nat} {cp cl : Nat} {cu cq : Int} {cr cs : Bool} (w : World) (h : RingAt w r s n g) (ha : ActAt w a r ⟨4, cp, cl, cu, cq, cr, cs⟩) (hp : cp ≤ 900000) (hx : g.T ≠ cp) :
    Calls Try.prog 29 #[.pointer (some ⟨a, 0, none⟩)] w fun e w' => e = .returned (.bool false) ∧ RingAt w' r s n g ∧ ActAt w' a r ⟨2, cp, cl, cu, cq, cr, cs⟩ ∧ Kept (Mine a r s) w w' := by
  have hap := ha.apart h
  have har : a ≠ r := hap.1
  have has : a ≠ s := hap.2
  have hra : r ≠ a := Ne.symm har
  have hsa : s ≠ a := Ne.symm has
  have hrs : r ≠ s := h.rs
  have hsr : s ≠ r := Ne.symm hrs
  have c0 : w.cell? ⟨a, 0, none⟩ = some (.pointer (some ⟨r, 0, none⟩)) := ha.ring
  have c1 : w.cell? ⟨a, 1, none⟩ = some (.int .i64 4) := ha.nx
  have hx0 := h.t0
  have hz0 := h.zr 0
  have HX := Lib.hid hx0
  clear hx0
  have H := Lib.hid h
  have A := Lib.hid ha
  clear hap h ha
  go_enter Try.func29, Try.ntmps29
  go_wp2_with fail
  refine (rended _ A.out).mono ?_
  rintro e w1 ⟨rfl, rfl⟩
  rw [show endE 4 = false from rfl]
  go_wp2_with fail
  refine (rclaim_miss 0 _ _ _ _ HX.out hz0 hx A.out hra (by omega)).mono ?_
  rintro e w2 ⟨⟨v, rfl⟩, rfl⟩
  have H2 := Lib.hid (H.out.drew_.far (p := ⟨a, 1, none⟩) hra hsa (.int .i64 2))
  have A2 := Lib.hid ((show ActAt w.drew a r _ from A.out).setNx 2)
  have K2 := Lib.hid (show Kept (Mine a r s) w (w.drew.setCell ⟨a, 1, none⟩ (.int .i64 2)) from by
    repeat (first | with_reducible exact Kept.refl _ _ | refine Kept.set_ ?_ (.inl (by unfold Mine; simp)) _ | with_reducible refine Kept.drewN_ ?_ _ | with_reducible refine Kept.drew_ ?_))
  go_wp2_with fail
  refine (rended _ A2.out).mono ?_
  rintro e w3 ⟨rfl, rfl⟩
  rw [show endE 2 = false from rfl]
  go_wp2
  go_ret
  exact ⟨rfl, H2.out, A2.out, K2.out⟩
set_option maxRecDepth 20000 in
set_option maxHeartbeats 2000000 in
theorem rstep9h {a : Nat} {cp cl : Nat} {cu cq : Int} {cr cs : Bool} (w : World) (h : RingAt w r s n g) (ha : ActAt w a r ⟨9, cp, cl, cu, cq, cr, cs⟩) (hp : cp ≤ 900000) (hx : g.H = cp) :
    Calls Try.prog 29 #[.pointer (some ⟨a, 0, none⟩)] w fun e w' => e = .returned (.bool false) ∧ RingAt w' r s n { g with H := cp + 1 } ∧ ActAt w' a r ⟨10, cp, cp, cu, cq, cr, cs⟩ ∧ Kept (Mine a r s) w w' := by
  have hap := ha.apart h
  have har : a ≠ r := hap.1
  have has : a ≠ s := hap.2
  have hra : r ≠ a := Ne.symm har
  have hsa : s ≠ a := Ne.symm has
  have hrs : r ≠ s := h.rs
  have hsr : s ≠ r := Ne.symm hrs
  have c0 : w.cell? ⟨a, 0, none⟩ = some (.pointer (some ⟨r, 0, none⟩)) := ha.ring
  have c1 : w.cell? ⟨a, 1, none⟩ = some (.int .i64 9) := ha.nx
  have hx0 : w.cell? ⟨r, 1, none⟩ = some (.int .u64 (cp : Int)) := by rw [← hx]; exact h.h0
  have hz0 := h.zr 1
  have HX := Lib.hid hx0
  have hcast : ((cp + 1 : Nat) : Int) = (cp : Int) + 1 := by omega
  have HC := Lib.hid hcast
  clear hx hx0 hcast
  have H := Lib.hid h
  have A := Lib.hid ha
  clear hap h ha
  go_enter Try.func29, Try.ntmps29
  go_wp2_with fail
  refine (rended _ A.out).mono ?_
  rintro e w1 ⟨rfl, rfl⟩
  rw [show endE 9 = false from rfl]
  go_wp2_with fail
  refine (rclaim_hit 1 _ _ _ HX.out hz0 A.out hra (by omega)).mono ?_
  rintro e w2 ⟨⟨v, rfl⟩, rfl⟩
  have H2 := Lib.hid (((H.out.drew_.setH (cp + 1)).far (p := ⟨a, 3, none⟩) hra hsa (.int .u64 (cp : Int))).far (p := ⟨a, 1, none⟩) hra hsa (.int .i64 10))
  have A2 := Lib.hid (((ActAt.far (show ActAt w.drew a r _ from A.out) (p := ⟨r, 1, none⟩) har (.int .u64 ((cp + 1 : Nat) : Int))).setPl cp).setNx 10)
  rw [HC.out] at H2 A2
  have K2 := Lib.hid (show Kept (Mine a r s) w (((w.drew.setCell ⟨r, 1, none⟩ (.int .u64 ((cp : Int) + 1))).setCell ⟨a, 3, none⟩ (.int .u64 (cp : Int))).setCell ⟨a, 1, none⟩ (.int .i64 10)) from by
    repeat (first | with_reducible exact Kept.refl _ _ | refine Kept.set_ ?_ (.inl (by unfold Mine; simp)) _ | with_reducible refine Kept.drewN_ ?_ _ | with_reducible refine Kept.drew_ ?_))
  go_wp2_with fail
  refine (rended _ A2.out).mono ?_
  rintro e w3 ⟨rfl, rfl⟩
  rw [show endE 10 = false from rfl]
  go_wp2
  go_ret
  exact ⟨rfl, H2.out, A2.out, K2.out⟩
set_option maxRecDepth 20000 in
set_option maxHeartbeats 2000000 in
theorem rstep9m {a : Nat} {cp cl : Nat} {cu cq : Int} {cr cs : Bool} (w : World) (h : RingAt w r s n g) (ha : ActAt w a r ⟨9, cp, cl, cu, cq, cr, cs⟩) (hp : cp ≤ 900000) (hx : g.H ≠ cp) :
    Calls Try.prog 29 #[.pointer (some ⟨a, 0, none⟩)] w fun e w' => e = .returned (.bool false) ∧ RingAt w' r s n g ∧ ActAt w' a r ⟨7, cp, cl, cu, cq, cr, cs⟩ ∧ Kept (Mine a r s) w w' := by
  have hap := ha.apart h
  have har : a ≠ r := hap.1
  have has : a ≠ s := hap.2
  have hra : r ≠ a := Ne.symm har
  have hsa : s ≠ a := Ne.symm has
  have hrs : r ≠ s := h.rs
  have hsr : s ≠ r := Ne.symm hrs
  have c0 : w.cell? ⟨a, 0, none⟩ = some (.pointer (some ⟨r, 0, none⟩)) := ha.ring
  have c1 : w.cell? ⟨a, 1, none⟩ = some (.int .i64 9) := ha.nx
  have hx0 := h.h0
  have hz0 := h.zr 1
  have HX := Lib.hid hx0
  clear hx0
  have H := Lib.hid h
  have A := Lib.hid ha
  clear hap h ha
  go_enter Try.func29, Try.ntmps29
  go_wp2_with fail
  refine (rended _ A.out).mono ?_
  rintro e w1 ⟨rfl, rfl⟩
  rw [show endE 9 = false from rfl]
  go_wp2_with fail
  refine (rclaim_miss 1 _ _ _ _ HX.out hz0 hx A.out hra (by omega)).mono ?_
  rintro e w2 ⟨⟨v, rfl⟩, rfl⟩
  have H2 := Lib.hid (H.out.drew_.far (p := ⟨a, 1, none⟩) hra hsa (.int .i64 7))
  have A2 := Lib.hid ((show ActAt w.drew a r _ from A.out).setNx 7)
  have K2 := Lib.hid (show Kept (Mine a r s) w (w.drew.setCell ⟨a, 1, none⟩ (.int .i64 7)) from by
    repeat (first | with_reducible exact Kept.refl _ _ | refine Kept.set_ ?_ (.inl (by unfold Mine; simp)) _ | with_reducible refine Kept.drewN_ ?_ _ | with_reducible refine Kept.drew_ ?_))
  go_wp2_with fail
  refine (rended _ A2.out).mono ?_
  rintro e w3 ⟨rfl, rfl⟩
  rw [show endE 7 = false from rfl]
  go_wp2
  go_ret
  exact ⟨rfl, H2.out, A2.out, K2.out⟩
end
end Go.Proofs.Ytbenpnecjmpcbaa
