/- An act joins, fills, takes. -/
import Derived.Test.YtbenpnecjmpcbaaRnge
import Derived.Deep.DeepCutAuto
namespace Go.Proofs.Ytbenpnecjmpcbaa
open Go.RowKit
set_option linter.unusedVariables false
section
variable {r s n : Nat} {g : Rg}
set_option maxRecDepth 20000 in
set_option maxHeartbeats 2000000 in
theorem rstep5 {a : Nat} {cp cl : Nat} {cu cq : Int} {cr cs : Bool} (w : World) (h : RingAt w r s n g) (ha : ActAt w a r ⟨5, cp, cl, cu, cq, cr, cs⟩) (hp : g.T ≤ 900000) :
    Calls Try.prog 29 #[.pointer (some ⟨a, 0, none⟩)] w fun e w' => e = .returned (.bool false) ∧ RingAt w' r s n { g with T := g.T + 1 } ∧ ActAt w' a r ⟨6, cp, g.T, cu, cq, cr, cs⟩ ∧ Kept (Mine a r s) w w' := by
  have hap := ha.apart h
  have har : a ≠ r := hap.1
  have has : a ≠ s := hap.2
  have hra : r ≠ a := Ne.symm har
  have hsa : s ≠ a := Ne.symm has
  have hrs : r ≠ s := h.rs
  have hsr : s ≠ r := Ne.symm hrs
  have c0 : w.cell? ⟨a, 0, none⟩ = some (.pointer (some ⟨r, 0, none⟩)) := ha.ring
  have c1 : w.cell? ⟨a, 1, none⟩ = some (.int .i64 5) := ha.nx
  have hx0 := h.t0
  have hz0 := h.zr 0
  have c3 : w.cell? ⟨a, 3, none⟩ = some (.int .u64 (cl : Int)) := ha.pl
  have z3 := ha.free 3
  have z1 := ha.free 1
  have hcast : ((g.T + 1 : Nat) : Int) = (g.T : Int) + 1 := by omega
  have HC := Lib.hid hcast
  clear hcast
  have H := Lib.hid h
  have A := Lib.hid ha
  clear hap h ha
  go_enter Try.func29, Try.ntmps29
  go_wp2_with fail
  refine (rended _ A.out).mono ?_
  rintro e w1 ⟨rfl, rfl⟩
  rw [show endE 5 = false from rfl]
  go_wp2_with (first
    | (go_at_call 39; refine (aadd _ _ _ _ (by omega) hx0 hz0).mono ?_; rintro e w2 ⟨rfl, rfl⟩)
    | (go_at_call 20; have A2 := Lib.hid (((ActAt.far A.out (p := ⟨r, 0, none⟩) har (.int .u64 ((g.T + 1 : Nat) : Int))).setPl g.T).setNx 6); rw [HC.out] at A2; refine (rended _ A2.out).mono ?_; rintro e w3 ⟨rfl, rfl⟩; rw [show endE 6 = false from rfl]))
  go_ret
  refine ⟨rfl, ?_, A2.out, ?_⟩
  · have H2 := ((H.out.setT (g.T + 1)).far (p := ⟨a, 3, none⟩) hra hsa (.int .u64 (g.T : Int))).far (p := ⟨a, 1, none⟩) hra hsa (.int .i64 6)
    rw [HC.out] at H2
    exact H2
  · repeat (first | with_reducible exact Kept.refl _ _ | refine Kept.set_ ?_ (.inl (by unfold Mine; simp)) _ | with_reducible refine Kept.drewN_ ?_ _ | with_reducible refine Kept.drew_ ?_)
set_option maxRecDepth 20000 in
set_option maxHeartbeats 2000000 in
theorem rstep6 {a : Nat} {cp cl : Nat} {cu cq : Int} {cr cs : Bool} (w : World) (h : RingAt w r s n g) (ha : ActAt w a r ⟨6, cp, cl, cu, cq, cr, cs⟩) {j : Nat} (hj : cl % n = j) (hp : cl ≤ 900000) :
    Calls Try.prog 29 #[.pointer (some ⟨a, 0, none⟩)] w fun e w' => e = .returned (.bool true) ∧ RingAt w' r s n { g with S := fun i => if i = j then cl + 1 else g.S i, V := fun i => if i = j then cu else g.V i } ∧ ActAt w' a r ⟨1, cp, cl, cu, cq, cr, cs⟩ ∧ Kept (Mine a r s) w w' := by
  have hap := ha.apart h
  have har : a ≠ r := hap.1
  have has : a ≠ s := hap.2
  have hra : r ≠ a := Ne.symm har
  have hsa : s ≠ a := Ne.symm has
  have hrs : r ≠ s := h.rs
  have hsr : s ≠ r := Ne.symm hrs
  have c0 : w.cell? ⟨a, 0, none⟩ = some (.pointer (some ⟨r, 0, none⟩)) := ha.ring
  have c1 : w.cell? ⟨a, 1, none⟩ = some (.int .i64 6) := ha.nx
  have c3 : w.cell? ⟨a, 3, none⟩ = some (.int .u64 (cl : Int)) := ha.pl
  have hcast : ((cl + 1 : Nat) : Int) = (cl : Int) + 1 := by omega
  have HC := Lib.hid hcast
  have hjn : j < n := by rw [← hj]; exact Nat.mod_lt _ h.n0
  have HJ := Lib.hid hj
  clear hcast hj
  have H := Lib.hid h
  have A := Lib.hid ha
  clear hap h ha
  go_enter Try.func29, Try.ntmps29
  go_wp2_with fail
  refine (rended _ A.out).mono ?_
  rintro e w1 ⟨rfl, rfl⟩
  rw [show endE 6 = false from rfl]
  go_wp2_with fail
  go_quiet ((go_at_call 40; exact quiet_c (rslot _ _ (H.out.drewN_ _) (by omega) HJ.out)))
  go_upto_region 15 with fail
  refine wp_world_ (fun wx => RingAt wx r s n g ∧ ActAt wx a r ⟨6, cp, cl, cu, cq, cr, cs⟩ ∧ Kept (Mine a r s) w wx) ⟨H.out.drewN_ _, A.out.drewN_ _, (Kept.refl _ w).drewN_ _⟩ ?_
  rintro wx ⟨h2, a2, k2⟩
  have d4 : wx.cell? ⟨a, 4, none⟩ = some (.int .u64 cu) := a2.pu
  have d3 : wx.cell? ⟨a, 3, none⟩ = some (.int .u64 (cl : Int)) := a2.pl
  have v1 := h2.vl hjn
  have u1 := h2.zs (j * 2 + 1)
  have H2 := Lib.hid h2
  have A2 := Lib.hid a2
  clear h2 a2 c0 c1 c3
  go_upto_region 16 with fail
  refine wp_world_ (fun wy => RingAt wy r s n { g with V := fun i => if i = j then cu else g.V i } ∧ ActAt wy a r ⟨6, cp, cl, cu, cq, cr, cs⟩ ∧ Kept (Mine a r s) w wy) ⟨H2.out.setV hjn cu, A2.out.far has _, k2.set_ (.inl (.inr (.inr rfl))) _⟩ ?_
  clear d4 d3 v1 u1 H2 A2 k2
  rintro wy ⟨h3, a3, k3⟩
  have d3 : wy.cell? ⟨a, 3, none⟩ = some (.int .u64 (cl : Int)) := a3.pl
  have d1 : wy.cell? ⟨a, 1, none⟩ = some (.int .i64 6) := a3.nx
  have z1 := a3.free 1
  have q1 := h3.sq hjn
  have u1 := h3.zs (j * 2)
  have hs1 : IntKind.u64.wrap ((cl : Int) + 1) = (cl : Int) + 1 := IntWalk.u64_in _ (by omega)
  have H3 := Lib.hid h3
  have A3 := Lib.hid a3
  clear h3 a3
  go_still_tail 8, (by kernel_rfl)
  go_wp2_with (first
    | (go_at_call 26; refine (astore _ _ _ _ wy.drew q1 u1).mono ?_; rintro e w2 ⟨⟨v, rfl⟩, rfl⟩)
    | (go_at_call 20; have A4 := Lib.hid ((ActAt.far (show ActAt wy.drew a r _ from A3.out) (p := ⟨s, j * 2, none⟩) has (.int .u64 ((cl + 1 : Nat) : Int))).setNx 1); rw [HC.out] at A4; refine (rended _ A4.out).mono ?_; rintro e w3 ⟨rfl, rfl⟩; rw [show endE 1 = true from rfl]))
  go_ret
  refine ⟨rfl, ?_, A4.out, ?_⟩
  · have H4 := (H3.out.drew_.setS hjn (cl + 1)).far (p := ⟨a, 1, none⟩) hra hsa (.int .i64 1)
    rw [HC.out] at H4
    exact H4
  · exact k3.trans (by repeat (first | with_reducible exact Kept.refl _ _ | refine Kept.set_ ?_ (.inl (by unfold Mine; simp)) _ | with_reducible refine Kept.drewN_ ?_ _ | with_reducible refine Kept.drew_ ?_))
set_option maxRecDepth 20000 in
set_option maxHeartbeats 2000000 in
theorem rstep10 {a : Nat} {cp cl : Nat} {cu cq : Int} {cr cs : Bool} (w : World) (h : RingAt w r s n g) (ha : ActAt w a r ⟨10, cp, cl, cu, cq, cr, cs⟩) {j : Nat} (hj : cl % n = j) (hp : cl ≤ 900000) :
    Calls Try.prog 29 #[.pointer (some ⟨a, 0, none⟩)] w fun e w' => e = .returned (.bool true) ∧ RingAt w' r s n { g with S := fun i => if i = j then cl + n else g.S i } ∧ ActAt w' a r ⟨1, cp, cl, cu, g.V j, cr, cs⟩ ∧ Kept (Mine a r s) w w' := by
  have hap := ha.apart h
  have har : a ≠ r := hap.1
  have has : a ≠ s := hap.2
  have hra : r ≠ a := Ne.symm har
  have hsa : s ≠ a := Ne.symm has
  have hrs : r ≠ s := h.rs
  have hsr : s ≠ r := Ne.symm hrs
  have c0 : w.cell? ⟨a, 0, none⟩ = some (.pointer (some ⟨r, 0, none⟩)) := ha.ring
  have c1 : w.cell? ⟨a, 1, none⟩ = some (.int .i64 10) := ha.nx
  have c3 : w.cell? ⟨a, 3, none⟩ = some (.int .u64 (cl : Int)) := ha.pl
  have n1 := h.n1
  have hcast : ((cl + n : Nat) : Int) = (cl : Int) + (n : Int) := by omega
  have HC := Lib.hid hcast
  have hjn : j < n := by rw [← hj]; exact Nat.mod_lt _ h.n0
  have HJ := Lib.hid hj
  clear hcast hj
  have H := Lib.hid h
  have A := Lib.hid ha
  clear hap h ha
  go_enter Try.func29, Try.ntmps29
  go_wp2_with fail
  refine (rended _ A.out).mono ?_
  rintro e w1 ⟨rfl, rfl⟩
  rw [show endE 10 = false from rfl]
  go_wp2_with fail
  go_quiet ((go_at_call 40; exact quiet_c (rslot _ _ (H.out.drewN_ _) (by omega) HJ.out)))
  go_upto_region 26 with fail
  refine wp_world_ (fun wx => RingAt wx r s n g ∧ ActAt wx a r ⟨10, cp, cl, cu, cq, cr, cs⟩ ∧ Kept (Mine a r s) w wx) ⟨H.out.drewN_ _, A.out.drewN_ _, (Kept.refl _ w).drewN_ _⟩ ?_
  rintro wx ⟨h2, a2, k2⟩
  have d5 : wx.cell? ⟨a, 5, none⟩ = some (.int .u64 cq) := a2.pp
  have z5 := a2.free 5
  have v1 := h2.vl hjn
  have H2 := Lib.hid h2
  have A2 := Lib.hid a2
  clear h2 a2 c0 c1 c3
  go_upto_region 27 with fail
  refine wp_world_ (fun wy => RingAt wy r s n g ∧ ActAt wy a r ⟨10, cp, cl, cu, g.V j, cr, cs⟩ ∧ Kept (Mine a r s) w wy) ⟨H2.out.far (p := ⟨a, 5, none⟩) hra hsa _, A2.out.setPp _, k2.set_ (.inl (.inl rfl)) _⟩ ?_
  clear d5 z5 v1 H2 A2 k2
  rintro wy ⟨h3, a3, k3⟩
  have d3 : wy.cell? ⟨a, 3, none⟩ = some (.int .u64 (cl : Int)) := a3.pl
  have d0 : wy.cell? ⟨a, 0, none⟩ = some (.pointer (some ⟨r, 0, none⟩)) := a3.ring
  have d1 : wy.cell? ⟨a, 1, none⟩ = some (.int .i64 10) := a3.nx
  have z1 := a3.free 1
  have q1 := h3.sq hjn
  have u1 := h3.zs (j * 2)
  have hs0 : IntKind.u64.wrap (n : Int) = (n : Int) := IntWalk.u64_in _ (by omega)
  have hs1 : IntKind.u64.wrap ((cl : Int) + (n : Int)) = (cl : Int) + (n : Int) := IntWalk.u64_in _ (by omega)
  have H3 := Lib.hid h3
  have A3 := Lib.hid a3
  clear h3 a3
  go_region_held3 (fun w' => w'.cell? ⟨a, 3, none⟩ = some (.int .u64 (cl : Int)) ∧ w'.cell? ⟨a, 0, none⟩ = some (.pointer (some ⟨r, 0, none⟩)))
    (first | go_keep)
    (first
      | (go_at_call 41; refine (rcap _ H3.out.drew_).mono ?_; rintro e w2 ⟨rfl, rfl⟩)
      | (go_at_call 26; refine (astore _ _ _ _ wy.drew q1 u1).mono ?_; rintro e w2 ⟨⟨v, rfl⟩, rfl⟩))
  go_wp2_with (go_at_call 20; have A4 := Lib.hid ((ActAt.far (show ActAt wy.drew a r _ from A3.out) (p := ⟨s, j * 2, none⟩) has (.int .u64 ((cl + n : Nat) : Int))).setNx 1); rw [HC.out] at A4; refine (rended _ A4.out).mono ?_; rintro e w3 ⟨rfl, rfl⟩; rw [show endE 1 = true from rfl])
  go_ret
  refine ⟨rfl, ?_, A4.out, ?_⟩
  · have H4 := (H3.out.drew_.setS hjn (cl + n)).far (p := ⟨a, 1, none⟩) hra hsa (.int .i64 1)
    rw [HC.out] at H4
    exact H4
  · exact k3.trans (by repeat (first | with_reducible exact Kept.refl _ _ | refine Kept.set_ ?_ (.inl (by unfold Mine; simp)) _ | with_reducible refine Kept.drewN_ ?_ _ | with_reducible refine Kept.drew_ ?_))
end
end Go.Proofs.Ytbenpnecjmpcbaa
