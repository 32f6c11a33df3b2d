/- What a step of the document's act does. -/
import Derived.Test.YtbenpnecjmpcbaaRefx
import Derived.Deep.DeepCutAuto
import Derived.StillTailTactics
namespace Go.Proofs.Ytbenpnecjmpcbaa
open Go.RowKit
set_option linter.unusedVariables false
section
variable {q b d n cb cd : Nat} {g : Rg}
set_option maxRecDepth 20000 in
set_option maxHeartbeats 2000000 in
theorem y0_1 {y : Nat} {po pl : Nat} {v : Int} {wl : Bool} (w : World) (h : XAt w q b d n cb cd g) (hy : YAt w y 0 1 po pl v wl) :
    Calls Try.prog 30 #[.pointer (some ⟨q, 0, none⟩), .pointer (some ⟨y, 0, none⟩)] w fun e w' => (∃ u, e = .returned u) ∧ XAt w' q b d n cb cd g ∧ YAt w' y 0 2 g.T pl v wl ∧ Kept (Our y q b d) w w' := by
  have hap := hy.apart h
  have yq : y ≠ q := hap.1
  have yb : y ≠ b := hap.2.1
  have yd : y ≠ d := hap.2.2
  have qy := Ne.symm yq
  have by_ := Ne.symm yb
  have dy := Ne.symm yd
  have qb : q ≠ b := h.qs.1
  have qd : q ≠ d := h.qs.2
  have bq := Ne.symm qb
  have dq := Ne.symm qd
  have bd : b ≠ d := h.bd
  have db := Ne.symm bd
  have n0 := h.n0
  have n1 := h.n1
  have s0 := h.s0
  have k0 : w.cell? ⟨y, 0, none⟩ = some (.int .i64 0) := hy.k0
  have k1 : w.cell? ⟨y, 1, none⟩ = some (.int .i64 1) := hy.nx1
  have z1 := hy.free 1
  have hwn : IntKind.u64.wrap (n : Int) = (n : Int) := IntWalk.u64_in _ (by omega)
  have t0 := h.t0
  have k2 : w.cell? ⟨y, 2, none⟩ = some (.int .u64 (po : Int)) := hy.po2
  have z2 := hy.free 2
  have X := Lib.hid h
  have Y := Lib.hid hy
  clear hap h hy
  go_enter Try.func30, Try.ntmps30
  go_wp2
  go_end0
  refine ⟨⟨_, rfl⟩, (X.out.far (p := ⟨y, 2, none⟩) qy by_ dy _).far (p := ⟨y, 1, none⟩) qy by_ dy _, (Y.out.setPo g.T).setNx 2, ?_⟩
  repeat (first | with_reducible exact Kept.refl _ _ | refine Kept.set_ ?_ (.inl (by unfold Our; simp)) _ | with_reducible refine Kept.drewN_ ?_ _ | with_reducible refine Kept.drew_ ?_)
set_option maxRecDepth 20000 in
set_option maxHeartbeats 2000000 in
theorem y0_3h {y : Nat} {po pl : Nat} {v : Int} {wl : Bool} (w : World) (h : XAt w q b d n cb cd g) (hy : YAt w y 0 3 po pl v wl) (hp : po ≤ 900000) (hx : g.T = po) :
    Calls Try.prog 30 #[.pointer (some ⟨q, 0, none⟩), .pointer (some ⟨y, 0, none⟩)] w fun e w' => (∃ u, e = .returned u) ∧ XAt w' q b d n cb cd { g with T := po + 1 } ∧ YAt w' y 0 4 po po v wl ∧ Kept (Our y q b d) w w' := by
  have hap := hy.apart h
  have yq : y ≠ q := hap.1
  have yb : y ≠ b := hap.2.1
  have yd : y ≠ d := hap.2.2
  have qy := Ne.symm yq
  have by_ := Ne.symm yb
  have dy := Ne.symm yd
  have qb : q ≠ b := h.qs.1
  have qd : q ≠ d := h.qs.2
  have bq := Ne.symm qb
  have dq := Ne.symm qd
  have bd : b ≠ d := h.bd
  have db := Ne.symm bd
  have n0 := h.n0
  have n1 := h.n1
  have s0 := h.s0
  have k0 : w.cell? ⟨y, 0, none⟩ = some (.int .i64 0) := hy.k0
  have k1 : w.cell? ⟨y, 1, none⟩ = some (.int .i64 3) := hy.nx1
  have z1 := hy.free 1
  have hwn : IntKind.u64.wrap (n : Int) = (n : Int) := IntWalk.u64_in _ (by omega)
  have t0 : w.cell? ⟨q, 0, none⟩ = some (.int .u64 (po : Int)) := by rw [← hx]; exact h.t0
  have zt := h.zq 0
  have k2 : w.cell? ⟨y, 2, none⟩ = some (.int .u64 (po : Int)) := hy.po2
  have k3 : w.cell? ⟨y, 3, none⟩ = some (.int .u64 (pl : Int)) := hy.pl3
  have z3 := hy.free 3
  have heq : ((po : Int) == (po : Int)) = true := by simp
  have hcast : ((po + 1 : Nat) : Int) = (po : Int) + 1 := by omega
  have HC := Lib.hid hcast
  clear hcast hx
  have X := Lib.hid h
  have Y := Lib.hid hy
  clear hap h hy
  go_enter Try.func30, Try.ntmps30
  go_upto_region 23 with fail
  go_quiet (fail)
  go_upto_region 26 with fail
  go_quiet (fail)
  go_wp2
  go_end0
  refine ⟨⟨_, rfl⟩, ?_, ?_, ?_⟩
  · rw [← HC.out]
    exact ((((X.out.far (p := ⟨y, 1, none⟩) qy by_ dy (.int .i64 1)).setT (po + 1)).far (p := ⟨y, 3, none⟩) qy by_ dy (.int .u64 (po : Int))).far (p := ⟨y, 1, none⟩) qy by_ dy (.int .i64 4)).drewN_ _
  · have y2 := (((Y.out.setNx 1).far (p := ⟨q, 0, none⟩) yq (.int .u64 ((po + 1 : Nat) : Int))).setPl po).setNx 4
    rw [HC.out] at y2
    exact y2
  · repeat (first | with_reducible exact Kept.refl _ _ | refine Kept.set_ ?_ (.inl (by unfold Our; simp)) _ | with_reducible refine Kept.drewN_ ?_ _ | with_reducible refine Kept.drew_ ?_)
set_option maxRecDepth 20000 in
set_option maxHeartbeats 2000000 in
theorem y0_3m {y : Nat} {po pl : Nat} {v : Int} {wl : Bool} (w : World) (h : XAt w q b d n cb cd g) (hy : YAt w y 0 3 po pl v wl) (hx : g.T ≠ po) :
    Calls Try.prog 30 #[.pointer (some ⟨q, 0, none⟩), .pointer (some ⟨y, 0, none⟩)] w fun e w' => (∃ u, e = .returned u) ∧ XAt w' q b d n cb cd g ∧ YAt w' y 0 1 po pl v wl ∧ Kept (Our y q b d) w w' := by
  have hap := hy.apart h
  have yq : y ≠ q := hap.1
  have yb : y ≠ b := hap.2.1
  have yd : y ≠ d := hap.2.2
  have qy := Ne.symm yq
  have by_ := Ne.symm yb
  have dy := Ne.symm yd
  have qb : q ≠ b := h.qs.1
  have qd : q ≠ d := h.qs.2
  have bq := Ne.symm qb
  have dq := Ne.symm qd
  have bd : b ≠ d := h.bd
  have db := Ne.symm bd
  have n0 := h.n0
  have n1 := h.n1
  have s0 := h.s0
  have k0 : w.cell? ⟨y, 0, none⟩ = some (.int .i64 0) := hy.k0
  have k1 : w.cell? ⟨y, 1, none⟩ = some (.int .i64 3) := hy.nx1
  have z1 := hy.free 1
  have hwn : IntKind.u64.wrap (n : Int) = (n : Int) := IntWalk.u64_in _ (by omega)
  have t0 := h.t0
  have k2 : w.cell? ⟨y, 2, none⟩ = some (.int .u64 (po : Int)) := hy.po2
  have heq : ((g.T : Int) == (po : Int)) = false := by rw [beq_eq_false_iff_ne]; omega
  clear hx
  have X := Lib.hid h
  have Y := Lib.hid hy
  clear hap h hy
  go_enter Try.func30, Try.ntmps30
  go_upto_region 23 with fail
  go_quiet (fail)
  go_upto_region 26 with fail
  go_quiet (fail)
  go_wp2
  go_end0
  refine ⟨⟨_, rfl⟩, ((X.out.far (p := ⟨y, 1, none⟩) qy by_ dy (.int .i64 1)).drewN_ _).drewN_ _, Y.out.setNx 1, ?_⟩
  repeat (first | with_reducible exact Kept.refl _ _ | refine Kept.set_ ?_ (.inl (by unfold Our; simp)) _ | with_reducible refine Kept.drewN_ ?_ _ | with_reducible refine Kept.drew_ ?_)
set_option maxRecDepth 20000 in
set_option maxHeartbeats 2000000 in
theorem y0_4 {y : Nat} {po pl : Nat} {v : Int} {wl : Bool} (w : World) (h : XAt w q b d n cb cd g) (hy : YAt w y 0 4 po pl v wl) {j : Nat} (hj : pl % n = j) (hp : pl ≤ 900000) :
    Calls Try.prog 30 #[.pointer (some ⟨q, 0, none⟩), .pointer (some ⟨y, 0, none⟩)] w fun e w' => (∃ u, e = .returned u) ∧ XAt w' q b d n cb cd { g with S := fun i => if i = j then pl + 1 else g.S i, V := fun i => if i = j then v else g.V i } ∧ YAt w' y 0 0 po pl v true ∧ Kept (Our y q b d) w w' := by
  have hap := hy.apart h
  have yq : y ≠ q := hap.1
  have yb : y ≠ b := hap.2.1
  have yd : y ≠ d := hap.2.2
  have qy := Ne.symm yq
  have by_ := Ne.symm yb
  have dy := Ne.symm yd
  have qb : q ≠ b := h.qs.1
  have qd : q ≠ d := h.qs.2
  have bq := Ne.symm qb
  have dq := Ne.symm qd
  have bd : b ≠ d := h.bd
  have db := Ne.symm bd
  have n0 := h.n0
  have n1 := h.n1
  have s0 := h.s0
  have k0 : w.cell? ⟨y, 0, none⟩ = some (.int .i64 0) := hy.k0
  have k1 : w.cell? ⟨y, 1, none⟩ = some (.int .i64 4) := hy.nx1
  have z1 := hy.free 1
  have hwn : IntKind.u64.wrap (n : Int) = (n : Int) := IntWalk.u64_in _ (by omega)
  have hjn : j < n := by rw [← hj]; exact Nat.mod_lt _ n0
  have v0 := h.v0
  have sq := h.sq hjn
  have vl := h.vl hjn
  have zb := h.zb j
  have zd := h.zd j
  have k3 : w.cell? ⟨y, 3, none⟩ = some (.int .u64 (pl : Int)) := hy.pl3
  have k4 : w.cell? ⟨y, 4, none⟩ = some (.int .u64 v) := hy.v4
  have k5 : w.cell? ⟨y, 5, none⟩ = some (.bool wl) := hy.wl5
  have z5 := hy.free 5
  have m1 : (pl : Int).tmod (n : Int) = (j : Int) := by rw [Int.tmod_eq_emod_of_nonneg (by omega), ← Int.natCast_emod, hj]
  have m2 : (pl : Int) % (n : Int) = (j : Int) := by rw [← Int.natCast_emod, hj]
  have hnz : ¬ (n : Int) = 0 := by omega
  have j0 : (0 : Int) ≤ (j : Int) := by omega
  have j1 : (j : Int) < (n : Int) := by omega
  have hs1 : IntKind.u64.wrap ((pl : Int) + 1) = (pl : Int) + 1 := IntWalk.u64_in _ (by omega)
  have hcast : ((pl + 1 : Nat) : Int) = (pl : Int) + 1 := by omega
  have HC := Lib.hid hcast
  clear hcast hj
  have X := Lib.hid h
  have Y := Lib.hid hy
  clear hap h hy
  go_enter Try.func30, Try.ntmps30
  go_upto_region 34 with fail
  go_still_tail 10, (by kernel_rfl)
  go_upto_region 35 with fail
  refine wp_world_ (fun wx => XAt wx q b d n cb cd { g with V := fun i => if i = j then v else g.V i } ∧ YAt wx y 0 4 po pl v wl ∧ Kept (Our y q b d) w wx) ⟨(X.out.drew_.setV hjn v), (YAt.far (show YAt w.drew y 0 4 po pl v wl from Y.out) (p := ⟨d, j, none⟩) yd (.int .u64 v)), by
    repeat (first | with_reducible exact Kept.refl _ _ | refine Kept.set_ ?_ (.inl (by unfold Our; simp)) _ | with_reducible refine Kept.drewN_ ?_ _ | with_reducible refine Kept.drew_ ?_)⟩ ?_
  clear v0 sq vl zb zd k0 k1 k3 k4 k5 z1 z5 s0
  rintro wx ⟨x2, y2, kk2⟩
  have s0 := x2.s0
  have sq := x2.sq hjn
  have zb := x2.zb j
  have k1 : wx.cell? ⟨y, 1, none⟩ = some (.int .i64 4) := y2.nx1
  have k3 : wx.cell? ⟨y, 3, none⟩ = some (.int .u64 (pl : Int)) := y2.pl3
  have k5 : wx.cell? ⟨y, 5, none⟩ = some (.bool wl) := y2.wl5
  have z1 := y2.free 1
  have z5 := y2.free 5
  have X2 := Lib.hid x2
  have Y2 := Lib.hid y2
  clear x2 y2
  go_still_tail 11, (by kernel_rfl)
  go_wp2
  go_end0
  refine ⟨⟨_, rfl⟩, ?_, ?_, ?_⟩
  · have h2 := ((X2.out.setS hjn (pl + 1)).far (p := ⟨y, 1, none⟩) qy by_ dy (.int .i64 0)).far (p := ⟨y, 5, none⟩) qy by_ dy (.bool true)
    rw [HC.out] at h2
    first | exact h2.drew_ | exact h2
  · have y2 := ((Y2.out.far (p := ⟨b, j, none⟩) yb (.int .u64 ((pl + 1 : Nat) : Int))).setNx 0).setWl true
    rw [HC.out] at y2
    exact y2
  · exact kk2.trans (by repeat (first | with_reducible exact Kept.refl _ _ | refine Kept.set_ ?_ (.inl (by unfold Our; simp)) _ | with_reducible refine Kept.drewN_ ?_ _ | with_reducible refine Kept.drew_ ?_))
set_option maxRecDepth 20000 in
set_option maxHeartbeats 2000000 in
theorem y2_1 {y : Nat} {po pl : Nat} {v : Int} {wl : Bool} (w : World) (h : XAt w q b d n cb cd g) (hy : YAt w y 2 1 po pl v wl) :
    Calls Try.prog 30 #[.pointer (some ⟨q, 0, none⟩), .pointer (some ⟨y, 0, none⟩)] w fun e w' => (∃ u, e = .returned u) ∧ XAt w' q b d n cb cd g ∧ YAt w' y 2 2 g.H pl v wl ∧ Kept (Our y q b d) w w' := by
  have hap := hy.apart h
  have yq : y ≠ q := hap.1
  have yb : y ≠ b := hap.2.1
  have yd : y ≠ d := hap.2.2
  have qy := Ne.symm yq
  have by_ := Ne.symm yb
  have dy := Ne.symm yd
  have qb : q ≠ b := h.qs.1
  have qd : q ≠ d := h.qs.2
  have bq := Ne.symm qb
  have dq := Ne.symm qd
  have bd : b ≠ d := h.bd
  have db := Ne.symm bd
  have n0 := h.n0
  have n1 := h.n1
  have s0 := h.s0
  have k0 : w.cell? ⟨y, 0, none⟩ = some (.int .i64 2) := hy.k0
  have k1 : w.cell? ⟨y, 1, none⟩ = some (.int .i64 1) := hy.nx1
  have z1 := hy.free 1
  have hwn : IntKind.u64.wrap (n : Int) = (n : Int) := IntWalk.u64_in _ (by omega)
  have t0 := h.h0
  have k2 : w.cell? ⟨y, 2, none⟩ = some (.int .u64 (po : Int)) := hy.po2
  have z2 := hy.free 2
  have X := Lib.hid h
  have Y := Lib.hid hy
  clear hap h hy
  go_enter Try.func30, Try.ntmps30
  go_wp2
  go_end0
  refine ⟨⟨_, rfl⟩, (X.out.far (p := ⟨y, 2, none⟩) qy by_ dy _).far (p := ⟨y, 1, none⟩) qy by_ dy _, (Y.out.setPo g.H).setNx 2, ?_⟩
  repeat (first | with_reducible exact Kept.refl _ _ | refine Kept.set_ ?_ (.inl (by unfold Our; simp)) _ | with_reducible refine Kept.drewN_ ?_ _ | with_reducible refine Kept.drew_ ?_)
set_option maxRecDepth 20000 in
set_option maxHeartbeats 2000000 in
theorem y2_3h {y : Nat} {po pl : Nat} {v : Int} {wl : Bool} (w : World) (h : XAt w q b d n cb cd g) (hy : YAt w y 2 3 po pl v wl) (hp : po ≤ 900000) (hx : g.H = po) :
    Calls Try.prog 30 #[.pointer (some ⟨q, 0, none⟩), .pointer (some ⟨y, 0, none⟩)] w fun e w' => (∃ u, e = .returned u) ∧ XAt w' q b d n cb cd { g with H := po + 1 } ∧ YAt w' y 2 4 po po v wl ∧ Kept (Our y q b d) w w' := by
  have hap := hy.apart h
  have yq : y ≠ q := hap.1
  have yb : y ≠ b := hap.2.1
  have yd : y ≠ d := hap.2.2
  have qy := Ne.symm yq
  have by_ := Ne.symm yb
  have dy := Ne.symm yd
  have qb : q ≠ b := h.qs.1
  have qd : q ≠ d := h.qs.2
  have bq := Ne.symm qb
  have dq := Ne.symm qd
  have bd : b ≠ d := h.bd
  have db := Ne.symm bd
  have n0 := h.n0
  have n1 := h.n1
  have s0 := h.s0
  have k0 : w.cell? ⟨y, 0, none⟩ = some (.int .i64 2) := hy.k0
  have k1 : w.cell? ⟨y, 1, none⟩ = some (.int .i64 3) := hy.nx1
  have z1 := hy.free 1
  have hwn : IntKind.u64.wrap (n : Int) = (n : Int) := IntWalk.u64_in _ (by omega)
  have t0 : w.cell? ⟨q, 1, none⟩ = some (.int .u64 (po : Int)) := by rw [← hx]; exact h.h0
  have zt := h.zq 1
  have k2 : w.cell? ⟨y, 2, none⟩ = some (.int .u64 (po : Int)) := hy.po2
  have k3 : w.cell? ⟨y, 3, none⟩ = some (.int .u64 (pl : Int)) := hy.pl3
  have z3 := hy.free 3
  have heq : ((po : Int) == (po : Int)) = true := by simp
  have hcast : ((po + 1 : Nat) : Int) = (po : Int) + 1 := by omega
  have HC := Lib.hid hcast
  clear hcast hx
  have X := Lib.hid h
  have Y := Lib.hid hy
  clear hap h hy
  go_enter Try.func30, Try.ntmps30
  go_upto_region 23 with fail
  go_quiet (fail)
  go_wp2
  go_end0
  refine ⟨⟨_, rfl⟩, ?_, ?_, ?_⟩
  · rw [← HC.out]
    exact ((((X.out.far (p := ⟨y, 1, none⟩) qy by_ dy (.int .i64 1)).setH (po + 1)).far (p := ⟨y, 3, none⟩) qy by_ dy (.int .u64 (po : Int))).far (p := ⟨y, 1, none⟩) qy by_ dy (.int .i64 4)).drewN_ _
  · have y2 := (((Y.out.setNx 1).far (p := ⟨q, 1, none⟩) yq (.int .u64 ((po + 1 : Nat) : Int))).setPl po).setNx 4
    rw [HC.out] at y2
    exact y2
  · repeat (first | with_reducible exact Kept.refl _ _ | refine Kept.set_ ?_ (.inl (by unfold Our; simp)) _ | with_reducible refine Kept.drewN_ ?_ _ | with_reducible refine Kept.drew_ ?_)
set_option maxRecDepth 20000 in
set_option maxHeartbeats 2000000 in
theorem y2_3m {y : Nat} {po pl : Nat} {v : Int} {wl : Bool} (w : World) (h : XAt w q b d n cb cd g) (hy : YAt w y 2 3 po pl v wl) (hx : g.H ≠ po) :
    Calls Try.prog 30 #[.pointer (some ⟨q, 0, none⟩), .pointer (some ⟨y, 0, none⟩)] w fun e w' => (∃ u, e = .returned u) ∧ XAt w' q b d n cb cd g ∧ YAt w' y 2 1 po pl v wl ∧ Kept (Our y q b d) w w' := by
  have hap := hy.apart h
  have yq : y ≠ q := hap.1
  have yb : y ≠ b := hap.2.1
  have yd : y ≠ d := hap.2.2
  have qy := Ne.symm yq
  have by_ := Ne.symm yb
  have dy := Ne.symm yd
  have qb : q ≠ b := h.qs.1
  have qd : q ≠ d := h.qs.2
  have bq := Ne.symm qb
  have dq := Ne.symm qd
  have bd : b ≠ d := h.bd
  have db := Ne.symm bd
  have n0 := h.n0
  have n1 := h.n1
  have s0 := h.s0
  have k0 : w.cell? ⟨y, 0, none⟩ = some (.int .i64 2) := hy.k0
  have k1 : w.cell? ⟨y, 1, none⟩ = some (.int .i64 3) := hy.nx1
  have z1 := hy.free 1
  have hwn : IntKind.u64.wrap (n : Int) = (n : Int) := IntWalk.u64_in _ (by omega)
  have t0 := h.h0
  have k2 : w.cell? ⟨y, 2, none⟩ = some (.int .u64 (po : Int)) := hy.po2
  have heq : ((g.H : Int) == (po : Int)) = false := by rw [beq_eq_false_iff_ne]; omega
  clear hx
  have X := Lib.hid h
  have Y := Lib.hid hy
  clear hap h hy
  go_enter Try.func30, Try.ntmps30
  go_upto_region 23 with fail
  go_quiet (fail)
  go_upto_region 26 with fail
  go_quiet (fail)
  go_wp2
  go_end0
  refine ⟨⟨_, rfl⟩, ((X.out.far (p := ⟨y, 1, none⟩) qy by_ dy (.int .i64 1)).drewN_ _).drewN_ _, Y.out.setNx 1, ?_⟩
  repeat (first | with_reducible exact Kept.refl _ _ | refine Kept.set_ ?_ (.inl (by unfold Our; simp)) _ | with_reducible refine Kept.drewN_ ?_ _ | with_reducible refine Kept.drew_ ?_)
set_option maxRecDepth 20000 in
set_option maxHeartbeats 2000000 in
theorem y2_4 {y : Nat} {po pl : Nat} {v : Int} {wl : Bool} (w : World) (h : XAt w q b d n cb cd g) (hy : YAt w y 2 4 po pl v wl) {j : Nat} (hj : pl % n = j) (hp : pl ≤ 900000) :
    Calls Try.prog 30 #[.pointer (some ⟨q, 0, none⟩), .pointer (some ⟨y, 0, none⟩)] w fun e w' => (∃ u, e = .returned u) ∧ XAt w' q b d n cb cd { g with S := fun i => if i = j then pl + n else g.S i } ∧ YAt w' y 2 0 po pl (g.V j) true ∧ Kept (Our y q b d) w w' := by
  have hap := hy.apart h
  have yq : y ≠ q := hap.1
  have yb : y ≠ b := hap.2.1
  have yd : y ≠ d := hap.2.2
  have qy := Ne.symm yq
  have by_ := Ne.symm yb
  have dy := Ne.symm yd
  have qb : q ≠ b := h.qs.1
  have qd : q ≠ d := h.qs.2
  have bq := Ne.symm qb
  have dq := Ne.symm qd
  have bd : b ≠ d := h.bd
  have db := Ne.symm bd
  have n0 := h.n0
  have n1 := h.n1
  have s0 := h.s0
  have k0 : w.cell? ⟨y, 0, none⟩ = some (.int .i64 2) := hy.k0
  have k1 : w.cell? ⟨y, 1, none⟩ = some (.int .i64 4) := hy.nx1
  have z1 := hy.free 1
  have hwn : IntKind.u64.wrap (n : Int) = (n : Int) := IntWalk.u64_in _ (by omega)
  have hjn : j < n := by rw [← hj]; exact Nat.mod_lt _ n0
  have v0 := h.v0
  have sq := h.sq hjn
  have vl := h.vl hjn
  have zb := h.zb j
  have k3 : w.cell? ⟨y, 3, none⟩ = some (.int .u64 (pl : Int)) := hy.pl3
  have k4 : w.cell? ⟨y, 4, none⟩ = some (.int .u64 v) := hy.v4
  have z4 := hy.free 4
  have k5 : w.cell? ⟨y, 5, none⟩ = some (.bool wl) := hy.wl5
  have z5 := hy.free 5
  have m1 : (pl : Int).tmod (n : Int) = (j : Int) := by rw [Int.tmod_eq_emod_of_nonneg (by omega), ← Int.natCast_emod, hj]
  have m2 : (pl : Int) % (n : Int) = (j : Int) := by rw [← Int.natCast_emod, hj]
  have hnz : ¬ (n : Int) = 0 := by omega
  have j0 : (0 : Int) ≤ (j : Int) := by omega
  have j1 : (j : Int) < (n : Int) := by omega
  have hs1 : IntKind.u64.wrap ((pl : Int) + (n : Int)) = (pl : Int) + (n : Int) := IntWalk.u64_in _ (by omega)
  have hcast : ((pl + n : Nat) : Int) = (pl : Int) + (n : Int) := by omega
  have HC := Lib.hid hcast
  clear hcast hj
  have X := Lib.hid h
  have Y := Lib.hid hy
  clear hap h hy
  go_enter Try.func30, Try.ntmps30
  go_upto_region 33 with fail
  refine wp_world_ (fun wx => XAt wx q b d n cb cd g ∧ YAt wx y 2 4 po pl (g.V j) wl ∧ Kept (Our y q b d) w wx) ⟨X.out.far (p := ⟨y, 4, none⟩) qy by_ dy (.int .u64 (g.V j)), Y.out.setV (g.V j), by
    repeat (first | with_reducible exact Kept.refl _ _ | refine Kept.set_ ?_ (.inl (by unfold Our; simp)) _ | with_reducible refine Kept.drewN_ ?_ _ | with_reducible refine Kept.drew_ ?_)⟩ ?_
  clear v0 sq vl zb k0 k1 k3 k4 k5 z1 z4 z5 s0
  rintro wx ⟨x2, y2, kk2⟩
  have s0 := x2.s0
  have sq := x2.sq hjn
  have zb := x2.zb j
  have k1 : wx.cell? ⟨y, 1, none⟩ = some (.int .i64 4) := y2.nx1
  have k3 : wx.cell? ⟨y, 3, none⟩ = some (.int .u64 (pl : Int)) := y2.pl3
  have k5 : wx.cell? ⟨y, 5, none⟩ = some (.bool wl) := y2.wl5
  have z1 := y2.free 1
  have z5 := y2.free 5
  have X2 := Lib.hid x2
  have Y2 := Lib.hid y2
  clear x2 y2
  go_still_tail 12, (by kernel_rfl)
  go_wp2
  go_end0
  refine ⟨⟨_, rfl⟩, ?_, ?_, ?_⟩
  · have h2 := ((X2.out.setS hjn (pl + n)).far (p := ⟨y, 1, none⟩) qy by_ dy (.int .i64 0)).far (p := ⟨y, 5, none⟩) qy by_ dy (.bool true)
    rw [HC.out] at h2
    first | exact h2.drew_ | exact h2
  · have y2 := ((Y2.out.far (p := ⟨b, j, none⟩) yb (.int .u64 ((pl + n : Nat) : Int))).setNx 0).setWl true
    rw [HC.out] at y2
    exact y2
  · exact kk2.trans (by repeat (first | with_reducible exact Kept.refl _ _ | refine Kept.set_ ?_ (.inl (by unfold Our; simp)) _ | with_reducible refine Kept.drewN_ ?_ _ | with_reducible refine Kept.drew_ ?_))
end
end Go.Proofs.Ytbenpnecjmpcbaa
