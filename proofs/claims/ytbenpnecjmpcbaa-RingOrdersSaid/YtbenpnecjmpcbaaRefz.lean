/- A look at a place: the document's step. -/
import Derived.Test.YtbenpnecjmpcbaaRefy
import Derived.Deep.DeepCutAuto
import Derived.StillTailTactics
namespace Go.Proofs.Ytbenpnecjmpcbaa
open Go.RowKit
set_option linter.unusedVariables false
section
variable {q b d n cb cd : Nat} {g : Rg}
set_option maxRecDepth 20000 in
set_option maxHeartbeats 2000000 in
theorem y0_2l {y : Nat} {po pl : Nat} {v : Int} {wl : Bool} (w : World) (h : XAt w q b d n cb cd g) (hy : YAt w y 0 2 po pl v wl) {j : Nat} (hj : po % n = j) (hp : po ≤ 900000) (hS : g.S j ≤ 1000000) (hs : g.S j < po) :
    Calls Try.prog 30 #[.pointer (some ⟨q, 0, none⟩), .pointer (some ⟨y, 0, none⟩)] w fun e w' => (∃ u, e = .returned u) ∧ XAt w' q b d n cb cd g ∧ YAt w' y 0 0 po pl v wl ∧ Kept (Our y q b d) w w' := by
  have hap := hy.apart h
  have yq : y ≠ q := hap.1
  have yb : y ≠ b := hap.2.1
  have yd : y ≠ d := hap.2.2
  have qy := Ne.symm yq
  have by_ := Ne.symm yb
  have dy := Ne.symm yd
  have qb : q ≠ b := h.qs.1
  have qd : q ≠ d := h.qs.2
  have bq := Ne.symm qb
  have dq := Ne.symm qd
  have bd : b ≠ d := h.bd
  have db := Ne.symm bd
  have n0 := h.n0
  have n1 := h.n1
  have s0 := h.s0
  have k0 : w.cell? ⟨y, 0, none⟩ = some (.int .i64 0) := hy.k0
  have k1 : w.cell? ⟨y, 1, none⟩ = some (.int .i64 2) := hy.nx1
  have z1 := hy.free 1
  have hwn : IntKind.u64.wrap (n : Int) = (n : Int) := IntWalk.u64_in _ (by omega)
  have k2 : w.cell? ⟨y, 2, none⟩ = some (.int .u64 (po : Int)) := hy.po2
  have hjn : j < n := by rw [← hj]; exact Nat.mod_lt _ n0
  have sq := h.sq hjn
  have m1 : (po : Int).tmod (n : Int) = (j : Int) := by rw [Int.tmod_eq_emod_of_nonneg (by omega), ← Int.natCast_emod, hj]
  have m2 : (po : Int) % (n : Int) = (j : Int) := by rw [← Int.natCast_emod, hj]
  have hnz : ¬ (n : Int) = 0 := by omega
  have j0 : (0 : Int) ≤ (j : Int) := by omega
  have j1 : (j : Int) < (n : Int) := by omega
  obtain ⟨D, hD⟩ : ∃ D : Int, D = IntKind.u64.wrap ((g.S j : Int) - ((po : Int))) := ⟨_, rfl⟩
  have hDv := hD
  rw [show ((g.S j : Int) - ((po : Int))) = (g.S j : Int) - ((po : Nat) : Int) from by omega, diff_u64 _ _ (by omega) (by omega)] at hDv
  rw [if_pos hs] at hDv
  have c0 : (D == 0) = false := by rw [beq_eq_false_iff_ne]; omega
  have c1 : (9223372036854775808 : Int) ≤ D := by omega
  have hD' := hD.symm
  clear hD hDv hs hj
  have X := Lib.hid h
  have Y := Lib.hid hy
  clear hap h hy
  go_enter Try.func30, Try.ntmps30
  go_upto_region 15 with fail
  go_quiet (fail)
  go_wp2
  go_end0
  refine ⟨⟨_, rfl⟩, ?_, ?_, ?_⟩
  · exact ((X.out.far (p := ⟨y, 1, none⟩) qy by_ dy (.int .i64 1)).far (p := ⟨y, 1, none⟩) qy by_ dy (.int .i64 0)).drewN_ _
  · exact (Y.out.setNx 1).setNx 0
  · repeat (first | with_reducible exact Kept.refl _ _ | refine Kept.set_ ?_ (.inl (by unfold Our; simp)) _ | with_reducible refine Kept.drewN_ ?_ _ | with_reducible refine Kept.drew_ ?_)
set_option maxRecDepth 20000 in
set_option maxHeartbeats 2000000 in
theorem y0_2e {y : Nat} {po pl : Nat} {v : Int} {wl : Bool} (w : World) (h : XAt w q b d n cb cd g) (hy : YAt w y 0 2 po pl v wl) {j : Nat} (hj : po % n = j) (hp : po ≤ 900000) (hS : g.S j ≤ 1000000) (hs : g.S j = po) :
    Calls Try.prog 30 #[.pointer (some ⟨q, 0, none⟩), .pointer (some ⟨y, 0, none⟩)] w fun e w' => (∃ u, e = .returned u) ∧ XAt w' q b d n cb cd g ∧ YAt w' y 0 3 po pl v wl ∧ Kept (Our y q b d) w w' := by
  have hap := hy.apart h
  have yq : y ≠ q := hap.1
  have yb : y ≠ b := hap.2.1
  have yd : y ≠ d := hap.2.2
  have qy := Ne.symm yq
  have by_ := Ne.symm yb
  have dy := Ne.symm yd
  have qb : q ≠ b := h.qs.1
  have qd : q ≠ d := h.qs.2
  have bq := Ne.symm qb
  have dq := Ne.symm qd
  have bd : b ≠ d := h.bd
  have db := Ne.symm bd
  have n0 := h.n0
  have n1 := h.n1
  have s0 := h.s0
  have k0 : w.cell? ⟨y, 0, none⟩ = some (.int .i64 0) := hy.k0
  have k1 : w.cell? ⟨y, 1, none⟩ = some (.int .i64 2) := hy.nx1
  have z1 := hy.free 1
  have hwn : IntKind.u64.wrap (n : Int) = (n : Int) := IntWalk.u64_in _ (by omega)
  have k2 : w.cell? ⟨y, 2, none⟩ = some (.int .u64 (po : Int)) := hy.po2
  have hjn : j < n := by rw [← hj]; exact Nat.mod_lt _ n0
  have sq := h.sq hjn
  have m1 : (po : Int).tmod (n : Int) = (j : Int) := by rw [Int.tmod_eq_emod_of_nonneg (by omega), ← Int.natCast_emod, hj]
  have m2 : (po : Int) % (n : Int) = (j : Int) := by rw [← Int.natCast_emod, hj]
  have hnz : ¬ (n : Int) = 0 := by omega
  have j0 : (0 : Int) ≤ (j : Int) := by omega
  have j1 : (j : Int) < (n : Int) := by omega
  obtain ⟨D, hD⟩ : ∃ D : Int, D = IntKind.u64.wrap ((g.S j : Int) - ((po : Int))) := ⟨_, rfl⟩
  have hDv := hD
  rw [show ((g.S j : Int) - ((po : Int))) = (g.S j : Int) - ((po : Nat) : Int) from by omega, diff_u64 _ _ (by omega) (by omega)] at hDv
  rw [if_neg (by omega)] at hDv
  have c0 : (D == 0) = true := by rw [beq_iff_eq]; omega
  have hD' := hD.symm
  clear hD hDv hs hj
  have X := Lib.hid h
  have Y := Lib.hid hy
  clear hap h hy
  go_enter Try.func30, Try.ntmps30
  go_upto_region 15 with fail
  go_quiet (fail)
  go_wp2
  go_end0
  refine ⟨⟨_, rfl⟩, ?_, ?_, ?_⟩
  · exact ((X.out.far (p := ⟨y, 1, none⟩) qy by_ dy (.int .i64 1)).far (p := ⟨y, 1, none⟩) qy by_ dy (.int .i64 3)).drewN_ _
  · exact (Y.out.setNx 1).setNx 3
  · repeat (first | with_reducible exact Kept.refl _ _ | refine Kept.set_ ?_ (.inl (by unfold Our; simp)) _ | with_reducible refine Kept.drewN_ ?_ _ | with_reducible refine Kept.drew_ ?_)
set_option maxRecDepth 20000 in
set_option maxHeartbeats 2000000 in
theorem y0_2g {y : Nat} {po pl : Nat} {v : Int} {wl : Bool} (w : World) (h : XAt w q b d n cb cd g) (hy : YAt w y 0 2 po pl v wl) {j : Nat} (hj : po % n = j) (hp : po ≤ 900000) (hS : g.S j ≤ 1000000) (hs : po < g.S j) :
    Calls Try.prog 30 #[.pointer (some ⟨q, 0, none⟩), .pointer (some ⟨y, 0, none⟩)] w fun e w' => (∃ u, e = .returned u) ∧ XAt w' q b d n cb cd g ∧ YAt w' y 0 1 po pl v wl ∧ Kept (Our y q b d) w w' := by
  have hap := hy.apart h
  have yq : y ≠ q := hap.1
  have yb : y ≠ b := hap.2.1
  have yd : y ≠ d := hap.2.2
  have qy := Ne.symm yq
  have by_ := Ne.symm yb
  have dy := Ne.symm yd
  have qb : q ≠ b := h.qs.1
  have qd : q ≠ d := h.qs.2
  have bq := Ne.symm qb
  have dq := Ne.symm qd
  have bd : b ≠ d := h.bd
  have db := Ne.symm bd
  have n0 := h.n0
  have n1 := h.n1
  have s0 := h.s0
  have k0 : w.cell? ⟨y, 0, none⟩ = some (.int .i64 0) := hy.k0
  have k1 : w.cell? ⟨y, 1, none⟩ = some (.int .i64 2) := hy.nx1
  have z1 := hy.free 1
  have hwn : IntKind.u64.wrap (n : Int) = (n : Int) := IntWalk.u64_in _ (by omega)
  have k2 : w.cell? ⟨y, 2, none⟩ = some (.int .u64 (po : Int)) := hy.po2
  have hjn : j < n := by rw [← hj]; exact Nat.mod_lt _ n0
  have sq := h.sq hjn
  have m1 : (po : Int).tmod (n : Int) = (j : Int) := by rw [Int.tmod_eq_emod_of_nonneg (by omega), ← Int.natCast_emod, hj]
  have m2 : (po : Int) % (n : Int) = (j : Int) := by rw [← Int.natCast_emod, hj]
  have hnz : ¬ (n : Int) = 0 := by omega
  have j0 : (0 : Int) ≤ (j : Int) := by omega
  have j1 : (j : Int) < (n : Int) := by omega
  obtain ⟨D, hD⟩ : ∃ D : Int, D = IntKind.u64.wrap ((g.S j : Int) - ((po : Int))) := ⟨_, rfl⟩
  have hDv := hD
  rw [show ((g.S j : Int) - ((po : Int))) = (g.S j : Int) - ((po : Nat) : Int) from by omega, diff_u64 _ _ (by omega) (by omega)] at hDv
  rw [if_neg (by omega)] at hDv
  have c0 : (D == 0) = false := by rw [beq_eq_false_iff_ne]; omega
  have c1 : D < (9223372036854775808 : Int) := by omega
  have hD' := hD.symm
  clear hD hDv hs hj
  have X := Lib.hid h
  have Y := Lib.hid hy
  clear hap h hy
  go_enter Try.func30, Try.ntmps30
  go_upto_region 15 with fail
  go_quiet (fail)
  go_wp2
  go_end0
  refine ⟨⟨_, rfl⟩, ?_, ?_, ?_⟩
  · exact (X.out.far (p := ⟨y, 1, none⟩) qy by_ dy (.int .i64 1)).drewN_ _
  · exact Y.out.setNx 1
  · repeat (first | with_reducible exact Kept.refl _ _ | refine Kept.set_ ?_ (.inl (by unfold Our; simp)) _ | with_reducible refine Kept.drewN_ ?_ _ | with_reducible refine Kept.drew_ ?_)
set_option maxRecDepth 20000 in
set_option maxHeartbeats 2000000 in
theorem y2_2l {y : Nat} {po pl : Nat} {v : Int} {wl : Bool} (w : World) (h : XAt w q b d n cb cd g) (hy : YAt w y 2 2 po pl v wl) {j : Nat} (hj : po % n = j) (hp : po ≤ 900000) (hS : g.S j ≤ 1000000) (hs : g.S j < (po + 1)) :
    Calls Try.prog 30 #[.pointer (some ⟨q, 0, none⟩), .pointer (some ⟨y, 0, none⟩)] w fun e w' => (∃ u, e = .returned u) ∧ XAt w' q b d n cb cd g ∧ YAt w' y 2 0 po pl v wl ∧ Kept (Our y q b d) w w' := by
  have hap := hy.apart h
  have yq : y ≠ q := hap.1
  have yb : y ≠ b := hap.2.1
  have yd : y ≠ d := hap.2.2
  have qy := Ne.symm yq
  have by_ := Ne.symm yb
  have dy := Ne.symm yd
  have qb : q ≠ b := h.qs.1
  have qd : q ≠ d := h.qs.2
  have bq := Ne.symm qb
  have dq := Ne.symm qd
  have bd : b ≠ d := h.bd
  have db := Ne.symm bd
  have n0 := h.n0
  have n1 := h.n1
  have s0 := h.s0
  have k0 : w.cell? ⟨y, 0, none⟩ = some (.int .i64 2) := hy.k0
  have k1 : w.cell? ⟨y, 1, none⟩ = some (.int .i64 2) := hy.nx1
  have z1 := hy.free 1
  have hwn : IntKind.u64.wrap (n : Int) = (n : Int) := IntWalk.u64_in _ (by omega)
  have k2 : w.cell? ⟨y, 2, none⟩ = some (.int .u64 (po : Int)) := hy.po2
  have hjn : j < n := by rw [← hj]; exact Nat.mod_lt _ n0
  have sq := h.sq hjn
  have m1 : (po : Int).tmod (n : Int) = (j : Int) := by rw [Int.tmod_eq_emod_of_nonneg (by omega), ← Int.natCast_emod, hj]
  have m2 : (po : Int) % (n : Int) = (j : Int) := by rw [← Int.natCast_emod, hj]
  have hnz : ¬ (n : Int) = 0 := by omega
  have j0 : (0 : Int) ≤ (j : Int) := by omega
  have j1 : (j : Int) < (n : Int) := by omega
  obtain ⟨D, hD⟩ : ∃ D : Int, D = IntKind.u64.wrap ((g.S j : Int) - ((po : Int) + 1)) := ⟨_, rfl⟩
  have hDv := hD
  rw [show ((g.S j : Int) - ((po : Int) + 1)) = (g.S j : Int) - (((po + 1) : Nat) : Int) from by omega, diff_u64 _ _ (by omega) (by omega)] at hDv
  rw [if_pos hs] at hDv
  have c0 : (D == 0) = false := by rw [beq_eq_false_iff_ne]; omega
  have c1 : (9223372036854775808 : Int) ≤ D := by omega
  have hD' := hD.symm
  clear hD hDv hs hj
  have hs1 : IntKind.u64.wrap ((po : Int) + 1) = (po : Int) + 1 := IntWalk.u64_in _ (by omega)
  have X := Lib.hid h
  have Y := Lib.hid hy
  clear hap h hy
  go_enter Try.func30, Try.ntmps30
  go_upto_region 15 with fail
  go_quiet (fail)
  go_wp2
  go_end0
  refine ⟨⟨_, rfl⟩, ?_, ?_, ?_⟩
  · exact ((X.out.far (p := ⟨y, 1, none⟩) qy by_ dy (.int .i64 1)).far (p := ⟨y, 1, none⟩) qy by_ dy (.int .i64 0)).drewN_ _
  · exact (Y.out.setNx 1).setNx 0
  · repeat (first | with_reducible exact Kept.refl _ _ | refine Kept.set_ ?_ (.inl (by unfold Our; simp)) _ | with_reducible refine Kept.drewN_ ?_ _ | with_reducible refine Kept.drew_ ?_)
set_option maxRecDepth 20000 in
set_option maxHeartbeats 2000000 in
theorem y2_2e {y : Nat} {po pl : Nat} {v : Int} {wl : Bool} (w : World) (h : XAt w q b d n cb cd g) (hy : YAt w y 2 2 po pl v wl) {j : Nat} (hj : po % n = j) (hp : po ≤ 900000) (hS : g.S j ≤ 1000000) (hs : g.S j = (po + 1)) :
    Calls Try.prog 30 #[.pointer (some ⟨q, 0, none⟩), .pointer (some ⟨y, 0, none⟩)] w fun e w' => (∃ u, e = .returned u) ∧ XAt w' q b d n cb cd g ∧ YAt w' y 2 3 po pl v wl ∧ Kept (Our y q b d) w w' := by
  have hap := hy.apart h
  have yq : y ≠ q := hap.1
  have yb : y ≠ b := hap.2.1
  have yd : y ≠ d := hap.2.2
  have qy := Ne.symm yq
  have by_ := Ne.symm yb
  have dy := Ne.symm yd
  have qb : q ≠ b := h.qs.1
  have qd : q ≠ d := h.qs.2
  have bq := Ne.symm qb
  have dq := Ne.symm qd
  have bd : b ≠ d := h.bd
  have db := Ne.symm bd
  have n0 := h.n0
  have n1 := h.n1
  have s0 := h.s0
  have k0 : w.cell? ⟨y, 0, none⟩ = some (.int .i64 2) := hy.k0
  have k1 : w.cell? ⟨y, 1, none⟩ = some (.int .i64 2) := hy.nx1
  have z1 := hy.free 1
  have hwn : IntKind.u64.wrap (n : Int) = (n : Int) := IntWalk.u64_in _ (by omega)
  have k2 : w.cell? ⟨y, 2, none⟩ = some (.int .u64 (po : Int)) := hy.po2
  have hjn : j < n := by rw [← hj]; exact Nat.mod_lt _ n0
  have sq := h.sq hjn
  have m1 : (po : Int).tmod (n : Int) = (j : Int) := by rw [Int.tmod_eq_emod_of_nonneg (by omega), ← Int.natCast_emod, hj]
  have m2 : (po : Int) % (n : Int) = (j : Int) := by rw [← Int.natCast_emod, hj]
  have hnz : ¬ (n : Int) = 0 := by omega
  have j0 : (0 : Int) ≤ (j : Int) := by omega
  have j1 : (j : Int) < (n : Int) := by omega
  obtain ⟨D, hD⟩ : ∃ D : Int, D = IntKind.u64.wrap ((g.S j : Int) - ((po : Int) + 1)) := ⟨_, rfl⟩
  have hDv := hD
  rw [show ((g.S j : Int) - ((po : Int) + 1)) = (g.S j : Int) - (((po + 1) : Nat) : Int) from by omega, diff_u64 _ _ (by omega) (by omega)] at hDv
  rw [if_neg (by omega)] at hDv
  have c0 : (D == 0) = true := by rw [beq_iff_eq]; omega
  have hD' := hD.symm
  clear hD hDv hs hj
  have hs1 : IntKind.u64.wrap ((po : Int) + 1) = (po : Int) + 1 := IntWalk.u64_in _ (by omega)
  have X := Lib.hid h
  have Y := Lib.hid hy
  clear hap h hy
  go_enter Try.func30, Try.ntmps30
  go_upto_region 15 with fail
  go_quiet (fail)
  go_wp2
  go_end0
  refine ⟨⟨_, rfl⟩, ?_, ?_, ?_⟩
  · exact ((X.out.far (p := ⟨y, 1, none⟩) qy by_ dy (.int .i64 1)).far (p := ⟨y, 1, none⟩) qy by_ dy (.int .i64 3)).drewN_ _
  · exact (Y.out.setNx 1).setNx 3
  · repeat (first | with_reducible exact Kept.refl _ _ | refine Kept.set_ ?_ (.inl (by unfold Our; simp)) _ | with_reducible refine Kept.drewN_ ?_ _ | with_reducible refine Kept.drew_ ?_)
set_option maxRecDepth 20000 in
set_option maxHeartbeats 2000000 in
theorem y2_2g {y : Nat} {po pl : Nat} {v : Int} {wl : Bool} (w : World) (h : XAt w q b d n cb cd g) (hy : YAt w y 2 2 po pl v wl) {j : Nat} (hj : po % n = j) (hp : po ≤ 900000) (hS : g.S j ≤ 1000000) (hs : (po + 1) < g.S j) :
    Calls Try.prog 30 #[.pointer (some ⟨q, 0, none⟩), .pointer (some ⟨y, 0, none⟩)] w fun e w' => (∃ u, e = .returned u) ∧ XAt w' q b d n cb cd g ∧ YAt w' y 2 1 po pl v wl ∧ Kept (Our y q b d) w w' := by
  have hap := hy.apart h
  have yq : y ≠ q := hap.1
  have yb : y ≠ b := hap.2.1
  have yd : y ≠ d := hap.2.2
  have qy := Ne.symm yq
  have by_ := Ne.symm yb
  have dy := Ne.symm yd
  have qb : q ≠ b := h.qs.1
  have qd : q ≠ d := h.qs.2
  have bq := Ne.symm qb
  have dq := Ne.symm qd
  have bd : b ≠ d := h.bd
  have db := Ne.symm bd
  have n0 := h.n0
  have n1 := h.n1
  have s0 := h.s0
  have k0 : w.cell? ⟨y, 0, none⟩ = some (.int .i64 2) := hy.k0
  have k1 : w.cell? ⟨y, 1, none⟩ = some (.int .i64 2) := hy.nx1
  have z1 := hy.free 1
  have hwn : IntKind.u64.wrap (n : Int) = (n : Int) := IntWalk.u64_in _ (by omega)
  have k2 : w.cell? ⟨y, 2, none⟩ = some (.int .u64 (po : Int)) := hy.po2
  have hjn : j < n := by rw [← hj]; exact Nat.mod_lt _ n0
  have sq := h.sq hjn
  have m1 : (po : Int).tmod (n : Int) = (j : Int) := by rw [Int.tmod_eq_emod_of_nonneg (by omega), ← Int.natCast_emod, hj]
  have m2 : (po : Int) % (n : Int) = (j : Int) := by rw [← Int.natCast_emod, hj]
  have hnz : ¬ (n : Int) = 0 := by omega
  have j0 : (0 : Int) ≤ (j : Int) := by omega
  have j1 : (j : Int) < (n : Int) := by omega
  obtain ⟨D, hD⟩ : ∃ D : Int, D = IntKind.u64.wrap ((g.S j : Int) - ((po : Int) + 1)) := ⟨_, rfl⟩
  have hDv := hD
  rw [show ((g.S j : Int) - ((po : Int) + 1)) = (g.S j : Int) - (((po + 1) : Nat) : Int) from by omega, diff_u64 _ _ (by omega) (by omega)] at hDv
  rw [if_neg (by omega)] at hDv
  have c0 : (D == 0) = false := by rw [beq_eq_false_iff_ne]; omega
  have c1 : D < (9223372036854775808 : Int) := by omega
  have hD' := hD.symm
  clear hD hDv hs hj
  have hs1 : IntKind.u64.wrap ((po : Int) + 1) = (po : Int) + 1 := IntWalk.u64_in _ (by omega)
  have X := Lib.hid h
  have Y := Lib.hid hy
  clear hap h hy
  go_enter Try.func30, Try.ntmps30
  go_upto_region 15 with fail
  go_quiet (fail)
  go_wp2
  go_end0
  refine ⟨⟨_, rfl⟩, ?_, ?_, ?_⟩
  · exact (X.out.far (p := ⟨y, 1, none⟩) qy by_ dy (.int .i64 1)).drewN_ _
  · exact Y.out.setNx 1
  · repeat (first | with_reducible exact Kept.refl _ _ | refine Kept.set_ ?_ (.inl (by unfold Our; simp)) _ | with_reducible refine Kept.drewN_ ?_ _ | with_reducible refine Kept.drew_ ?_)
end
end Go.Proofs.Ytbenpnecjmpcbaa
