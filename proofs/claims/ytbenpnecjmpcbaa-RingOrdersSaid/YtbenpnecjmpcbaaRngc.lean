/- What an act's claim does, and whether it has ended. -/
import Derived.Test.YtbenpnecjmpcbaaRngb
namespace Go.Proofs.Ytbenpnecjmpcbaa
open Go.RowKit
set_option linter.unusedVariables false
section
variable {r s n : Nat} {g : Rg}
set_option maxRecDepth 10000 in
set_option maxHeartbeats 1000000 in
theorem rclaim_hit {a : Nat} {cn : Int} {cp cl : Nat} {cu cq : Int} {cr cs : Bool} (o : Nat) (nx ag : Int) (w : World) (hx : w.cell? ⟨r, o, none⟩ = some (.int .u64 (cp : Int))) (hz : w.frozen? ⟨r, o, none⟩ = false) (ha : ActAt w a r ⟨cn, cp, cl, cu, cq, cr, cs⟩) (hra : r ≠ a) (hp : cp ≤ 1000000) :
    Calls Try.prog 38 #[.pointer (some ⟨a, 0, none⟩), .pointer (some ⟨r, o, none⟩), .int .i64 nx, .int .i64 ag] w fun e w' => (∃ v, e = .returned v) ∧ w' = ((w.drew.setCell ⟨r, o, none⟩ (.int .u64 ((cp : Int) + 1))).setCell ⟨a, 3, none⟩ (.int .u64 (cp : Int))).setCell ⟨a, 1, none⟩ (.int .i64 nx) := by
  have a2 : w.cell? ⟨a, 2, none⟩ = some (.int .u64 (cp : Int)) := ha.po
  have a3 : w.cell? ⟨a, 3, none⟩ = some (.int .u64 (cl : Int)) := ha.pl
  have a1 : w.cell? ⟨a, 1, none⟩ = some (.int .i64 cn) := ha.nx
  have z1 := ha.free 1
  have z3 := ha.free 3
  have hra' := Ne.symm hra
  have hs : IntKind.u64.wrap ((cp : Int) + 1) = (cp : Int) + 1 := IntWalk.u64_in _ (by omega)
  clear ha
  go_enter Try.func38, Try.ntmps38
  go_wp2_with fail
  go_still_tail 10, (by kernel_rfl)
  go_wp2_with (go_at_call 42; refine (acas_hit _ _ _ _ w.drew hx hz).mono ?_; rintro e w1 ⟨rfl, rfl⟩)
  refine bodyPost_ret (results_none rfl _ _ _) rfl ?_
  exact ⟨⟨_, rfl⟩, rfl⟩
set_option maxRecDepth 10000 in
set_option maxHeartbeats 1000000 in
theorem rclaim_miss {a : Nat} {cn : Int} {cp cl : Nat} {cu cq : Int} {cr cs : Bool} (o x : Nat) (nx ag : Int) (w : World) (hx : w.cell? ⟨r, o, none⟩ = some (.int .u64 (x : Int))) (hz : w.frozen? ⟨r, o, none⟩ = false) (hn : x ≠ cp) (ha : ActAt w a r ⟨cn, cp, cl, cu, cq, cr, cs⟩) (hra : r ≠ a) (hp : cp ≤ 1000000) :
    Calls Try.prog 38 #[.pointer (some ⟨a, 0, none⟩), .pointer (some ⟨r, o, none⟩), .int .i64 nx, .int .i64 ag] w fun e w' => (∃ v, e = .returned v) ∧ w' = w.drew.setCell ⟨a, 1, none⟩ (.int .i64 ag) := by
  have a2 : w.cell? ⟨a, 2, none⟩ = some (.int .u64 (cp : Int)) := ha.po
  have a1 : w.cell? ⟨a, 1, none⟩ = some (.int .i64 cn) := ha.nx
  have z1 := ha.free 1
  have hs : IntKind.u64.wrap ((cp : Int) + 1) = (cp : Int) + 1 := IntWalk.u64_in _ (by omega)
  have hne : ¬ (x : Int) = (cp : Int) := by omega
  have HNE := Lib.hid hne
  clear ha hne
  go_enter Try.func38, Try.ntmps38
  go_wp2_with fail
  go_still_tail 10, (by kernel_rfl)
  go_wp2_with (go_at_call 42; refine (acas_miss _ _ _ _ _ w.drew hx hz HNE.out).mono ?_; rintro e w1 ⟨rfl, rfl⟩)
  go_end0
  exact ⟨⟨_, rfl⟩, rfl⟩
def endE (nx : Int) : Bool := decide (nx = 0) || decide (nx = 1)
set_option maxHeartbeats 1000000 in
theorem rended {a : Nat} {cn : Int} {cp cl : Nat} {cu cq : Int} {cr cs : Bool} (w : World) (ha : ActAt w a r ⟨cn, cp, cl, cu, cq, cr, cs⟩) :
    Calls Try.prog 20 #[.pointer (some ⟨a, 0, none⟩)] w fun e w' => e = .returned (.bool (endE cn)) ∧ w = w' := by
  have a1 : w.cell? ⟨a, 1, none⟩ = some (.int .i64 cn) := ha.nx
  clear ha
  by_cases h0 : cn = 0
  · subst h0
    go_enter Try.func20, Try.ntmps20
    go_wp2
    go_ret
    exact ⟨rfl, rfl⟩
  · by_cases h1 : cn = 1
    · subst h1
      go_enter Try.func20, Try.ntmps20
      go_wp2
      go_ret
      exact ⟨rfl, rfl⟩
    · have e0 : (cn == 0) = false := beq_eq_false_iff_ne.2 h0
      have e1 : (cn == 1) = false := beq_eq_false_iff_ne.2 h1
      have hE : endE cn = false := by unfold endE; simp [h0, h1]
      rw [hE]
      clear h0 h1 hE
      go_enter Try.func20, Try.ntmps20
      go_wp2
      go_ret
      exact ⟨rfl, rfl⟩
set_option maxHeartbeats 1000000 in
theorem rok {a : Nat} {cn : Int} {cp cl : Nat} {cu cq : Int} {cr cs : Bool} (w : World) (ha : ActAt w a r ⟨cn, cp, cl, cu, cq, cr, cs⟩) :
    Calls Try.prog 21 #[.pointer (some ⟨a, 0, none⟩)] w fun e w' => e = .returned (.bool (cn == 1)) ∧ w = w' := by
  have a1 : w.cell? ⟨a, 1, none⟩ = some (.int .i64 cn) := ha.nx
  clear ha
  go_enter Try.func21, Try.ntmps21
  go_wp2
  go_ret
  exact ⟨rfl, rfl⟩
set_option maxHeartbeats 1000000 in
theorem rvalue {a : Nat} {cn : Int} {cp cl : Nat} {cu cq : Int} {cr cs : Bool} (w : World) (ha : ActAt w a r ⟨cn, cp, cl, cu, cq, cr, cs⟩) :
    Calls Try.prog 22 #[.pointer (some ⟨a, 0, none⟩)] w fun e w' => e = .returned (.int .u64 cq) ∧ w = w' := by
  have a1 : w.cell? ⟨a, 5, none⟩ = some (.int .u64 cq) := ha.pp
  clear ha
  go_enter Try.func22, Try.ntmps22
  go_wp2
  go_ret
  exact ⟨rfl, rfl⟩
set_option maxHeartbeats 1000000 in
theorem rplace {a : Nat} {cn : Int} {cp cl : Nat} {cu cq : Int} {cr cs : Bool} (w : World) (ha : ActAt w a r ⟨cn, cp, cl, cu, cq, cr, cs⟩) :
    Calls Try.prog 32 #[.pointer (some ⟨a, 0, none⟩)] w fun e w' => e = .returned (.int .u64 (cl : Int)) ∧ w = w' := by
  have a1 : w.cell? ⟨a, 3, none⟩ = some (.int .u64 (cl : Int)) := ha.pl
  clear ha
  go_enter Try.func32, Try.ntmps32
  go_wp2
  go_ret
  exact ⟨rfl, rfl⟩
set_option maxHeartbeats 1000000 in
theorem rcap (w : World) (h : RingAt w r s n g) :
    Calls Try.prog 41 #[.pointer (some ⟨r, 0, none⟩)] w fun e w' => e = .returned (.int .i64 (n : Int)) ∧ w = w' := by
  have s0 := h.s0
  clear h
  go_enter Try.func41, Try.ntmps41
  go_wp2
  go_ret
  exact ⟨rfl, rfl⟩
set_option maxHeartbeats 1000000 in
theorem rtail (w : World) (h : RingAt w r s n g) :
    Calls Try.prog 12 #[.pointer (some ⟨r, 0, none⟩)] w fun e w' => e = .returned (.int .u64 (g.T : Int)) ∧ w = w' := by
  have s0 := h.t0
  clear h
  go_enter Try.func12, Try.ntmps12
  go_wp2_with (go_at_call 25; refine (aload _ _ _ _ s0).mono ?_; rintro e w1 ⟨rfl, rfl⟩)
  go_ret
  exact ⟨rfl, rfl⟩
set_option maxHeartbeats 1000000 in
theorem rhead (w : World) (h : RingAt w r s n g) :
    Calls Try.prog 13 #[.pointer (some ⟨r, 0, none⟩)] w fun e w' => e = .returned (.int .u64 (g.H : Int)) ∧ w = w' := by
  have s0 := h.h0
  clear h
  go_enter Try.func13, Try.ntmps13
  go_wp2_with (go_at_call 25; refine (aload _ _ _ _ s0).mono ?_; rintro e w1 ⟨rfl, rfl⟩)
  go_ret
  exact ⟨rfl, rfl⟩
set_option maxHeartbeats 1000000 in
theorem ract (nx v : Int) (w : World) :
    Calls Try.prog 33 #[.pointer (some ⟨r, 0, none⟩), .int .i64 nx, .int .u64 v] w fun e w' => e = .returned (.pointer (some ⟨w.heap.size, 0, none⟩)) ∧ ActAt w' w.heap.size r ⟨nx, 0, 0, v, 0, false, false⟩ ∧ Below w.heap.size w w' := by
  go_enter Try.func33, Try.ntmps33
  go_wp2
  go_ret
  exact ⟨rfl, Blk.made w _ _, (Below.refl _ _).alloc (Nat.le_refl _) _⟩
set_option maxHeartbeats 1000000 in
theorem rpush (v : Int) (w : World) :
    Calls Try.prog 27 #[.pointer (some ⟨r, 0, none⟩), .int .u64 v] w fun e w' => e = .returned (.pointer (some ⟨w.heap.size, 0, none⟩)) ∧ ActAt w' w.heap.size r ⟨2, 0, 0, v, 0, false, false⟩ ∧ Below w.heap.size w w' := by
  go_enter Try.func27, Try.ntmps27
  go_wp2_with (go_at_call 33; refine (ract _ _ _).mono ?_; rintro e w1 ⟨rfl, h1, h2⟩)
  go_ret
  exact ⟨rfl, h1, h2⟩
set_option maxHeartbeats 1000000 in
theorem rpop (w : World) :
    Calls Try.prog 23 #[.pointer (some ⟨r, 0, none⟩)] w fun e w' => e = .returned (.pointer (some ⟨w.heap.size, 0, none⟩)) ∧ ActAt w' w.heap.size r ⟨7, 0, 0, 0, 0, false, false⟩ ∧ Below w.heap.size w w' := by
  go_enter Try.func23, Try.ntmps23
  go_wp2_with (go_at_call 33; refine (ract _ _ _).mono ?_; rintro e w1 ⟨rfl, h1, h2⟩)
  go_ret
  exact ⟨rfl, h1, h2⟩
end
end Go.Proofs.Ytbenpnecjmpcbaa
