/- What an act's helpers do to a ring. -/
import Derived.Test.YtbenpnecjmpcbaaRng
import Derived.Deep.DeepCutAuto
import Derived.StillTailTactics
import Derived.Deep.RegionHeld3
import Derived.Deep.DrawnRows
namespace Go.Proofs.Ytbenpnecjmpcbaa
open Go.RowKit
set_option linter.unusedVariables false
theorem quiet_c {P : Program} {f : FuncId} {args : Array Value} {w : World} {a : Nat} {v : Value} (h : Calls P f args (w.drewN a) fun e w' => e = .returned v ∧ ∃ m, w' = (w.drewN a).drewN m) :
    Calls P f args (w.drewN a) fun e w'' => e = .returned v ∧ ∃ m, w'' = w.drewN m := h.mono fun _ _ ⟨h, m, hm⟩ => ⟨h, a + m, by rw [hm]; simp⟩
theorem quiet_s {P : Program} {f : FuncId} {args : Array Value} {w : World} {a : Nat} {v : Value} (h : Calls P f args (w.drewN a) fun e w' => e = .returned v ∧ w.drewN a = w') :
    Calls P f args (w.drewN a) fun e w'' => e = .returned v ∧ ∃ m, w'' = w.drewN m := h.mono fun _ _ ⟨h, hm⟩ => ⟨h, a, hm.symm⟩
theorem diff_wrap (d : Int) (h0 : -1000000 ≤ d) (h1 : d ≤ 1000000) : IntKind.i64.wrap (IntKind.u64.wrap d) = d := by
  have hu : IntKind.u64.wrap d = d % 18446744073709551616 := by simp [IntKind.wrap, IntKind.bits, IntKind.signed]
  rw [hu, IntKind.wrap_i64]
  omega
section
variable {r s n : Nat} {g : Rg}
set_option maxHeartbeats 1000000 in
theorem rslot (p : Nat) (w : World) (h : RingAt w r s n g) (hp : p ≤ 1000000) {j : Nat} (hj : p % n = j) :
    Calls Try.prog 40 #[.pointer (some ⟨r, 0, none⟩), .int .u64 (p : Int)] w fun e w' => e = .returned (.pointer (some ⟨s, j * 2, none⟩)) ∧ ∃ k, w' = w.drewN k := by
  have s0 := h.s0
  have n0 := h.n0
  have n1 := h.n1
  have hjn : j < n := by rw [← hj]; exact Nat.mod_lt _ n0
  have h1 : (p : Int).tmod (n : Int) = (j : Int) := by rw [Int.tmod_eq_emod_of_nonneg (by omega), ← Int.natCast_emod, hj]
  have h2 : (p : Int) % (n : Int) = (j : Int) := by rw [← Int.natCast_emod, hj]
  have hnz : ¬ (n : Int) = 0 := by omega
  have hw : IntKind.u64.wrap (n : Int) = (n : Int) := IntWalk.u64_in _ (by omega)
  have j0 : (0 : Int) ≤ (j : Int) := by omega
  have j1 : (j : Int) < (n : Int) := by omega
  clear h hj
  go_enter Try.func40, Try.ntmps40
  go_wp2
  go_quiet (fail)
  go_wp2
  go_ret
  exact ⟨rfl, _, rfl⟩
/-- What a look at a slot's number says. -/
def lookE (S ready : Nat) (nx ag : Int) : Int := if S < ready then 0 else if ready < S then ag else nx
set_option maxHeartbeats 1000000 in
theorem rcheck {a : Nat} {c : Ac} (ready : Nat) (nx ag : Int) (w : World) (h : RingAt w r s n g) (ha : ActAt w a r c) {j : Nat} (hj : c.po % n = j) (hp : c.po ≤ 1000000) (hr : ready ≤ 1000000) (hS : g.S j ≤ 1000000) :
    Calls Try.prog 37 #[.pointer (some ⟨a, 0, none⟩), .int .u64 (ready : Int), .int .i64 nx, .int .i64 ag] w fun e w' => (∃ v, e = .returned v) ∧ ∃ k, w' = (w.drewN k).setCell ⟨a, 1, none⟩ (.int .i64 (lookE (g.S j) ready nx ag)) := by
  have n0 := h.n0
  have hjn : j < n := by rw [← hj]; exact Nat.mod_lt _ n0
  have a0 := ha.ring
  have a1 := ha.nx
  have a2 := ha.po
  have z1 := ha.free 1
  have s1 := h.sq hjn
  have H0 := Lib.hid h
  have HJ := Lib.hid hj
  have hw : IntKind.i64.wrap (IntKind.u64.wrap ((g.S j : Int) - (ready : Int))) = (g.S j : Int) - (ready : Int) := diff_wrap _ (by omega) (by omega)
  clear h ha hj
  rcases Nat.lt_trichotomy (g.S j) ready with hc | hc | hc
  · have hE : lookE (g.S j) ready nx ag = 0 := by unfold lookE; rw [if_pos hc]
    have hlt : (g.S j : Int) - (ready : Int) < 0 := by omega
    rw [hE]
    clear hE hc
    go_enter Try.func37, Try.ntmps37
    go_wp2_with fail
    go_quiet ((first | (go_at_call 40; exact quiet_c (rslot _ _ (H0.out.drewN_ _) hp HJ.out)) | (go_at_call 25; exact quiet_s (aload _ _ _ _ s1))))
    go_wp2
    go_end0
    exact ⟨⟨_, rfl⟩, _, rfl⟩
  · have hE : lookE (g.S j) ready nx ag = nx := by unfold lookE; rw [if_neg (by omega), if_neg (by omega)]
    have h0 : (g.S j : Int) - (ready : Int) = 0 := by omega
    rw [hE]
    rw [h0] at hw
    clear hE hc
    go_enter Try.func37, Try.ntmps37
    go_wp2_with fail
    go_quiet ((first | (go_at_call 40; exact quiet_c (rslot _ _ (H0.out.drewN_ _) hp HJ.out)) | (go_at_call 25; exact quiet_s (aload _ _ _ _ s1))))
    go_wp2
    go_end0
    exact ⟨⟨_, rfl⟩, _, rfl⟩
  · have hE : lookE (g.S j) ready nx ag = ag := by unfold lookE; rw [if_neg (by omega), if_pos hc]
    have hlt : 0 < (g.S j : Int) - (ready : Int) := by omega
    rw [hE]
    clear hE hc
    go_enter Try.func37, Try.ntmps37
    go_wp2_with fail
    go_quiet ((first | (go_at_call 40; exact quiet_c (rslot _ _ (H0.out.drewN_ _) hp HJ.out)) | (go_at_call 25; exact quiet_s (aload _ _ _ _ s1))))
    go_wp2
    go_end0
    exact ⟨⟨_, rfl⟩, _, rfl⟩
set_option maxHeartbeats 1000000 in
/-- An end of the ring is read. -/
theorem rread {a : Nat} {c : Ac} (o x : Nat) (nx : Int) (w : World) (hx : w.cell? ⟨r, o, none⟩ = some (.int .u64 (x : Int))) (ha : ActAt w a r c) (hra : r ≠ a) :
    Calls Try.prog 36 #[.pointer (some ⟨a, 0, none⟩), .pointer (some ⟨r, o, none⟩), .int .i64 nx] w fun e w' => (∃ v, e = .returned v) ∧ ActAt w' a r { c with nx := nx, po := x, rd := true, st := c.rd && decide (x = c.po) } ∧ Kept (fun k => k = a) w w' := by
  obtain ⟨cn, cp, cl, cu, cq, cr, cs⟩ := c
  have a2 : w.cell? ⟨a, 2, none⟩ = some (.int .u64 (cp : Int)) := ha.po
  have a6 : w.cell? ⟨a, 6, none⟩ = some (.bool cr) := ha.rd
  have a7 : w.cell? ⟨a, 7, none⟩ = some (.bool cs) := ha.st
  have a1 : w.cell? ⟨a, 1, none⟩ = some (.int .i64 cn) := ha.nx
  have z1 := ha.free 1
  have z2 := ha.free 2
  have z6 := ha.free 6
  have z7 := ha.free 7
  have HA := Lib.hid ha
  clear ha
  cases cr with
  | false =>
    go_enter Try.func36, Try.ntmps36
    go_wp2_with (go_at_call 25; refine (aload _ _ _ _ hx).mono ?_; rintro e w1 ⟨rfl, rfl⟩)
    go_end0
    refine ⟨⟨_, rfl⟩, (((HA.out.setSt false).setRd true).setPo x).setNx nx, ?_⟩
    repeat (first | with_reducible exact Kept.refl _ _ | refine Kept.set_ ?_ (by simp) _ | with_reducible refine Kept.drewN_ ?_ _ | with_reducible refine Kept.drew_ ?_)
  | true =>
    by_cases he : x = cp
    · have hq : ((x : Int) == (cp : Int)) = true := by rw [he]; simp
      have hd : (true && decide (x = cp)) = true := by simp [he]
      rw [hd]
      clear he hd
      go_enter Try.func36, Try.ntmps36
      go_wp2_with (go_at_call 25; refine (aload _ _ _ _ hx).mono ?_; rintro e w1 ⟨rfl, rfl⟩)
      go_end0
      refine ⟨⟨_, rfl⟩, (((HA.out.setSt true).setRd true).setPo x).setNx nx, ?_⟩
      repeat (first | with_reducible exact Kept.refl _ _ | refine Kept.set_ ?_ (by simp) _ | with_reducible refine Kept.drewN_ ?_ _ | with_reducible refine Kept.drew_ ?_)
    · have hq : ((x : Int) == (cp : Int)) = false := by rw [beq_eq_false_iff_ne]; omega
      have hd : (true && decide (x = cp)) = false := by simp [he]
      rw [hd]
      clear he hd
      go_enter Try.func36, Try.ntmps36
      go_wp2_with (go_at_call 25; refine (aload _ _ _ _ hx).mono ?_; rintro e w1 ⟨rfl, rfl⟩)
      go_end0
      refine ⟨⟨_, rfl⟩, (((HA.out.setSt false).setRd true).setPo x).setNx nx, ?_⟩
      repeat (first | with_reducible exact Kept.refl _ _ | refine Kept.set_ ?_ (by simp) _ | with_reducible refine Kept.drewN_ ?_ _ | with_reducible refine Kept.drew_ ?_)
end
end Go.Proofs.Ytbenpnecjmpcbaa
