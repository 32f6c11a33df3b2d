/- TryPush, TryPop on a ring at rest; a ring is made. -/
import Derived.Test.YtbenpnecjmpcbaaRngh
import Derived.Laws.MakeOwn
import Derived.Deep.DeepCutAuto
namespace Go.Proofs.Ytbenpnecjmpcbaa
open Go.RowKit
set_option linter.unusedVariables false
section
variable {r s n : Nat} {g : Rg} {l : List Int}
/-- What TryPush answers, and leaves. -/
def Pushed (r s n : Nat) (g : Rg) (l : List Int) (v : Int) (w : World) (e : Ending) (w' : World) : Prop :=
  (l.length < n → e = .returned (.bool true) ∧ ∃ g', RingAt w' r s n g' ∧ Rest n g' (l ++ [v]) ∧ g'.T = g.T + 1 ∧ g'.H = g.H) ∧
  (l.length = n → e = .returned (.bool false) ∧ RingAt w' r s n g) ∧ Kept (fun k => k = r ∨ k = s) w w'
set_option maxHeartbeats 1000000 in
theorem rtrypush (v : Int) (w : World) (h : RingAt w r s n g) (hq : Rest n g l) (hn : 2 ≤ n) (hT : g.T ≤ 900000) :
    Calls Try.prog 15 #[.pointer (some ⟨r, 0, none⟩), .int .u64 v] w (Pushed r s n g l v w) := by
  have hl := hq.len
  have ⟨l1, l2⟩ := h.lts
  have H := Lib.hid h
  have R := Lib.hid hq
  clear h hq
  by_cases hlt : l.length < n
  · obtain ⟨j, hj⟩ : ∃ j, g.T % n = j := ⟨_, rfl⟩
    have HJ := Lib.hid hj
    clear hj
    go_enter Try.func15, Try.ntmps15
    go_wp2_with fail
    refine (rpush _ _).mono ?_
    rintro e w1 ⟨rfl, h1, hb1⟩
    have A1 := Lib.hid h1
    have B1 := Lib.hid hb1
    clear h1 hb1
    go_wp2_with fail
    refine (rpush_yes v _ (H.out.below B1.out l1 l2) A1.out R.out hlt hT HJ.out).mono ?_
    rintro e w2 ⟨⟨u, rfl⟩, h2, a2, k2⟩
    have A2 := Lib.hid a2
    have H2 := Lib.hid h2
    have K2 := Lib.hid k2
    clear h2 a2 k2
    go_wp2_with fail
    refine (rok _ A2.out).mono ?_
    rintro e w3 ⟨rfl, rfl⟩
    go_wp2
    go_ret
    exact ⟨fun _ => ⟨rfl, _, H2.out, R.out.push hlt v HJ.out, rfl, rfl⟩, fun c => absurd c (by omega), kept_mine B1.out K2.out⟩
  · have hle : l.length = n := by omega
    have HL := Lib.hid hle
    clear hle
    go_enter Try.func15, Try.ntmps15
    go_wp2_with fail
    refine (rpush _ _).mono ?_
    rintro e w1 ⟨rfl, h1, hb1⟩
    have A1 := Lib.hid h1
    have B1 := Lib.hid hb1
    clear h1 hb1
    go_wp2_with fail
    refine (rpush_no v _ (H.out.below B1.out l1 l2) A1.out R.out HL.out hn hT).mono ?_
    rintro e w2 ⟨⟨u, rfl⟩, h2, a2, k2⟩
    have A2 := Lib.hid a2
    have H2 := Lib.hid h2
    have K2 := Lib.hid k2
    clear h2 a2 k2
    go_wp2_with fail
    refine (rok _ A2.out).mono ?_
    rintro e w3 ⟨rfl, rfl⟩
    go_wp2
    go_ret
    exact ⟨fun c => absurd c hlt, fun _ => ⟨rfl, H2.out⟩, kept_mine B1.out K2.out⟩
/-- What TryPop answers, and leaves. -/
def Popped (r s n : Nat) (g : Rg) (l : List Int) (w : World) (e : Ending) (w' : World) : Prop :=
  (∀ x t, l = x :: t → e = .returned (.tuple #[.int .u64 x, .bool true]) ∧ ∃ g', RingAt w' r s n g' ∧ Rest n g' t ∧ g'.T = g.T ∧ g'.H = g.H + 1) ∧
  (l = [] → e = .returned (.tuple #[.int .u64 0, .bool false]) ∧ RingAt w' r s n g) ∧ Kept (fun k => k = r ∨ k = s) w w'
set_option maxHeartbeats 1000000 in
theorem rtrypop (w : World) (h : RingAt w r s n g) (hq : Rest n g l) (hT : g.T ≤ 900000) :
    Calls Try.prog 11 #[.pointer (some ⟨r, 0, none⟩)] w (Popped r s n g l w) := by
  have ⟨l1, l2⟩ := h.lts
  have H := Lib.hid h
  clear h
  cases l with
  | cons x t =>
    have R := Lib.hid hq
    clear hq
    obtain ⟨j, hj⟩ : ∃ j, g.H % n = j := ⟨_, rfl⟩
    have HJ := Lib.hid hj
    clear hj
    go_enter Try.func11, Try.ntmps11
    go_wp2_with fail
    refine (rpop _).mono ?_
    rintro e w1 ⟨rfl, h1, hb1⟩
    have A1 := Lib.hid h1
    have B1 := Lib.hid hb1
    clear h1 hb1
    go_wp2_with fail
    refine (rpop_yes _ (H.out.below B1.out l1 l2) A1.out R.out hT HJ.out).mono ?_
    rintro e w2 ⟨⟨u, rfl⟩, h2, a2, k2⟩
    have A2 := Lib.hid a2
    have H2 := Lib.hid h2
    have K2 := Lib.hid k2
    clear h2 a2 k2
    go_wp2_with (first
      | (go_at_call 22; refine (rvalue _ A2.out).mono ?_; rintro e w3 ⟨rfl, rfl⟩)
      | (go_at_call 21; refine (rok _ A2.out).mono ?_; rintro e w3 ⟨rfl, rfl⟩))
    go_ret2
    refine ⟨fun y t' e => ?_, (fun c => by cases c), kept_mine B1.out K2.out⟩
    obtain ⟨rfl, rfl⟩ := List.cons.inj e
    exact ⟨rfl, _, H2.out, (R.out.pop HJ.out).2.2, rfl, rfl⟩
  | nil =>
    have R := Lib.hid hq
    clear hq
    go_enter Try.func11, Try.ntmps11
    go_wp2_with fail
    refine (rpop _).mono ?_
    rintro e w1 ⟨rfl, h1, hb1⟩
    have A1 := Lib.hid h1
    have B1 := Lib.hid hb1
    clear h1 hb1
    go_wp2_with fail
    refine (rpop_no _ (H.out.below B1.out l1 l2) A1.out R.out hT).mono ?_
    rintro e w2 ⟨⟨u, rfl⟩, h2, a2, k2⟩
    have A2 := Lib.hid a2
    have H2 := Lib.hid h2
    have K2 := Lib.hid k2
    clear h2 a2 k2
    go_wp2_with (first
      | (go_at_call 22; refine (rvalue _ A2.out).mono ?_; rintro e w3 ⟨rfl, rfl⟩)
      | (go_at_call 21; refine (rok _ A2.out).mono ?_; rintro e w3 ⟨rfl, rfl⟩))
    go_ret2
    exact ⟨(fun y t' e => by cases e), fun _ => ⟨rfl, H2.out⟩, kept_mine B1.out K2.out⟩
end
theorem slinfo : (Try.prog.info? 73).map (fun i => (i.zero, i.size, i.bytes)) = some (some (.agg #[.int .u64 0, .int .u64 0]), 2, 16) := by kernel_rfl
theorem run_slots (n : Nat) (hn : n ≤ 64) (w : World) :
    (Instr.makeSlice 69 (.int .i64 (n : Int)) (.int .i64 (n : Int))).run Try.prog w = .ok (.slice (some ⟨w.heap.size, 0, none⟩) n n) (w.alloc (.cells (madeCells #[.int .u64 0, .int .u64 0] (n * 2)) 73)) := by
  obtain ⟨i, hi, hzz⟩ := Option.map_eq_some_iff.1 slinfo
  simp only [Prod.mk.injEq] at hzz
  obtain ⟨hz, hs, hb⟩ := hzz
  have h := run_make (P := Try.prog) w 69 73 i _ Try.underlying69 hi hz .i64 .i64 n n (by omega) (Int.le_refl _) (by rw [hb]; omega) (by omega)
  simp only [Int.toNat_natCast, hs] at h
  exact h
/-- What New hands back: a ring that holds nothing. -/
def RNew (n : Nat) (w : World) (e : Ending) (w' : World) : Prop := ∃ r s : Nat, ∃ g : Rg, e = .returned (.tuple #[.pointer (some ⟨r, 0, none⟩), .int .i64 0]) ∧ w.heap.size ≤ r ∧ w.heap.size ≤ s ∧ RingAt w' r s n g ∧ Rest n g [] ∧ g.T = 0 ∧ g.H = 0 ∧ Below w.heap.size w w'
theorem up_at (k j : Nat) : (if j < k + 1 then j else 0) = if j = k then k else if j < k then j else 0 := by
  by_cases e : j = k
  · rw [if_pos e, if_pos (by omega), e]
  · by_cases c : j < k
    · rw [if_neg e, if_pos c, if_pos (by omega)]
    · rw [if_neg e, if_neg c, if_neg (by omega)]
set_option maxRecDepth 20000 in
set_option maxHeartbeats 2000000 in
theorem rnew (n : Nat) (w : World) (hn : n = 2 ∨ n = 4 ∨ n = 8) :
    Calls Try.prog 14 #[.int .i64 (n : Int)] w (RNew n w) := by
  have n2 : 2 ≤ n := by omega
  have n8 : n ≤ 8 := by omega
  have hm := run_slots n (by omega)
  have hand : bits BinOp.and IntKind.i64 (n : Int) ((n : Int) - 1) = 0 := by
    rcases hn with rfl | rfl | rfl <;> rfl
  clear hn
  go_enter Try.func14, Try.ntmps14
  go_wp2
  go_loopw [31] (fun s31 wr => ∃ k : Nat, k ≤ n ∧ s31 = .int .i64 k ∧ RingAt wr (w.heap.size + 1) w.heap.size n ⟨0, 0, fun i => if i < k then i else 0, fun _ => 0⟩ ∧ Below w.heap.size w wr) (fun s _ => n - (intOf s).toNat)
  case atStart =>
    refine ⟨0, Nat.zero_le _, rfl, ⟨by omega, by omega, ?_, ⟨_, (Blk.made w _ _).alloc_ _, made_size _ _, fun i hi => ⟨?_, ?_⟩⟩⟩, ?_⟩
    · exact Blk.new_ (by simp)
    · rw [made_at _ _ (by omega) (by decide)]; simp [show i * 2 % 2 = 0 by omega]
    · rw [made_at _ _ (by omega) (by decide)]; simp [show (i * 2 + 1) % 2 = 1 by omega]
    · exact ((Below.refl _ w).alloc (Nat.le_refl _) _).alloc (by simp) _
  case round =>
    obtain ⟨k, hk, rfl, hs, hbr⟩ := hrel
    clear hm hand
    have s0 := hs.s0
    by_cases hlt : k < n
    · have q1 := hs.sq hlt
      have z1 := hs.zs (k * 2)
      have hw : IntKind.u64.wrap (k : Int) = (k : Int) := IntWalk.u64_in _ (by omega)
      have H := Lib.hid hs
      clear hs
      go_wp2_with (go_at_call 26; refine (astore _ _ _ _ _ q1 z1).mono ?_; rintro e w2 ⟨⟨v, rfl⟩, rfl⟩)
      go_roundw
      case rel =>
        refine ⟨k + 1, by omega, by go_num, ?_, hbr.setCell (p := ⟨w.heap.size, k * 2, none⟩) (Nat.le_refl _) _⟩
        have h2 := H.out.setS hlt k
        have e : (fun i => if i < k + 1 then i else 0) = fun i => if i = k then k else (fun i => if i < k then i else 0) i := by funext i; exact up_at k i
        rw [e]
        exact h2
      case measure => simp [intOf]; omega
    · obtain rfl : k = n := by omega
      have H := Lib.hid hs
      clear hs
      go_wp2
      go_ret2
      refine ⟨_, _, _, rfl, by omega, Nat.le_refl _, H.out, ⟨by simp, by simp, fun i hi => absurd hi (by simp), fun i _ hi => ?_⟩, rfl, rfl, hbr⟩
      simp [Nat.mod_eq_of_lt hi, hi]
end Go.Proofs.Ytbenpnecjmpcbaa
