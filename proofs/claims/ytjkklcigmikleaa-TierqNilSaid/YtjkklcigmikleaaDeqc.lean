/- Rows: their making, their ends, their length, where a member is. -/
import Derived.Test.YtjkklcigmikleaaDeqb
import Derived.Test.YtjkklcigmikleaaDrep
namespace Go.Proofs.Ytjkklcigmikleaa
open Go.RowKit
set_option linter.unusedVariables false
section
variable {p a b R M : Nat} {E0 E1 C W B0 B1 U : Nat → Int}
set_option maxHeartbeats 1000000 in
theorem dlen_yes {r : Nat} (hr : r < R) (w : World) (h : DeqAt w p a b R M E0 E1 C W B0 B1 U) :
    Calls Try.prog 52 #[.pointer (some ⟨p, 0, none⟩), .int .i64 (r : Int)] w fun e w' => e = .returned (.int .i64 (C r)) ∧ w = w' := by
  have q0 := h.p0
  have n0 := h.r0
  have k2 := h.ct hr
  have H0 := Lib.hid h
  clear h
  go_enter Try.func52, Try.ntmps52
  go_wp2_with (go_at_call 54; refine (hasrow_yes hr _ H0.out).mono ?_; rintro e w1 ⟨rfl, rfl⟩)
  go_ret
  exact ⟨rfl, rfl⟩
set_option maxHeartbeats 1000000 in
theorem dat_none {r : Nat} (hr : r < R) (hc : C r = 0) (s : Int) (w : World) (h : DeqAt w p a b R M E0 E1 C W B0 B1 U) :
    Calls Try.prog 65 #[.pointer (some ⟨p, 0, none⟩), .int .i64 (r : Int), .int .i64 s] w fun e w' => e = .returned (.tuple #[.int .i64 0, .bool false]) ∧ w = w' := by
  have H0 := Lib.hid h
  have HC := Lib.hid hc
  clear h hc
  go_enter Try.func65, Try.ntmps65
  go_wp2_with (go_at_call 52; refine (dlen_yes hr _ H0.out).mono ?_; rintro e w1 ⟨rfl, rfl⟩; rw [HC.out])
  go_ret2
  exact ⟨rfl, rfl⟩
set_option maxHeartbeats 1000000 in
theorem dat_first {r : Nat} (hr : r < R) (hc : 0 < C r) (w : World) (h : DeqAt w p a b R M E0 E1 C W B0 B1 U) :
    Calls Try.prog 65 #[.pointer (some ⟨p, 0, none⟩), .int .i64 (r : Int), .int .i64 0] w fun e w' => e = .returned (.tuple #[.int .i64 (E0 r), .bool true]) ∧ w = w' := by
  have q0 := h.p0
  have n0 := h.r0
  have k0 := h.e0 hr
  have hz : (C r == 0) = false := beq_eq_false_iff_ne.2 (by omega)
  have H0 := Lib.hid h
  clear h
  go_enter Try.func65, Try.ntmps65
  go_wp2_with (go_at_call 52; refine (dlen_yes hr _ H0.out).mono ?_; rintro e w1 ⟨rfl, rfl⟩)
  go_ret2
  exact ⟨rfl, rfl⟩
set_option maxHeartbeats 1000000 in
theorem dat_last {r : Nat} (hr : r < R) (hc : 0 < C r) (w : World) (h : DeqAt w p a b R M E0 E1 C W B0 B1 U) :
    Calls Try.prog 65 #[.pointer (some ⟨p, 0, none⟩), .int .i64 (r : Int), .int .i64 1] w fun e w' => e = .returned (.tuple #[.int .i64 (E1 r), .bool true]) ∧ w = w' := by
  have q0 := h.p0
  have n0 := h.r0
  have k0 := h.e1 hr
  have hz : (C r == 0) = false := beq_eq_false_iff_ne.2 (by omega)
  have H0 := Lib.hid h
  clear h
  go_enter Try.func65, Try.ntmps65
  go_wp2_with (go_at_call 52; refine (dlen_yes hr _ H0.out).mono ?_; rintro e w1 ⟨rfl, rfl⟩)
  go_ret2
  exact ⟨rfl, rfl⟩
set_option maxHeartbeats 1000000 in
theorem dfront_any {r : Nat} (hr : r < R) (hc : 0 < C r) (w : World) (h : DeqAt w p a b R M E0 E1 C W B0 B1 U) :
    Calls Try.prog 47 #[.pointer (some ⟨p, 0, none⟩), .int .i64 (r : Int)] w fun e w' => e = .returned (.tuple #[.int .i64 (E0 r), .bool true]) ∧ w = w' := by
  have H0 := Lib.hid h
  clear h
  go_enter Try.func47, Try.ntmps47
  go_wp2_with (go_at_call 65; refine (dat_first hr hc _ H0.out).mono ?_; rintro e w1 ⟨rfl, rfl⟩)
  go_ret2
  exact ⟨rfl, rfl⟩
set_option maxHeartbeats 1000000 in
theorem dback_any {r : Nat} (hr : r < R) (hc : 0 < C r) (w : World) (h : DeqAt w p a b R M E0 E1 C W B0 B1 U) :
    Calls Try.prog 48 #[.pointer (some ⟨p, 0, none⟩), .int .i64 (r : Int)] w fun e w' => e = .returned (.tuple #[.int .i64 (E1 r), .bool true]) ∧ w = w' := by
  have H0 := Lib.hid h
  clear h
  go_enter Try.func48, Try.ntmps48
  go_wp2_with (go_at_call 65; refine (dat_last hr hc _ H0.out).mono ?_; rintro e w1 ⟨rfl, rfl⟩)
  go_ret2
  exact ⟨rfl, rfl⟩
end
theorem upto_one (k j : Nat) : (if j < k + 1 then (-1 : Int) else 0) = if j = k then -1 else if j < k then -1 else 0 := by
  by_cases e : j = k
  · rw [if_pos e, if_pos (by omega)]
  · by_cases e2 : j < k
    · rw [if_neg e, if_pos e2, if_pos (by omega)]
    · rw [if_neg e, if_neg e2, if_neg (by omega)]
theorem linfo : (Try.prog.info? 107).map (fun i => (i.zero, i.size, i.bytes)) = some (some (.agg #[.int .i64 0, .int .i64 0, .int .i64 0]), 3, 24) := by kernel_rfl
theorem meinfo : (Try.prog.info? 109).map (fun i => (i.zero, i.size, i.bytes)) = some (some (.agg #[.int .i64 0, .int .i64 0, .int .i64 0, .int .u64 0]), 4, 32) := by kernel_rfl
theorem run_lines (n : Nat) (hn : n ≤ 8) (w : World) :
    (Instr.makeSlice 101 (.int .i64 (n : Int)) (.int .i64 (n : Int))).run Try.prog w = .ok (.slice (some ⟨w.heap.size, 0, none⟩) n n) (w.alloc (.cells (madeCells #[.int .i64 0, .int .i64 0, .int .i64 0] (n * 3)) 107)) := by
  obtain ⟨i, hi, hzz⟩ := Option.map_eq_some_iff.1 linfo
  simp only [Prod.mk.injEq] at hzz
  obtain ⟨hz, hs, hb⟩ := hzz
  have h := run_make (P := Try.prog) w 101 107 i _ Try.underlying101 hi hz .i64 .i64 n n (by omega) (Int.le_refl _) (by rw [hb]; omega) (by omega)
  simp only [Int.toNat_natCast, hs] at h
  exact h
theorem run_mems (n : Nat) (hn : n ≤ 1024) (w : World) :
    (Instr.makeSlice 102 (.int .i64 (n : Int)) (.int .i64 (n : Int))).run Try.prog w = .ok (.slice (some ⟨w.heap.size, 0, none⟩) n n) (w.alloc (.cells (madeCells #[.int .i64 0, .int .i64 0, .int .i64 0, .int .u64 0] (n * 4)) 109)) := by
  obtain ⟨i, hi, hzz⟩ := Option.map_eq_some_iff.1 meinfo
  simp only [Prod.mk.injEq] at hzz
  obtain ⟨hz, hs, hb⟩ := hzz
  have h := run_make (P := Try.prog) w 102 109 i _ Try.underlying102 hi hz .i64 .i64 n n (by omega) (Int.le_refl _) (by rw [hb]; omega) (by omega)
  simp only [Int.toNat_natCast, hs] at h
  exact h
/-- What New hands back: rows that are empty. -/
def DNew (R M : Nat) (w : World) (e : Ending) (w' : World) : Prop := ∃ p a b : Nat, e = .returned (.tuple #[.pointer (some ⟨p, 0, none⟩), .int .i64 0]) ∧ w.heap.size ≤ p ∧ w.heap.size ≤ a ∧ w.heap.size ≤ b ∧
      DeqAt w' p a b R M (fun _ => -1) (fun _ => -1) (fun _ => 0) (fun _ => -1) (fun _ => 0) (fun _ => 0) (fun _ => 0) ∧ Below w.heap.size w w'
set_option maxRecDepth 100000 in
set_option maxHeartbeats 2000000 in
theorem dnew_yes (R M : Nat) (w : World) (h0 : 1 ≤ R) (h1 : R ≤ 8) (h2 : 1 ≤ M) (h3 : M ≤ 1024) :
    Calls Try.prog 25 #[.int .i64 (R : Int), .int .i64 (M : Int)] w (DNew R M w) := by
  have hm1 := run_lines R h1
  have hm2 := run_mems M h3
  go_enter Try.func25, Try.ntmps25
  go_upto_region 3 with fail
  go_cut [6] (fun s4 wx => ∃ p c f : Nat, s4 = .pointer (some ⟨p, 0, none⟩) ∧ p ≠ c ∧ p ≠ f ∧ c ≠ f ∧ w.heap.size ≤ p ∧ w.heap.size ≤ c ∧ w.heap.size ≤ f ∧
    Blk wx p 104 #[.slice (some ⟨c, 0, none⟩) R R, .slice (some ⟨f, 0, none⟩) M M] ∧
    Blk wx c 107 (madeCells #[.int .i64 0, .int .i64 0, .int .i64 0] (R * 3)) ∧ Blk wx f 109 (madeCells #[.int .i64 0, .int .i64 0, .int .i64 0, .int .u64 0] (M * 4)) ∧ Below w.heap.size w wx)
  case first =>
    go_region
    all_goals (try go_wp2)
    all_goals go_meet
    all_goals (first
      | (refine ⟨w.heap.size + 1 + 1, w.heap.size, w.heap.size + 1, rfl, by omega, by omega, by omega, by omega, by omega, by omega, ?_, ?_, ?_, ?_⟩ <;> (repeat (first | with_reducible exact Below.refl _ _ | with_reducible apply Below.drew | refine Below.alloc ?_ (by (try simp); (try omega)) _ | (with_reducible refine Blk.new_ ?_; simp; done) | with_reducible refine Blk.drew_ ?_ | with_reducible refine Blk.alloc_ ?_ _)); done)
      | (refine ⟨w.heap.size + 1 + 1, w.heap.size + 1, w.heap.size, rfl, by omega, by omega, by omega, by omega, by omega, by omega, ?_, ?_, ?_, ?_⟩ <;> (repeat (first | with_reducible exact Below.refl _ _ | with_reducible apply Below.drew | refine Below.alloc ?_ (by (try simp); (try omega)) _ | (with_reducible refine Blk.new_ ?_; simp; done) | with_reducible refine Blk.drew_ ?_ | with_reducible refine Blk.alloc_ ?_ _)); done))
  case rest =>
    obtain ⟨p, c, f, rfl, hpc, hpf, hcf, hp, hc, hf, bp, bc, bf, hb⟩ := hcut
    have hs0 : DeqAt wc p c f R M (fun _ => 0) (fun _ => 0) (fun _ => 0) (fun _ => 0) (fun _ => 0) (fun _ => 0) (fun _ => 0) := by
      refine ⟨hpc, hpf, hcf, h1, h3, bp, ⟨_, bc, made_size _ _, fun i hi k hk => ?_⟩, ⟨_, bf, made_size _ _, fun i hi k hk => ?_⟩⟩
      · rw [made_at _ _ (by omega) (by decide)]
        have e : (i * 3 + k) % 3 = k := by omega
        match k, hk with
        | 0, _ | 1, _ | 2, _ => simp [lineRow, e]
      · rw [made_at _ _ (by omega) (by decide)]
        have e : (i * 4 + k) % 4 = k := by omega
        match k, hk with
        | 0, _ | 1, _ | 2, _ | 3, _ => simp [memRow, e]
    have q0 := hs0.p0
    have H0 := Lib.hid hs0
    clear bp bc bf hs0 hm1 hm2
    go_wp2
    go_loopw [34] (fun i wr => ∃ k : Nat, k ≤ R ∧ i = .int .i64 k ∧ DeqAt wr p c f R M (fun j => if j < k then -1 else 0) (fun j => if j < k then -1 else 0) (fun _ => 0) (fun _ => 0) (fun _ => 0) (fun _ => 0) (fun _ => 0) ∧ Below w.heap.size w wr) (fun i _ => R - (intOf i).toNat)
    case atStart => exact ⟨0, Nat.zero_le _, rfl, H0.out.congr (fun j hj => ⟨by simp, by simp, rfl⟩) (fun j hj => ⟨rfl, rfl, rfl, rfl⟩), hb⟩
    case round =>
      obtain ⟨k, hk, rfl, hs, hbr⟩ := hrel
      clear q0
      by_cases hlt : k < R
      · have q0 := hs.p0
        have k0 := hs.e0 hlt
        have k1 := hs.e1 hlt
        have z0 := hs.za (k * 3)
        have z1 := hs.za (k * 3 + 1)
        have HS := Lib.hid hs
        clear hs
        go_wp2
        go_roundw
        case rel => exact ⟨k + 1, by omega, by go_num, ((HS.out.setE0 hlt).setE1 hlt).congr (fun j hj => ⟨upto_one k j, upto_one k j, rfl⟩) (fun j hj => ⟨rfl, rfl, rfl, rfl⟩), (hbr.setCell hc _).setCell hc _⟩
        case measure => simp [intOf]; omega
      · have hke : k = R := by omega
        subst hke
        have q0 := hs.p0
        have q1 := hs.p1
        have HS := Lib.hid (hs.congr (E0' := fun _ => -1) (E1' := fun _ => -1) (fun j hj => ⟨by simp [hj], by simp [hj], rfl⟩) (fun j hj => ⟨rfl, rfl, rfl, rfl⟩))
        clear hs
        obtain ⟨wo, rfl⟩ : ∃ wo, wo = wr := ⟨wr, rfl⟩
        go_wp2
        go_loopw [51] (fun i wr => ∃ j : Nat, j ≤ M ∧ i = .int .i64 j ∧ DeqAt wr p c f k M (fun _ => -1) (fun _ => -1) (fun _ => 0) (fun x => if x < j then -1 else 0) (fun _ => 0) (fun _ => 0) (fun _ => 0) ∧ Below w.heap.size w wr) (fun i _ => M - (intOf i).toNat)
        case atStart => exact ⟨0, Nat.zero_le _, rfl, HS.out.congr (fun j hj => ⟨rfl, rfl, rfl⟩) (fun j hj => ⟨by simp, rfl, rfl, rfl⟩), hbr⟩
        case round =>
          obtain ⟨j, hj, rfl, hs, hbr2⟩ := hrel
          clear q0 q1
          by_cases hlt2 : j < M
          · have q1 := hs.p1
            have k0 := hs.mw hlt2
            have z0 := hs.zb (j * 4)
            have HS2 := Lib.hid hs
            clear hs
            go_wp2
            go_roundw
            case rel => exact ⟨j + 1, by omega, by go_num, (HS2.out.setW hlt2).congr (fun j hj => ⟨rfl, rfl, rfl⟩) (fun x hx => ⟨upto_one j x, rfl, rfl, rfl⟩), hbr2.setCell hf _⟩
            case measure => simp [intOf]; omega
          · have hje : j = M := by omega
            subst hje
            have HS2 := Lib.hid (hs.congr (W' := fun _ => -1) (fun j hj => ⟨rfl, rfl, rfl⟩) (fun x hx => ⟨by simp [hx], rfl, rfl, rfl⟩))
            clear hs
            go_wp2
            go_ret2
            exact ⟨p, c, f, rfl, hp, hc, hf, HS2.out, hbr2⟩
end Go.Proofs.Ytjkklcigmikleaa
