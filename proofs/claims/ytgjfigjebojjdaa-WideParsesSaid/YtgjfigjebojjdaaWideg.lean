/- What the calls of package wide answer: a number read of a text. -/
import Derived.Test.YtgjfigjebojjdaaWidee
import Derived.Test.YtgjfigjebojjdaaWidef
namespace Go.Proofs.Ytgjfigjebojjdaa
open Go.ChangeShapes Go.WideShapes Go.ChangeAt Go.RowKit Kn
set_option linter.unusedVariables false
/-- The digit at k, and the number of the first k digits. -/
def digAt (s : ByteArray) (k : Nat) : Int := if h : k < s.size then (s[k].toNat : Int) - 48 else 0
def valT (s : ByteArray) : Nat → Int
  | 0 => 0
  | k + 1 => valT s k * 10 + digAt s k
theorem digAt_bd {s : ByteArray} (h : digsTo s s.size) (k : Nat) : 0 ≤ digAt s k ∧ digAt s k ≤ 9 := by
  unfold digAt
  split
  · rename_i hk; have := h k hk hk; omega
  · omega
theorem valT0 {s : ByteArray} (h : digsTo s s.size) (k : Nat) : 0 ≤ valT s k := by
  induction k with
  | zero => exact Int.le_refl _
  | succ k ih => have := digAt_bd h k; unfold valT; omega
theorem valT_mono {s : ByteArray} (h : digsTo s s.size) (j k : Nat) (hk : j ≤ k) : valT s j ≤ valT s k := by
  induction k with
  | zero => rw [show j = 0 by omega]; exact Int.le_refl _
  | succ k ih =>
    by_cases e : j = k + 1
    · rw [e]; exact Int.le_refl _
    · have a := ih (by omega)
      have b := digAt_bd h k
      have c := valT0 h k
      show _ ≤ valT s k * 10 + digAt s k
      omega
/-- What Parse answers: the number, or its error. -/
def ParseTo (s : ByteArray) (e : Ending) : Prop :=
  (decT s ∧ valT s s.size < 340282366920938463463374607431768211456 ∧ e = .returned (.tuple #[.agg #[.int .u64 (hi (valT s s.size)), .int .u64 (lo (valT s s.size))], .int .i64 0])) ∨
  (decT s ∧ 340282366920938463463374607431768211456 ≤ valT s s.size ∧ e = .returned (.tuple #[.agg #[.int .u64 0, .int .u64 0], .int .i64 8])) ∨
  (¬ decT s ∧ e = .returned (.tuple #[.agg #[.int .u64 0, .int .u64 0], .int .i64 9]))
set_option maxRecDepth 1000000 in
set_option maxHeartbeats 4000000 in
theorem wparse_any (s : ByteArray) (w : World) (hs : s.size ≤ maxLen) :
    Calls Try.prog 14 #[.string s] w fun e w' => ParseTo s e ∧ Below w.heap.size w w' := by
  have hs' := hs
  unfold maxLen at hs'
  by_cases hdec : decT s
  · have HDg := Lib.hid hdec.1
    have HD := Lib.hid hdec; clear hdec
    go_enter Try.func14, Try.ntmps14
    go_wp2_with (go_at_call 51; refine (wdecimal_any _ _ hs).mono ?_; rintro e w1 ⟨ht, rfl⟩; obtain ⟨_, rfl⟩ : decT s ∧ e = .returned (.bool true) := (ht.resolve_right (fun c => c.1 HD.out)))
    go_loopw [14] (fun i wr => ∃ k : Nat, k ≤ s.size ∧ i = .int .i64 k ∧ Hid (valT s k < 340282366920938463463374607431768211456) ∧ wr.cell? ⟨w.heap.size + 1, 0, none⟩ = some (.int .u64 (hi (valT s k))) ∧ wr.cell? ⟨w.heap.size + 1, 1, none⟩ = some (.int .u64 (lo (valT s k))) ∧ wr.cell? ⟨w.heap.size, 0, none⟩ = some (.int .u64 0) ∧ wr.cell? ⟨w.heap.size, 1, none⟩ = some (.int .u64 0) ∧ wr.frozen? ⟨w.heap.size, 0, none⟩ = false ∧ wr.frozen? ⟨w.heap.size, 1, none⟩ = false ∧ wr.frozen? ⟨w.heap.size + 1, 0, none⟩ = false ∧ wr.frozen? ⟨w.heap.size + 1, 1, none⟩ = false ∧ Below w.heap.size w wr) (fun i _ => s.size - (intOf i).toNat)
    case atStart =>
      exact ⟨0, Nat.zero_le _, rfl, Lib.hid (by show (0 : Int) < _; decide), by simp [go_sem]; rfl, by simp [go_sem]; rfl, by simp [go_sem], by simp [go_sem], by simp [go_sem], by simp [go_sem], by simp [go_sem], by simp [go_sem], ((Below.refl _ _).alloc (Nat.le_refl _) _).alloc (by simp) _⟩
    case round =>
      obtain ⟨k, hk, rfl, hlt0, n0, n1, r0, r1, e0, e1, f0, f1, hb⟩ := hrel
      have V0 := valT0 HDg.out k
      have dd := digAt_bd HDg.out k
      have hm := valT_mono HDg.out (k + 1) s.size
      obtain ⟨V, hV⟩ : ∃ V, valT s k = V := ⟨_, rfl⟩
      obtain ⟨d, hd⟩ : ∃ d, digAt s k = d := ⟨_, rfl⟩
      have hNV0 : valT s (k + 1) = V * 10 + d := by show valT s k * 10 + digAt s k = _; rw [hV, hd]
      rw [hV] at V0 n0 n1 hlt0
      rw [hd] at dd
      obtain ⟨d0, d9⟩ := dd
      have V1 := hlt0.out
      have v0 := hi0 _ V0
      have v1 := hi1 _ V1
      have v2 := lo0 V
      have v3 := lo1 V
      have EN := Lib.hid (num_hi_lo V)
      have zr := klt r0
      have zn := klt n0
      simp only at zr zn
      by_cases hlt : k < s.size
      · have hdd : (s[k].toNat : Int) - 48 = d := by rw [← hd]; unfold digAt; rw [dif_pos hlt]
        have wd : IntKind.u8.wrap d = d := by rw [IntKind.wrap_u8]; omega
        have i0 : (0 : Int) ≤ (k : Int) := by omega
        have i1 : (k : Int) < (s.size : Int) := by omega
        have hm2 := hm (by omega)
        have HM := Lib.hid hm2
        have HV := Lib.hid hV; have HDD := Lib.hid hd
        have HNV0 := Lib.hid hNV0
        clear hm hm2 hV hd hNV0 hlt0
        by_cases ho : V * 10 + d < 340282366920938463463374607431768211456
        · obtain ⟨NV, hNV⟩ : ∃ NV, V * 10 + d = NV := ⟨_, rfl⟩
          have HNV := Lib.hid hNV; clear hNV
          go_upto_region 7 with fail
          go_cut [6, 7] (fun s6 s7 wx => ∃ g : Nat, s6 = .pointer (some ⟨g, 0, none⟩) ∧ s7 = .bool false ∧ wx.cell? ⟨w.heap.size + 1, 0, none⟩ = some (.int .u64 (hi V)) ∧ wx.cell? ⟨w.heap.size + 1, 1, none⟩ = some (.int .u64 (lo V)) ∧ wx.cell? ⟨w.heap.size, 0, none⟩ = some (.int .u64 0) ∧ wx.cell? ⟨w.heap.size, 1, none⟩ = some (.int .u64 0) ∧ wx.cell? ⟨g, 0, none⟩ = some (.int .u64 (hi NV)) ∧ wx.cell? ⟨g, 1, none⟩ = some (.int .u64 (lo NV)) ∧ wx.frozen? ⟨w.heap.size, 0, none⟩ = false ∧ wx.frozen? ⟨w.heap.size, 1, none⟩ = false ∧ wx.frozen? ⟨w.heap.size + 1, 0, none⟩ = false ∧ wx.frozen? ⟨w.heap.size + 1, 1, none⟩ = false ∧ w.heap.size + 1 < g ∧ Below w.heap.size w wx)
          case first =>
            go_region_held3 (fun w' => w'.cell? ⟨w.heap.size + 1, 0, none⟩ = some (.int .u64 (hi V)) ∧ w'.cell? ⟨w.heap.size + 1, 1, none⟩ = some (.int .u64 (lo V))) (refine ⟨?_, ?_⟩ <;> (repeat (first | with_reducible assumption | (simp [go_sem]; done) | (simp [go_sem, *]; done) | with_reducible refine kdrew ?_ | (with_reducible refine ksame ?_; (simp [go_sem, *]; done)) | with_reducible refine kother ?_ (by simp; try omega) | with_reducible refine kalloc ?_ _)))
              ((rw [if_pos (by rfl)]; refine wp_enter (by go_simp; exact ⟨rfl, rfl⟩) ?_; (first
                | (go_at_call 52; refine (wdigit_any _ _ _ _ v0 v1 v2 v3 d0 (by omega)).mono ?_; rintro e wn ⟨ht, hbn⟩; rw [EN.out] at ht; obtain ⟨_, rfl⟩ := ht.resolve_right (fun c => by omega); rw [HNV.out]; replace e0 : wn.frozen? ⟨w.heap.size, 0, none⟩ = false := frz_later hbn (show World.cell? _ ⟨w.heap.size, 0, none⟩ = some (.int .u64 0) from (by (repeat (first | with_reducible exact r0 | with_reducible refine kalloc ?_ _ | with_reducible refine kdrew ?_ | with_reducible refine kdrewN ?_ _ | with_reducible refine kother ?_ (by simp; try omega))))) (by first | with_reducible assumption | (simp [go_sem, *]; done)); replace e1 : wn.frozen? ⟨w.heap.size, 1, none⟩ = false := frz_later hbn (show World.cell? _ ⟨w.heap.size, 1, none⟩ = some (.int .u64 0) from (by (repeat (first | with_reducible exact r1 | with_reducible refine kalloc ?_ _ | with_reducible refine kdrew ?_ | with_reducible refine kdrewN ?_ _ | with_reducible refine kother ?_ (by simp; try omega))))) (by first | with_reducible assumption | (simp [go_sem, *]; done)); replace f0 : wn.frozen? ⟨w.heap.size + 1, 0, none⟩ = false := frz_later hbn (show World.cell? _ ⟨w.heap.size + 1, 0, none⟩ = some (.int .u64 (hi V)) from (by (repeat (first | with_reducible exact n0 | with_reducible refine kalloc ?_ _ | with_reducible refine kdrew ?_ | with_reducible refine kdrewN ?_ _ | with_reducible refine kother ?_ (by simp; try omega))))) (by first | with_reducible assumption | (simp [go_sem, *]; done)); replace f1 : wn.frozen? ⟨w.heap.size + 1, 1, none⟩ = false := frz_later hbn (show World.cell? _ ⟨w.heap.size + 1, 1, none⟩ = some (.int .u64 (lo V)) from (by (repeat (first | with_reducible exact n1 | with_reducible refine kalloc ?_ _ | with_reducible refine kdrew ?_ | with_reducible refine kdrewN ?_ _ | with_reducible refine kother ?_ (by simp; try omega))))) (by first | with_reducible assumption | (simp [go_sem, *]; done)); replace n0 : wn.cell? ⟨w.heap.size + 1, 0, none⟩ = some (.int .u64 (hi V)) := cell_later hbn (by (repeat (first | with_reducible exact n0 | with_reducible refine kalloc ?_ _ | with_reducible refine kdrew ?_ | with_reducible refine kdrewN ?_ _ | with_reducible refine kother ?_ (by simp; try omega)))); replace n1 : wn.cell? ⟨w.heap.size + 1, 1, none⟩ = some (.int .u64 (lo V)) := cell_later hbn (by (repeat (first | with_reducible exact n1 | with_reducible refine kalloc ?_ _ | with_reducible refine kdrew ?_ | with_reducible refine kdrewN ?_ _ | with_reducible refine kother ?_ (by simp; try omega)))); replace r0 : wn.cell? ⟨w.heap.size, 0, none⟩ = some (.int .u64 0) := cell_later hbn (by (repeat (first | with_reducible exact r0 | with_reducible refine kalloc ?_ _ | with_reducible refine kdrew ?_ | with_reducible refine kdrewN ?_ _ | with_reducible refine kother ?_ (by simp; try omega)))); replace r1 : wn.cell? ⟨w.heap.size, 1, none⟩ = some (.int .u64 0) := cell_later hbn (by (repeat (first | with_reducible exact r1 | with_reducible refine kalloc ?_ _ | with_reducible refine kdrew ?_ | with_reducible refine kdrewN ?_ _ | with_reducible refine kother ?_ (by simp; try omega)))); have zn0 : w.heap.size + 1 < wn.heap.size := klt n0; have zr0 : w.heap.size < wn.heap.size := klt r0; replace hb := (show Below w.heap.size w _ from by (repeat (first | exact hb | apply Below.drew | apply below_drewN | refine Below.setCell ?_ (by have := hb.size; (try simp at this); (try simp); (try omega)) _ | refine Below.alloc ?_ (by have := hb.size; (try simp at this); (try simp); (try omega)) _))).trans (hbn.mono (by have := hb.size; (try simp at this); (try simp); (try omega))); obtain ⟨hcn, hfn⟩ := bcell hbn; (try (have hsr := Nat.lt_of_lt_of_le hsq hbn.size)); (try (have hsq := Nat.lt_of_lt_of_le hsy hbn.size)); have hsz := hbn.size; (try simp at hsz); (try (have hsy := Nat.lt_of_succ_le hsz)); clear hbn; refine ⟨_, rfl, ?_⟩))))
            all_goals (go_wp2_with fail; go_meet; exact ⟨_, rfl, rfl, by (repeat (first | with_reducible assumption | (simp [go_sem]; done) | (simp [go_sem, *]; done) | with_reducible refine kdrew ?_ | (with_reducible refine ksame ?_; (simp [go_sem, *]; done)) | with_reducible refine kother ?_ (by simp; try omega) | with_reducible refine kalloc ?_ _)), by (repeat (first | with_reducible assumption | (simp [go_sem]; done) | (simp [go_sem, *]; done) | with_reducible refine kdrew ?_ | (with_reducible refine ksame ?_; (simp [go_sem, *]; done)) | with_reducible refine kother ?_ (by simp; try omega) | with_reducible refine kalloc ?_ _)), by (repeat (first | with_reducible assumption | (simp [go_sem]; done) | (simp [go_sem, *]; done) | with_reducible refine kdrew ?_ | (with_reducible refine ksame ?_; (simp [go_sem, *]; done)) | with_reducible refine kother ?_ (by simp; try omega) | with_reducible refine kalloc ?_ _)), by (repeat (first | with_reducible assumption | (simp [go_sem]; done) | (simp [go_sem, *]; done) | with_reducible refine kdrew ?_ | (with_reducible refine ksame ?_; (simp [go_sem, *]; done)) | with_reducible refine kother ?_ (by simp; try omega) | with_reducible refine kalloc ?_ _)), by (repeat (first | with_reducible assumption | (simp [go_sem]; done) | (simp [go_sem, *]; done) | with_reducible refine kdrew ?_ | (with_reducible refine ksame ?_; (simp [go_sem, *]; done)) | with_reducible refine kother ?_ (by simp; try omega) | with_reducible refine kalloc ?_ _)), by (repeat (first | with_reducible assumption | (simp [go_sem]; done) | (simp [go_sem, *]; done) | with_reducible refine kdrew ?_ | (with_reducible refine ksame ?_; (simp [go_sem, *]; done)) | with_reducible refine kother ?_ (by simp; try omega) | with_reducible refine kalloc ?_ _)), by first | with_reducible assumption | (simp [go_sem, *]; done), by first | with_reducible assumption | (simp [go_sem, *]; done), by first | with_reducible assumption | (simp [go_sem, *]; done), by first | with_reducible assumption | (simp [go_sem, *]; done), by ((try simp); (try omega)), (by (repeat (first | exact hb | apply Below.drew | apply below_drewN | refine Below.setCell ?_ (by have := hb.size; (try simp at this); (try simp); (try omega)) _ | refine Below.alloc ?_ (by have := hb.size; (try simp at this); (try simp); (try omega)) _)))⟩)
          case rest =>
            clear hb
            obtain ⟨g, rfl, rfl, n0, n1, r0, r1, x0, x1, e0, e1, f0, f1, gx, hb⟩ := hcut
            have zn0 : w.heap.size + 1 < wc.heap.size := klt n0
            have zr0 : w.heap.size < wc.heap.size := klt r0
            have zx0 : g < wc.heap.size := klt x0
            go_wp2
            go_roundw
            case rel => exact ⟨k + 1, by omega, by go_num, Lib.hid (by rw [HNV0.out]; exact ho), by rw [HNV0.out, HNV.out]; (repeat (first | with_reducible assumption | (simp [go_sem]; done) | (simp [go_sem, *]; done) | with_reducible refine kdrew ?_ | (with_reducible refine ksame ?_; (simp [go_sem, *]; done)) | with_reducible refine kother ?_ (by simp; try omega) | with_reducible refine kalloc ?_ _)), by rw [HNV0.out, HNV.out]; (repeat (first | with_reducible assumption | (simp [go_sem]; done) | (simp [go_sem, *]; done) | with_reducible refine kdrew ?_ | (with_reducible refine ksame ?_; (simp [go_sem, *]; done)) | with_reducible refine kother ?_ (by simp; try omega) | with_reducible refine kalloc ?_ _)), by (repeat (first | with_reducible assumption | (simp [go_sem]; done) | (simp [go_sem, *]; done) | with_reducible refine kdrew ?_ | (with_reducible refine ksame ?_; (simp [go_sem, *]; done)) | with_reducible refine kother ?_ (by simp; try omega) | with_reducible refine kalloc ?_ _)), by (repeat (first | with_reducible assumption | (simp [go_sem]; done) | (simp [go_sem, *]; done) | with_reducible refine kdrew ?_ | (with_reducible refine ksame ?_; (simp [go_sem, *]; done)) | with_reducible refine kother ?_ (by simp; try omega) | with_reducible refine kalloc ?_ _)), by simp [go_sem, *], by simp [go_sem, *], by simp [go_sem, *], by simp [go_sem, *], (by (repeat (first | exact hb | apply Below.drew | apply below_drewN | refine Below.setCell ?_ (by have := hb.size; (try simp at this); (try simp); (try omega)) _ | refine Below.alloc ?_ (by have := hb.size; (try simp at this); (try simp); (try omega)) _)))⟩
            case measure => simp [intOf]; omega
        · go_upto_region 7 with fail
          go_cut [7] (fun s7 wx => s7 = .bool true ∧ wx.cell? ⟨w.heap.size + 1, 0, none⟩ = some (.int .u64 (hi V)) ∧ wx.cell? ⟨w.heap.size + 1, 1, none⟩ = some (.int .u64 (lo V)) ∧ wx.cell? ⟨w.heap.size, 0, none⟩ = some (.int .u64 0) ∧ wx.cell? ⟨w.heap.size, 1, none⟩ = some (.int .u64 0) ∧ wx.frozen? ⟨w.heap.size, 0, none⟩ = false ∧ wx.frozen? ⟨w.heap.size, 1, none⟩ = false ∧ wx.frozen? ⟨w.heap.size + 1, 0, none⟩ = false ∧ wx.frozen? ⟨w.heap.size + 1, 1, none⟩ = false ∧ Below w.heap.size w wx)
          case first =>
            go_region_held3 (fun w' => w'.cell? ⟨w.heap.size + 1, 0, none⟩ = some (.int .u64 (hi V)) ∧ w'.cell? ⟨w.heap.size + 1, 1, none⟩ = some (.int .u64 (lo V))) (refine ⟨?_, ?_⟩ <;> (repeat (first | with_reducible assumption | (simp [go_sem]; done) | (simp [go_sem, *]; done) | with_reducible refine kdrew ?_ | (with_reducible refine ksame ?_; (simp [go_sem, *]; done)) | with_reducible refine kother ?_ (by simp; try omega) | with_reducible refine kalloc ?_ _)))
              ((rw [if_pos (by rfl)]; refine wp_enter (by go_simp; exact ⟨rfl, rfl⟩) ?_; (first
                | (go_at_call 52; refine (wdigit_any _ _ _ _ v0 v1 v2 v3 d0 (by omega)).mono ?_; rintro e wn ⟨ht, hbn⟩; rw [EN.out] at ht; obtain ⟨_, x, y, rfl⟩ := ht.resolve_left (fun c => by omega); replace e0 : wn.frozen? ⟨w.heap.size, 0, none⟩ = false := frz_later hbn (show World.cell? _ ⟨w.heap.size, 0, none⟩ = some (.int .u64 0) from (by (repeat (first | with_reducible exact r0 | with_reducible refine kalloc ?_ _ | with_reducible refine kdrew ?_ | with_reducible refine kdrewN ?_ _ | with_reducible refine kother ?_ (by simp; try omega))))) (by first | with_reducible assumption | (simp [go_sem, *]; done)); replace e1 : wn.frozen? ⟨w.heap.size, 1, none⟩ = false := frz_later hbn (show World.cell? _ ⟨w.heap.size, 1, none⟩ = some (.int .u64 0) from (by (repeat (first | with_reducible exact r1 | with_reducible refine kalloc ?_ _ | with_reducible refine kdrew ?_ | with_reducible refine kdrewN ?_ _ | with_reducible refine kother ?_ (by simp; try omega))))) (by first | with_reducible assumption | (simp [go_sem, *]; done)); replace f0 : wn.frozen? ⟨w.heap.size + 1, 0, none⟩ = false := frz_later hbn (show World.cell? _ ⟨w.heap.size + 1, 0, none⟩ = some (.int .u64 (hi V)) from (by (repeat (first | with_reducible exact n0 | with_reducible refine kalloc ?_ _ | with_reducible refine kdrew ?_ | with_reducible refine kdrewN ?_ _ | with_reducible refine kother ?_ (by simp; try omega))))) (by first | with_reducible assumption | (simp [go_sem, *]; done)); replace f1 : wn.frozen? ⟨w.heap.size + 1, 1, none⟩ = false := frz_later hbn (show World.cell? _ ⟨w.heap.size + 1, 1, none⟩ = some (.int .u64 (lo V)) from (by (repeat (first | with_reducible exact n1 | with_reducible refine kalloc ?_ _ | with_reducible refine kdrew ?_ | with_reducible refine kdrewN ?_ _ | with_reducible refine kother ?_ (by simp; try omega))))) (by first | with_reducible assumption | (simp [go_sem, *]; done)); replace n0 : wn.cell? ⟨w.heap.size + 1, 0, none⟩ = some (.int .u64 (hi V)) := cell_later hbn (by (repeat (first | with_reducible exact n0 | with_reducible refine kalloc ?_ _ | with_reducible refine kdrew ?_ | with_reducible refine kdrewN ?_ _ | with_reducible refine kother ?_ (by simp; try omega)))); replace n1 : wn.cell? ⟨w.heap.size + 1, 1, none⟩ = some (.int .u64 (lo V)) := cell_later hbn (by (repeat (first | with_reducible exact n1 | with_reducible refine kalloc ?_ _ | with_reducible refine kdrew ?_ | with_reducible refine kdrewN ?_ _ | with_reducible refine kother ?_ (by simp; try omega)))); replace r0 : wn.cell? ⟨w.heap.size, 0, none⟩ = some (.int .u64 0) := cell_later hbn (by (repeat (first | with_reducible exact r0 | with_reducible refine kalloc ?_ _ | with_reducible refine kdrew ?_ | with_reducible refine kdrewN ?_ _ | with_reducible refine kother ?_ (by simp; try omega)))); replace r1 : wn.cell? ⟨w.heap.size, 1, none⟩ = some (.int .u64 0) := cell_later hbn (by (repeat (first | with_reducible exact r1 | with_reducible refine kalloc ?_ _ | with_reducible refine kdrew ?_ | with_reducible refine kdrewN ?_ _ | with_reducible refine kother ?_ (by simp; try omega)))); have zn0 : w.heap.size + 1 < wn.heap.size := klt n0; have zr0 : w.heap.size < wn.heap.size := klt r0; replace hb := (show Below w.heap.size w _ from by (repeat (first | exact hb | apply Below.drew | apply below_drewN | refine Below.setCell ?_ (by have := hb.size; (try simp at this); (try simp); (try omega)) _ | refine Below.alloc ?_ (by have := hb.size; (try simp at this); (try simp); (try omega)) _))).trans (hbn.mono (by have := hb.size; (try simp at this); (try simp); (try omega))); obtain ⟨hcn, hfn⟩ := bcell hbn; (try (have hsr := Nat.lt_of_lt_of_le hsq hbn.size)); (try (have hsq := Nat.lt_of_lt_of_le hsy hbn.size)); have hsz := hbn.size; (try simp at hsz); (try (have hsy := Nat.lt_of_succ_le hsz)); clear hbn; refine ⟨_, rfl, ?_⟩))))
            all_goals (go_wp2_with fail; go_meet; exact ⟨rfl, by (repeat (first | with_reducible assumption | (simp [go_sem]; done) | (simp [go_sem, *]; done) | with_reducible refine kdrew ?_ | (with_reducible refine ksame ?_; (simp [go_sem, *]; done)) | with_reducible refine kother ?_ (by simp; try omega) | with_reducible refine kalloc ?_ _)), by (repeat (first | with_reducible assumption | (simp [go_sem]; done) | (simp [go_sem, *]; done) | with_reducible refine kdrew ?_ | (with_reducible refine ksame ?_; (simp [go_sem, *]; done)) | with_reducible refine kother ?_ (by simp; try omega) | with_reducible refine kalloc ?_ _)), by (repeat (first | with_reducible assumption | (simp [go_sem]; done) | (simp [go_sem, *]; done) | with_reducible refine kdrew ?_ | (with_reducible refine ksame ?_; (simp [go_sem, *]; done)) | with_reducible refine kother ?_ (by simp; try omega) | with_reducible refine kalloc ?_ _)), by (repeat (first | with_reducible assumption | (simp [go_sem]; done) | (simp [go_sem, *]; done) | with_reducible refine kdrew ?_ | (with_reducible refine ksame ?_; (simp [go_sem, *]; done)) | with_reducible refine kother ?_ (by simp; try omega) | with_reducible refine kalloc ?_ _)), by first | with_reducible assumption | (simp [go_sem, *]; done), by first | with_reducible assumption | (simp [go_sem, *]; done), by first | with_reducible assumption | (simp [go_sem, *]; done), by first | with_reducible assumption | (simp [go_sem, *]; done), (by (repeat (first | exact hb | apply Below.drew | apply below_drewN | refine Below.setCell ?_ (by have := hb.size; (try simp at this); (try simp); (try omega)) _ | refine Below.alloc ?_ (by have := hb.size; (try simp at this); (try simp); (try omega)) _)))⟩)
          case rest =>
            clear hb
            obtain ⟨rfl, n0, n1, r0, r1, e0, e1, f0, f1, hb⟩ := hcut
            have zn0 : w.heap.size + 1 < wc.heap.size := klt n0
            have zr0 : w.heap.size < wc.heap.size := klt r0
            go_wp2
            refine bodyPost_ret (v := .tuple #[.agg #[.int .u64 0, .int .u64 0], .int .i64 8]) (by simp [results, Try.results14, go_sem, r0, r1]) rfl ⟨.inr (.inl ⟨HD.out, by have := HM.out; rw [HNV0.out] at this; omega, rfl⟩), (by (repeat (first | exact hb | apply Below.drew | apply below_drewN | refine Below.setCell ?_ (by have := hb.size; (try simp at this); (try simp); (try omega)) _ | refine Below.alloc ?_ (by have := hb.size; (try simp at this); (try simp); (try omega)) _)))⟩
      · have hke : k = s.size := by omega
        have HF := Lib.hid (show ParseTo s (.returned (.tuple #[.agg #[.int .u64 (hi V), .int .u64 (lo V)], .int .i64 0])) from .inl (by rw [hke] at hV; rw [hV]; exact ⟨HD.out, V1, rfl⟩))
        clear hm hNV0 hd hV hke d0 d9 hlt0
        go_wp2
        refine bodyPost_ret (v := .tuple #[.agg #[.int .u64 (hi V), .int .u64 (lo V)], .int .i64 0]) (by simp [results, Try.results14, go_sem, r0, r1]) rfl ⟨HF.out, (by (repeat (first | exact hb | apply Below.drew | apply below_drewN | refine Below.setCell ?_ (by have := hb.size; (try simp at this); (try simp); (try omega)) _ | refine Below.alloc ?_ (by have := hb.size; (try simp at this); (try simp); (try omega)) _)))⟩
  · have HD := Lib.hid hdec; clear hdec
    go_enter Try.func14, Try.ntmps14
    go_wp2_with (go_at_call 51; refine (wdecimal_any _ _ hs).mono ?_; rintro e w1 ⟨ht, rfl⟩; obtain ⟨_, rfl⟩ : ¬ decT s ∧ e = .returned (.bool false) := (ht.resolve_left (fun c => HD.out c.1)))
    refine bodyPost_ret (v := .tuple #[.agg #[.int .u64 0, .int .u64 0], .int .i64 9]) (by simp [results, Try.results14, go_sem]) rfl ⟨.inr (.inr ⟨HD.out, rfl⟩), (Below.refl _ _).alloc (Nat.le_refl _) _⟩
end Go.Proofs.Ytgjfigjebojjdaa
