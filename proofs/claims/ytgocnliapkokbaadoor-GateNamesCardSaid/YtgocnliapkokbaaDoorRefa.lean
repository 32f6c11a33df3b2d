/- The document's answers of layer 1: a number's digits of sixteen bits, and the number of such digits. -/
import Derived.Test.YtgocnliapkokbaaDoorWide
import Derived.Test.YtgocnliapkokbaaDoorDigs
import Derived.Laws.AppendOwn
import Derived.Laws.OwnMore
import Derived.LoopTactic
import Derived.Deep.LoopGhost
import Derived.Deep.OwnRows
namespace Go.Proofs.YtgocnliapkokbaaDoor
open Go.ChangeShapes Go.WideShapes Go.ChangeAt Go.RowKit Kn
set_option linter.unusedVariables false
def digs (h l : Int) (k : Nat) : List Value := (List.range k).map fun j => .int .i64 (dg h l j)
theorem digs_len (h l : Int) (k : Nat) : (digs h l k).length = k := by simp [digs]
theorem digs_succ (h l : Int) (k : Nat) : digs h l (k + 1) = digs h l k ++ [.int .i64 (dg h l k)] := by simp [digs, List.range_succ]
theorem infoInt : (Tryd.prog.info? 3).map (fun i => (i.zero, i.size, i.bytes)) = some (some (.int .i64 0), 1, 8) := by kernel_rfl
theorem dg_tmod (x : Int) (h : 0 ≤ x) : wrap64 (x.tmod 65536) = x % 65536 := by
  rw [Int.tmod_eq_emod_of_nonneg h]; unfold wrap64; omega
theorem dg_lo (h l : Int) (k : Nat) (l0 : 0 ≤ l) (hk : k < 4) : wrap64 ((l / 2 ^ (16 * k)).tmod 65536) = dg h l k := by
  rw [dg_tmod _ (Int.ediv_nonneg l0 (Int.le_of_lt (Int.pow_pos (by decide))))]; unfold dg; rw [if_pos hk]
theorem dg_hi (h l : Int) (k : Nat) (h0 : 0 ≤ h) : wrap64 ((h / 2 ^ (16 * k)).tmod 65536) = dg h l (4 + k) := by
  rw [dg_tmod _ (Int.ediv_nonneg h0 (Int.le_of_lt (Int.pow_pos (by decide))))]; unfold dg; rw [if_neg (by omega), show 4 + k - 4 = k by omega]
set_option maxHeartbeats 1600000 in
set_option maxRecDepth 1000000 in
theorem digits_any (h l : Int) (w : World) (h0 : 0 ≤ h) (h1 : h ≤ 18446744073709551615) (l0 : 0 ≤ l) (l1 : l ≤ 18446744073709551615) :
    Calls Tryd.prog 34 #[.agg #[.int .u64 h, .int .u64 l]] w fun e w' => ∃ v, e = .returned v ∧ w'.ownsRow (w.heap.size + 1) 3 1 v 8 (digs h l 8) ∧ Below w.heap.size w w' := by
  obtain ⟨i0, hi, hz0, hz1, hz2⟩ := info_parts infoInt
  go_enter Tryd.func34, Tryd.ntmps34
  go_wp2
  go_loopw [3, 4] (fun v i wr => ∃ k : Nat, k ≤ 4 ∧ i = .int .i64 k ∧ wr.ownsRow (w.heap.size + 1) 3 1 v k (digs h l k) ∧ Below (w.heap.size + 1) (w.alloc (.cells #[.int .u64 h, .int .u64 l] 53)) wr)
    (fun _ i _ => 4 - (intOf i).toNat)
  case atStart => exact ⟨0, Nat.zero_le _, rfl, World.ownsRow_nil _ _ _ _, Below.refl _ _⟩
  case round =>
    obtain ⟨k, hk, rfl, hown, hnx⟩ := hrel
    have hc0 : wr.cell? ⟨w.heap.size, 0, none⟩ = some (.int .u64 h) := (hnx.cell (by simp)).trans (World.cell?_alloc_at _ _ _ _ rfl)
    have hc1 : wr.cell? ⟨w.heap.size, 1, none⟩ = some (.int .u64 l) := (hnx.cell (by simp)).trans (World.cell?_alloc_at _ _ _ _ rfl)
    have hsz := hnx.size
    simp at hsz
    by_cases hlt : k < 4
    · go_wp2_with (at_builtin; refine wpList_append_own _ rfl _ _ 59 rfl (w.heap.size + 1) 3 i0 (.int .i64 0) 1 8 Tryd.underlying59 hi hz0 hz1 hz2 rfl (by decide) _ _ _ rfl (hown.alloc _) ⟨wr.heap.size, 0, none⟩ 1 1 [.int .i64 (dg h l k)] rfl rfl ?c1 ?c2 ?c3 ?c4 ?c5 ?_)
      case c1 =>
        intro j u hj
        match j, hj with
        | 0, hj => simp at hj; subst hj; simp [Addr.add]; exact dg_lo h l k l0 hlt
      case c2 => intro u hu; simp at hu; subst hu; rfl
      case c3 => unfold maxLen; omega
      case c4 => omega
      case c5 => simp; omega
      intro v' w1 hown' hgrow _
      have hnx' := (hnx.alloc (by omega) _).grown hgrow (by simp; omega) (fun q hq => (hown.lt q hq).1)
      rw [← digs_succ] at hown'
      clear hgrow hown hnx
      go_wp2
      go_roundw
      case rel => exact ⟨k + 1, by omega, by go_num, hown', hnx'⟩
      case measure => simp [intOf]; omega
    · have hk4 : k = 4 := by omega
      rw [hk4] at hown
      clear hc0 hc1 hsz hk4
      obtain ⟨wo, rfl⟩ : ∃ wo : World, wo = wr := ⟨_, rfl⟩
      go_wp2
      go_loopw [3, 5] (fun v i wr => ∃ k : Nat, k ≤ 4 ∧ i = .int .i64 k ∧ wr.ownsRow (w.heap.size + 1) 3 1 v (4 + k) (digs h l (4 + k)) ∧ Below (w.heap.size + 1) (w.alloc (.cells #[.int .u64 h, .int .u64 l] 53)) wr)
        (fun _ i _ => 4 - (intOf i).toNat)
      case atStart => exact ⟨0, Nat.zero_le _, rfl, hown, hnx⟩
      case round =>
        clear hown hnx
        obtain ⟨k, hk, rfl, hown, hnx⟩ := hrel
        have hc0 : wr.cell? ⟨w.heap.size, 0, none⟩ = some (.int .u64 h) := (hnx.cell (by simp)).trans (World.cell?_alloc_at _ _ _ _ rfl)
        have hc1 : wr.cell? ⟨w.heap.size, 1, none⟩ = some (.int .u64 l) := (hnx.cell (by simp)).trans (World.cell?_alloc_at _ _ _ _ rfl)
        have hsz := hnx.size
        simp at hsz
        by_cases hlt : k < 4
        · go_wp2_with (at_builtin; refine wpList_append_own _ rfl _ _ 59 rfl (w.heap.size + 1) 3 i0 (.int .i64 0) 1 8 Tryd.underlying59 hi hz0 hz1 hz2 rfl (by decide) _ _ _ rfl (hown.alloc _) ⟨wr.heap.size, 0, none⟩ 1 1 [.int .i64 (dg h l (4 + k))] rfl rfl ?c1 ?c2 ?c3 ?c4 ?c5 ?_)
          case c1 =>
            intro j u hj
            match j, hj with
            | 0, hj => simp at hj; subst hj; simp [Addr.add]; exact dg_hi h l k h0
          case c2 => intro u hu; simp at hu; subst hu; rfl
          case c3 => unfold maxLen; omega
          case c4 => omega
          case c5 => simp; omega
          intro v' w1 hown' hgrow _
          have hnx' := (hnx.alloc (by omega) _).grown hgrow (by simp; omega) (fun q hq => (hown.lt q hq).1)
          rw [← digs_succ] at hown'
          clear hgrow hown hnx
          go_wp2
          go_roundw
          case rel => exact ⟨k + 1, by omega, by go_num, hown', hnx'⟩
          case measure => simp [intOf]; omega
        · have hk4 : k = 4 := by omega
          rw [hk4] at hown
          clear hk4
          go_wp2
          go_ret
          exact ⟨_, rfl, hown, ((Below.refl _ _).alloc (Nat.le_refl _) _).trans (hnx.mono (by omega))⟩
/-- Block g holds eight digits (and perhaps more behind them). -/
def Row (w : World) (g : Nat) (f : Nat → Int) : Prop := ∃ (c : Nat) (F : Nat → Value), 8 ≤ c ∧ w.rowIs g 3 c F ∧ ∀ i, i < 8 → F i = .int .i64 (f i)
namespace Row
variable {w : World} {g : Nat} {f : Nat → Int}
theorem cell (h : Row w g f) {i : Nat} (hi : i < 8) : w.cell? ⟨g, i, none⟩ = some (.int .i64 (f i)) := by
  obtain ⟨c, F, h8, hr, hF⟩ := h
  rw [hr.cell (by omega), hF i hi]
theorem frozen (h : Row w g f) (i : Nat) : w.frozen? ⟨g, i, none⟩ = false := by
  obtain ⟨c, F, h8, hr, hF⟩ := h
  exact hr.frozen i
theorem lt (h : Row w g f) : g < w.heap.size := by
  obtain ⟨c, F, h8, hr, hF⟩ := h
  exact hr.lt
theorem congr {k : Nat → Int} (h : Row w g f) (e : ∀ i, i < 8 → f i = k i) : Row w g k := by
  obtain ⟨c, F, h8, hr, hF⟩ := h
  exact ⟨c, F, h8, hr, fun i hi => by rw [hF i hi, e i hi]⟩
theorem below {w' : World} {B : Nat} (h : Row w g f) (hb : Below B w w') (hg : g < B) : Row w' g f := by
  obtain ⟨c, F, h8, hr, hF⟩ := h
  exact ⟨c, F, h8, hr.of_block (hb.block g hg), hF⟩
theorem alloc (h : Row w g f) (o : Obj) : Row (w.alloc o) g f := by
  obtain ⟨c, F, h8, hr, hF⟩ := h
  exact ⟨c, F, h8, hr.alloc o, hF⟩
theorem drew (h : Row w g f) : Row w.drew g f := h
theorem set (h : Row w g f) (i : Nat) (x : Int) : Row (w.setCell ⟨g, i, none⟩ (.int .i64 x)) g (fun j => if j = i then x else f j) := by
  obtain ⟨c, F, h8, hr, hF⟩ := h
  refine ⟨c, _, h8, hr.set i _, fun j hj => ?_⟩
  simp only
  split
  · rfl
  · exact hF j hj
theorem setOther (h : Row w g f) {a : Addr} (ha : g ≠ a.block) (v : Value) : Row (w.setCell a v) g f := by
  obtain ⟨c, F, h8, hr, hF⟩ := h
  exact ⟨c, F, h8, hr.setOther ha v, hF⟩
end Row
theorem row_of_owns {w : World} {B : Nat} {v : Value} {h l : Int} (ho : w.ownsRow B 3 1 v 8 (digs h l 8)) : ∃ g c, v = .slice (some ⟨g, 0, none⟩) 8 c ∧ B ≤ g ∧ Row w g (dg h l) := by
  rcases ho.2 with ⟨_, h0⟩ | ⟨g, cap, cur, hv, hb, hg, hn, hm, hs, ht⟩
  · omega
  · refine ⟨g, cap, hv, hb, cap, fun i => (cur[i]?).getD (.int .i64 0), hn, ⟨cur, hg, by omega, fun i hi => ?_⟩, fun i hi => ?_⟩
    · show cur[i]? = some ((cur[i]?).getD (.int .i64 0))
      rw [Array.getElem?_eq_getElem (by omega)]; rfl
    · have e : (cur.toList.take (8 * 1))[i]? = some (.int .i64 (dg h l i)) := by
        rw [ht]; unfold digs; rw [List.getElem?_map, List.getElem?_range (by omega)]; rfl
      rw [List.getElem?_take, if_pos (by omega), Array.getElem?_toList] at e
      show (cur[i]?).getD _ = _
      rw [e]; rfl
/-- What 'Digits' answers. -/
theorem digits_row (h l : Int) (w : World) (h0 : 0 ≤ h) (h1 : h ≤ 18446744073709551615) (l0 : 0 ≤ l) (l1 : l ≤ 18446744073709551615) :
    Calls Tryd.prog 34 #[.agg #[.int .u64 h, .int .u64 l]] w fun e w' => ∃ g c, e = .returned (.slice (some ⟨g, 0, none⟩) 8 c) ∧ w.heap.size < g ∧ Row w' g (dg h l) ∧ Below w.heap.size w w' :=
  (digits_any h l w h0 h1 l0 l1).mono fun e w' ⟨v, hv, ho, hb⟩ => by
    obtain ⟨g, c, rfl, hg, hr⟩ := row_of_owns ho
    exact ⟨g, c, hv, by omega, hr, hb⟩
end Go.Proofs.YtgocnliapkokbaaDoor
