/- slices.Index, Contains, Reverse of a list of numbers of the call's own. -/
import Derived.Test.YtgjfigjebojjdaaProg
import Derived.Test.YtgjfigjebojjdaaBlk
import Derived.Test.YtgjfigjebojjdaaBlkb
import Derived.WalkKit
import Derived.IntWalk
import Derived.Lib.Hide
import Derived.BigRegion
namespace Go.Proofs.Ytgjfigjebojjdaa
open Go.RowKit
set_option linter.unusedVariables false
def ints (l : List Nat) : List Value := l.map fun x : Nat => Value.int .i64 (x : Int)
/-- What Index tells: a place just if i is there. -/
def Found (l : List Nat) (i : Nat) (w : World) (e : Ending) (w' : World) : Prop := ∃ z : Int, (0 ≤ z ↔ i ∈ l) ∧ -1 ≤ z ∧ z ≤ 1000000 ∧ e = .returned (.int .i64 z) ∧ w = w'
theorem ints_at {base : Nat} {Al : Option Addr} {k cl : Nat} {l : List Nat} {w : World} (ho : w.ownsRow base 3 1 (.slice Al k cl) k (ints l)) {j : Nat} (hj : j < k) :
    ∃ g, Al = some ⟨g, 0, none⟩ ∧ base ≤ g ∧ g < w.heap.size ∧ ∃ x, l[j]? = some x ∧ w.cell? ⟨g, j, none⟩ = some (.int .i64 (x : Int)) := by
  obtain ⟨g, c, e, hb, hg⟩ := own_at ho (by omega)
  simp only [Value.slice.injEq] at e
  obtain ⟨rfl, -, rfl⟩ := e
  have hl : l.length = k := by have := ho.1; simpa [ints] using this
  have hx : l[j]? = some (l[j]'(by omega)) := List.getElem?_eq_getElem (by omega)
  exact ⟨g, rfl, hb, hg, _, hx, (ho.cellAt j (by omega)).trans (by unfold ints; rw [List.getElem?_map, hx]; rfl)⟩
set_option maxHeartbeats 1000000 in
theorem index_any {base : Nat} {Al : Option Addr} {k cl : Nat} {l : List Nat} (i : Nat) (w : World) (ho : w.ownsRow base 3 1 (.slice Al k cl) k (ints l)) (hk : k ≤ 1000000) :
    Calls Try.prog 63 #[.slice Al k cl, .int .i64 (i : Int)] w (Found l i w) := by
  have hl : l.length = k := by have := ho.1; simpa [ints] using this
  have HL := Lib.hid hl
  have HO := Lib.hid ho
  clear hl ho
  go_enter Try.func63, Try.ntmps63
  go_wp2
  go_loop [8] (fun s => ∃ j : Nat, j ≤ k ∧ s = .int .i64 j ∧ Hid (∀ x, x < j → l[x]? ≠ some i)) (fun s => k - (intOf s).toNat)
  case atStart => exact ⟨0, Nat.zero_le _, rfl, Lib.hid (fun x hx => absurd hx (Nat.not_lt_zero x))⟩
  case round =>
    obtain ⟨j, hj, rfl, hn⟩ := hrel
    by_cases hlt : j < k
    · obtain ⟨g, rfl, hb, hg, x, hx, hc⟩ := ints_at HO.out hlt
      by_cases he : x = i
      · subst he
        have HF := Lib.hid (show Found l x w (.returned (.int .i64 (j : Int))) w from ⟨_, ⟨fun _ => List.mem_of_getElem? hx, fun _ => by omega⟩, by omega, by omega, rfl, rfl⟩)
        clear hx
        go_wp2
        go_ret
        exact HF.out
      · have hne : ((i : Int) == (x : Int)) = false := beq_eq_false_iff_ne.2 (by omega)
        have HN := Lib.hid (show ∀ y, y < j + 1 → l[y]? ≠ some i from fun y hy c => by
          by_cases e : y = j
          · subst e; rw [hx] at c; exact he (by simpa using c)
          · exact hn.out y (by omega) c)
        clear hx he hn
        go_wp2
        go_round
        case rel => exact ⟨j + 1, by omega, by go_num, HN⟩
        case measure => simp [intOf]; omega
    · have hjk : j = k := by omega
      have HF := Lib.hid (show Found l i w (.returned (.int .i64 (-1))) w from ⟨_, ⟨fun c => by omega, fun c => by
        obtain ⟨y, hy⟩ := List.getElem?_of_mem c
        have : y < l.length := by
          rcases Nat.lt_or_ge y l.length with h | h
          · exact h
          · rw [List.getElem?_eq_none h] at hy; cases hy
        exact absurd hy (hn.out y (by have := HL.out; omega))⟩, by omega, by omega, rfl, rfl⟩)
      clear hjk hn
      go_wp2
      go_ret
      exact HF.out
set_option maxHeartbeats 1000000 in
theorem contains_any {base : Nat} {Al : Option Addr} {k cl : Nat} {l : List Nat} (i : Nat) (w : World) (ho : w.ownsRow base 3 1 (.slice Al k cl) k (ints l)) (hk : k ≤ 1000000) :
    Calls Try.prog 42 #[.slice Al k cl, .int .i64 (i : Int)] w fun e w' => e = .returned (.bool (decide (i ∈ l))) ∧ w = w' := by
  have HO := Lib.hid ho
  clear ho
  go_enter Try.func42, Try.ntmps42
  go_wp2_with fail
  refine (index_any i w HO.out hk).mono ?_
  rintro e w1 ⟨z, hz, z0, z1, rfl, rfl⟩
  have HZ := Lib.hid hz
  clear hz
  by_cases h : 0 ≤ z
  · have E1 := Lib.hid (decide_eq_true (HZ.out.1 h))
    go_wp2
    go_ret
    rw [E1.out]
    exact ⟨rfl, rfl⟩
  · have E1 := Lib.hid (decide_eq_false (fun c => h (HZ.out.2 c)))
    have hd : decide (0 ≤ z) = false := decide_eq_false h
    go_wp2
    go_ret
    rw [E1.out]
    exact ⟨rfl, rfl⟩
theorem int_eq {x y : Int} (h : x = y) : Value.int .i64 x = Value.int .i64 y := by rw [h]
/-- So far turned: i places from either end. -/
def turned (l : List Nat) (k i x : Nat) : Nat := if x < i ∨ k ≤ x + i then l.getD (k - 1 - x) 0 else l.getD x 0
set_option maxRecDepth 100000 in
set_option maxHeartbeats 4000000 in
theorem reverse_any {base : Nat} {Al : Option Addr} {k cl : Nat} {l : List Nat} (w : World) (ho : w.ownsRow base 3 1 (.slice Al k cl) k (ints l)) (hk : k ≤ 1000000) (hbw : base ≤ w.heap.size) :
    Calls Try.prog 43 #[.slice Al k cl] w fun e w' => e = .returned (.tuple #[]) ∧ w'.ownsRow base 3 1 (.slice Al k cl) k (ints l.reverse) ∧ Kept (fun g => base ≤ g ∧ ∃ cs, Blk w g 3 cs) w w' := by
  have hl : l.length = k := by have := ho.1; simpa [ints] using this
  rcases Nat.eq_zero_or_pos k with h0 | h0
  · subst h0
    obtain rfl : l = [] := List.eq_nil_of_length_eq_zero hl
    have HO := Lib.hid ho
    clear ho hl
    go_enter Try.func43, Try.ntmps43
    go_wp2
    refine wp_loop_rounds 1 ?_
    rw [rounds_succ]
    go_wp2
    first | go_end0 | skip
    exact ⟨rfl, HO.out, Kept.refl _ _⟩
  · rcases ho.2 with ⟨_, c⟩ | ⟨g, cap, cur, hv, hb, hg, hkc, hcm, hcz, htk⟩
    · omega
    · simp only [Value.slice.injEq, true_and] at hv
      obtain ⟨rfl, rfl⟩ := hv
      have hblk : Blk w g 3 cur := hg
      have hsz : cur.size = cl := by omega
      have hcells : ∀ x, x < k → cur[x]? = some (.int .i64 (l.getD x 0 : Int)) := fun x hx => by
        have h1 : (cur.toList.take (k * 1))[x]? = (ints l)[x]? := by rw [htk]
        rw [List.getElem?_take_of_lt (by omega)] at h1
        have h2 : (ints l)[x]? = some (.int .i64 (l.getD x 0 : Int)) := by
          unfold ints
          rw [List.getElem?_map, List.getElem?_eq_getElem (by omega), List.getD_eq_getElem?_getD, List.getElem?_eq_getElem (by omega)]
          rfl
        rw [h2] at h1
        simpa using h1
      have HB := Lib.hid hblk
      have HC := Lib.hid hcells
      have HL := Lib.hid hl
      have HZ := Lib.hid hsz
      have hgw := hblk.size
      clear ho hg htk hblk hcells hl hsz hcz
      go_enter Try.func43, Try.ntmps43
      go_wp2
      go_loopw [2, 3] (fun s2 s3 wr => ∃ (i : Nat) (cs : Array Value), i ≤ k ∧ s2 = .int .i64 i ∧ s3 = .int .i64 ((k : Int) - 1 - i) ∧ Blk wr g 3 cs ∧ cs.size = cl ∧ Hid (∀ x, x < k → cs[x]? = some (.int .i64 (turned l k i x : Int))) ∧ 2 * i ≤ k + 1 ∧ Kept (fun y => y = g) w wr) (fun s2 _ _ => k - (intOf s2).toNat)
      case atStart => exact ⟨0, cur, Nat.zero_le _, rfl, by simp, HB.out, HZ.out, Lib.hid (fun x hx => by rw [HC.out x hx]; unfold turned; rw [if_neg (by omega)]), by omega, Kept.refl _ _⟩
      case round =>
        obtain ⟨i, cs, hi, rfl, rfl, hbl, hcz, hcs, h2, hkp⟩ := hrel
        by_cases hlt : (i : Int) < (k : Int) - 1 - i
        · obtain ⟨j, hj⟩ : ∃ j : Nat, (k : Int) - 1 - i = (j : Int) := ⟨k - 1 - i, by omega⟩
          have hij : i < j := by omega
          have hjk : j < k := by omega
          have c1 := hbl.val (hcs.out i (by omega))
          have c2 := hbl.val (hcs.out j (by omega))
          have z1 := hbl.free i
          have z2 := hbl.free j
          have hne : i ≠ j := by omega
          have hne' : j ≠ i := by omega
          obtain ⟨u, hu⟩ : ∃ u, turned l k i i = u := ⟨_, rfl⟩
          obtain ⟨v, hv⟩ : ∃ v, turned l k i j = v := ⟨_, rfl⟩
          rw [hu] at c1
          rw [hv] at c2
          rw [hj] at hlt ⊢
          have HJ := Lib.hid hj
          have HU := Lib.hid hu
          have HV := Lib.hid hv
          have HBL := Lib.hid hbl
          have HCZ := Lib.hid hcz
          clear hj hu hv hbl hcz
          go_wp2
          go_region
          all_goals (try go_wp2)
          all_goals go_roundw
          case rel =>
            refine ⟨i + 1, _, by omega, by go_num, int_eq (by have := HJ.out; omega), ((HBL.out.set_ i _).set_ j _).drew_, by simp [HCZ.out], Lib.hid (fun x hx => ?_), by have := HJ.out; omega, ((hkp.set_ (.inl rfl) _).set_ (.inl rfl) _).drew_⟩
            have hJ := HJ.out
            have hU := HU.out
            have hV := HV.out
            unfold turned at hU hV ⊢
            rw [if_neg (by omega)] at hU hV
            have hszk : k ≤ cs.size := by rw [HCZ.out]; exact hkc
            by_cases e1 : x = j
            · subst e1
              rw [get_set_same (by simp; omega), if_pos (by omega), ← hU, show k - 1 - x = i by omega]
            · rw [get_set_far (fun c => e1 c.symm)]
              by_cases e2 : x = i
              · subst e2
                rw [get_set_same (by omega), if_pos (by omega), ← hV, show k - 1 - x = j by omega]
              · rw [get_set_far (fun c => e2 c.symm), hcs.out x hx]
                unfold turned
                by_cases e3 : x < i ∨ k ≤ x + i
                · rw [if_pos e3, if_pos (by omega)]
                · rw [if_neg e3, if_neg (by omega)]
          case measure => simp [intOf]; omega
        · have HBL := Lib.hid hbl
          have HCZ := Lib.hid hcz
          clear hbl hcz
          go_wp2
          first | go_end0 | skip
          refine ⟨rfl, ⟨by simp [ints, HL.out], .inr ⟨g, cl, cs, rfl, hb, HBL.out, hkc, hcm, by rw [HCZ.out]; omega, ?_⟩⟩, hkp.more (fun y hy c => by subst c; exact ⟨hb, cur, HB.out⟩)⟩
          have hL := HL.out
          have hszk : k ≤ cs.size := by rw [HCZ.out]; exact hkc
          apply List.ext_getElem?
          intro x
          by_cases hx : x < k
          · rw [List.getElem?_take_of_lt (by omega)]
            have h1 := hcs.out x hx
            unfold ints
            rw [List.getElem?_map, List.getElem?_reverse (by omega), hL]
            rw [Array.getElem?_toList, h1]
            unfold turned
            have e5 : l[k - 1 - x]? = some (l.getD (k - 1 - x) 0) := by rw [List.getD_eq_getElem?_getD, List.getElem?_eq_getElem (by omega)]; rfl
            rw [e5]
            by_cases e3 : x < i ∨ k ≤ x + i
            · rw [if_pos e3]; rfl
            · rw [if_neg e3, show k - 1 - x = x by omega]; rfl
          · rw [List.getElem?_eq_none (by simp; omega), List.getElem?_eq_none (by simp [ints]; omega)]
end Go.Proofs.Ytgjfigjebojjdaa
