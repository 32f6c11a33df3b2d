/- Rows that are the document's are found alike. -/
import Derived.Test.YtgjfigjebojjdaaDrefe
namespace Go.Proofs.Ytgjfigjebojjdaa
open Go.RowKit Go.Shelf
set_option linter.unusedVariables false
theorem below_dN {B : Nat} {w w' : World} (h : Below B w w') (n : Nat) : Below B w (w'.drewN n) := ⟨h.os, h.tape, h.output, h.size, h.block⟩
theorem ends_of {l : List Nat} (h : 0 < l.length) : ∃ x y, l[0]? = some x ∧ l[l.length - 1]? = some y ∧ hdE l = x ∧ laE l = y ∧ neE l = true :=
  ⟨l[0], l[l.length - 1], List.getElem?_eq_getElem h, List.getElem?_eq_getElem (by omega), hdE_eq h, laE_eq h, neE_pos h⟩
set_option maxRecDepth 100000 in
set_option maxHeartbeats 8000000 in
theorem like_any {base p a b q g N cap M : Nat} {L : Nat → List Nat} {v : Nat → Value} {ub : Int} (w : World) (hd : RowsL w p a b N M L ub) (hr : RefAt w base q g N cap M L v) (hM : M ≤ 1024) :
    Calls Try.prog 39 #[.pointer (some ⟨p, 0, none⟩), .pointer (some ⟨q, 0, none⟩), .int .i64 (N : Int)] w fun e w' => e = .returned (.bool true) ∧ Below w.heap.size w w' := by
  have n8 := hr.n8
  have ⟨hp1, hp2, hp3⟩ := hd.lts
  have HL := Lib.hid hd.lists
  have HD := Lib.hid hd
  have HR := Lib.hid hr
  clear hd hr
  go_enter Try.func39, Try.ntmps39
  go_wp2
  go_loopw [7] (fun s7 wr => ∃ j : Nat, j ≤ N + 2 ∧ s7 = .int .i64 ((j : Int) - 1) ∧ Below w.heap.size w wr) (fun s _ => ((N : Int) + 1 - intOf s).toNat)
  case atStart => exact ⟨0, by omega, rfl, Below.refl _ _⟩
  case round =>
    obtain ⟨j, hj, rfl, hbr⟩ := hrel
    have hzr := hbr.size
    by_cases hlt : j ≤ N + 1
    · obtain ⟨l, hl⟩ : ∃ l, rowE N L ((j : Int) - 1) = l := ⟨_, rfl⟩
      have hlen : l.length ≤ 1024 := by
        rw [← hl]; unfold rowE
        by_cases c : (j : Int) - 1 < 0 ∨ (N : Int) ≤ (j : Int) - 1
        · rw [if_pos c]; simp
        · rw [if_neg c]; have := HL.out.len (r := ((j : Int) - 1).toNat) (by omega); omega
      have HLE := Lib.hid hl
      clear hl
      have H1 := Lib.hid (RowsAt.below HD.out hbr hp1 hp2 hp3)
      have R1 := Lib.hid (HR.out.below hbr)
      have hj1 : (j : Int) - 1 ≤ (N : Int) := by omega
      go_wp2_with fail
      refine (rrow_fwd _ _ R1.out HL.out hM).mono ?_
      rintro e w1 ⟨v1, rfl, ho1, hb1⟩
      rw [HLE.out] at ho1
      obtain ⟨A1, c1, rfl⟩ := own_form ho1
      have O1 := Lib.hid ho1
      have hz1 := hb1.size
      have B1 := Lib.hid hb1
      clear ho1 hb1
      go_wp2_with fail
      refine (all_made _ _ _ _).mono ?_
      rintro e w2 ⟨rfl, hA, hb2, hz2⟩
      have HA := Lib.hid hA
      have B2 := Lib.hid hb2
      have hz2' : w1.heap.size ≤ w2.heap.size := by omega
      have Z2 := Lib.hid hz2
      clear hA hb2 hz2
      go_wp2_with fail
      refine (collect_any_ ((j : Int) - 1) (back := false) _ (RowsAt.below (RowsAt.below H1.out B1.out (by omega) (by omega) (by omega)) B2.out (by omega) (by omega) (by omega)) hM (by rw [Z2.out]; omega) HA.out).mono ?_
      rintro e w3 ⟨v3, rfl, ho3, hb3⟩
      rw [HLE.out] at ho3
      obtain ⟨A3, c3, rfl⟩ := own_form ho3
      have O3 := Lib.hid ho3
      have B3 := Lib.hid hb3
      have hz3 := hb3.size
      have O1b := Lib.hid (own_below (own_below O1.out B2.out) B3.out)
      clear ho3 hb3 HA Z2
      go_wp2_with fail
      refine (equal_same _ O3.out O1b.out (by omega)).mono ?_
      rintro e w4 ⟨rfl, n4, rfl⟩
      have hbw3 : Below wr.heap.size wr (w3.drewN n4) := below_dN (B1.out.trans ((B2.out.mono hz1).trans (B3.out.mono (by omega)))) n4
      have BW3 := Lib.hid hbw3
      have hzw : wr.heap.size ≤ w3.heap.size := by omega
      have H4 := Lib.hid (RowsAt.below H1.out hbw3 (by omega) (by omega) (by omega))
      have R4 := Lib.hid (R1.out.below hbw3)
      have O4 := Lib.hid (own_drewN O1b.out n4)
      clear hbw3 O3 O1 O1b B1 B2 B3 hz1 hz2' hz3
      obtain ⟨W4, hW4⟩ : ∃ W4, w3.drewN n4 = W4 := ⟨_, rfl⟩
      have hzW : W4.heap.size = w3.heap.size := by rw [← hW4]; rfl
      rw [hW4] at BW3 H4 R4 O4 ⊢
      have HW4 := Lib.hid hW4
      have hzw4 : wr.heap.size ≤ W4.heap.size := by omega
      clear hW4 hzW hzw
      go_wp2_with fail
      refine (all_made _ _ _ _).mono ?_
      rintro e w5 ⟨rfl, hA, hb5, hz5⟩
      have HA := Lib.hid hA
      have B5 := Lib.hid hb5
      have hz5' : W4.heap.size ≤ w5.heap.size := by omega
      have Z5 := Lib.hid hz5
      clear hA hb5 hz5
      go_wp2_with fail
      refine (collect_any_ ((j : Int) - 1) (back := true) _ (RowsAt.below H4.out B5.out (by omega) (by omega) (by omega)) hM (by rw [Z5.out]; omega) HA.out).mono ?_
      rintro e w6 ⟨v6, rfl, ho6, hb6⟩
      rw [HLE.out] at ho6
      obtain ⟨A6, c6, rfl⟩ := own_form ho6
      have O6 := Lib.hid ho6
      have B6 := Lib.hid hb6
      have hz6 := hb6.size
      clear ho6 hb6 HA Z5
      go_wp2_with fail
      refine (rrow_back _ _ ((R4.out.below B5.out).below B6.out) HL.out hM).mono ?_
      rintro e w7 ⟨v7, rfl, ho7, hb7⟩
      rw [HLE.out] at ho7
      obtain ⟨A7, c7, rfl⟩ := own_form ho7
      have O7 := Lib.hid ho7
      have O6b := Lib.hid (own_below O6.out hb7)
      have B7 := Lib.hid hb7
      have hz7 := hb7.size
      clear ho7 hb7
      go_wp2_with fail
      refine (equal_same _ O6b.out O7.out (by omega)).mono ?_
      rintro e w8 ⟨rfl, n8, rfl⟩
      have hbw7 : Below W4.heap.size W4 (w7.drewN n8) := below_dN (B5.out.trans ((B6.out.mono hz5').trans (B7.out.mono (by omega)))) n8
      have H8 := Lib.hid (RowsAt.below H4.out hbw7 (by omega) (by omega) (by omega))
      have O8 := Lib.hid (own_below O4.out hbw7)
      have B8 := Lib.hid (BW3.out.trans (hbw7.mono hzw4))
      clear hbw7 O6 O6b O7 B5 B6 B7 O4 R4 H4 BW3 R1 H1 hz5' hz6 hz7
      obtain ⟨W8, hW8⟩ : ∃ W8, w7.drewN n8 = W8 := ⟨_, rfl⟩
      rw [hW8] at H8 O8 B8 ⊢
      clear hW8 HW4
      by_cases hz : 0 < l.length
      · obtain ⟨x, y, hx, hy, e1, e2, e3⟩ := ends_of hz
        obtain ⟨gl, cl, e4, -, -⟩ := own_at O8.out hz
        simp only [Value.slice.injEq] at e4
        obtain ⟨rfl, -, rfl⟩ := e4
        have hx' : (ints (fromE false l))[0]? = some (.int .i64 (x : Int)) := by unfold fromE; simp [ints, hx]
        have hy' : (ints (fromE false l))[l.length - 1]? = some (.int .i64 (y : Int)) := by unfold fromE; simp [ints, hy]
        have d0 := (O8.out.cellAt 0 (by omega)).trans hx'
        have d1 := (O8.out.cellAt (l.length - 1) (by omega)).trans hy'
        have hcast : (((l.length - 1 : Nat)) : Int) = (l.length : Int) - 1 := by omega
        have hto : ((l.length : Int) - 1).toNat = l.length - 1 := by omega
        have E1 := Lib.hid e1
        have E2 := Lib.hid e2
        have E3 := Lib.hid e3
        have hlz : (0 : Int) < (l.length : Int) := by omega
        have hdz : decide ((0 : Int) < (l.length : Int)) = true := decide_eq_true hlz
        clear hx hy hx' hy' e1 e2 e3 hcast
        go_wp2_with (first
          | (go_at_call 46; refine (len_any _ _ H8.out).mono ?_; rintro e w9 ⟨rfl, rfl⟩; rw [HLE.out])
          | (go_at_call 44; refine (front_any _ _ H8.out).mono ?_; rintro e w9 ⟨rfl, rfl⟩; rw [HLE.out, E1.out, E3.out])
          | (go_at_call 45; refine (back_any _ _ H8.out).mono ?_; rintro e w9 ⟨rfl, rfl⟩; rw [HLE.out, E2.out, E3.out]))
        go_roundw
        case rel => exact ⟨j + 1, by omega, by go_num, hbr.trans (B8.out.mono hzr)⟩
        case measure => simp [intOf]; omega
      · have hl0 := neE_nil hz
        subst hl0
        have E1 := Lib.hid (show hdE [] = 0 from rfl)
        have E2 := Lib.hid (show laE [] = 0 from rfl)
        have E3 := Lib.hid (show neE [] = false from rfl)
        clear hz hlen
        go_wp2_with (first
          | (go_at_call 46; refine (len_any _ _ H8.out).mono ?_; rintro e w9 ⟨rfl, rfl⟩; rw [HLE.out])
          | (go_at_call 44; refine (front_any _ _ H8.out).mono ?_; rintro e w9 ⟨rfl, rfl⟩; rw [HLE.out, E1.out, E3.out])
          | (go_at_call 45; refine (back_any _ _ H8.out).mono ?_; rintro e w9 ⟨rfl, rfl⟩; rw [HLE.out, E2.out, E3.out]))
        go_roundw
        case rel => exact ⟨j + 1, by omega, by go_num, hbr.trans (B8.out.mono hzr)⟩
        case measure => simp [intOf]; omega
    · go_wp2
      go_ret
      exact ⟨rfl, hbr⟩
end Go.Proofs.Ytgjfigjebojjdaa
