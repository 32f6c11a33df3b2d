/- GateNames is true of every input, and changes nothing that it was given. -/
import Derived.Test.YtgocnliapkokbaaDoorGnam
import Derived.Test.YtgocnliapkokbaaDoorRowb
import Derived.Test.YtgocnliapkokbaaDoorRows
import Derived.WalkKit
import Derived.ProofKit
import Derived.OpenShut
import Derived.Deep.DeepCutAuto
import Derived.Test.YtgocnliapkokbaaDoorTie
import Derived.Test.YtgocnliapkokbaaDoorCards
import Derived.LaidMore
import Derived.Lay
import Derived.SevenTiedAt
import Derived.Stop.Joined
namespace Go.Proofs.YtgocnliapkokbaaDoor.gateNames
open Go.ChangeShapes Go.WideShapes Go.ChangeAt Go.RowKit
set_option linter.unusedVariables false
theorem own : ownKnob Tryd.prog.godebug = none := by kernel_rfl
theorem laidOut : laidOutB Tryd.prog = true := by kernel_rfl
theorem reads : (Tryd.f6.params.toList.all fun t => Tryd.prog.readableRec t && decide (t < Tryd.prog.types.size)) = true := by kernel_rfl
open Kn
set_option linter.unusedSimpArgs false
theorem found_step (s : ByteArray) (k : Nat) (hk : k < 11) : (nmB k = s → findN s = k + 1) ∧ (nmB k ≠ s → findN s ≠ k + 1) := by
  refine ⟨fun h => findN_yes hk h, fun h e => ?_⟩
  rcases findN_or s with ⟨n, hn, hs⟩ | hno
  · rw [findN_yes hn hs] at e
    exact h (by rw [← hs]; congr 1; omega)
  · rw [findN_no hno] at e; omega
def fndN (s : ByteArray) (k : Nat) : Int := if findN s ≤ k then (findN s : Int) else 0
def NmR (s : ByteArray) (w wo : World) (s9 s38 : Value) (wr : World) : Prop := ∃ k : Nat, k ≤ 11 ∧ s38 = .int .i64 (k : Int) ∧ s9 = .int .u8 (fndN s k) ∧ wo = wr
theorem nmB_full : ∀ k, k < 11 → ((nmB k).toList != (⟨#[]⟩ : ByteArray).toList) = true := by
  intro k hk
  rw [bne, bytes_eqB]
  have : ∀ k, k < 11 → (nmB k).size ≠ 0 := by decide +kernel
  have h := this k hk
  rw [decide_eq_false (fun e => h (by rw [e]; rfl))]
  rfl
set_option maxRecDepth 100000 in
set_option maxHeartbeats 8000000 in
theorem walk_in (a : Int) (s : ByteArray) (w : World) (hN : NamesAt w) (hs : s.size ≤ maxLen) (a0 : 0 ≤ a) (a1 : a ≤ 255) (k : Nat) (hk0 : k < 11) (hak : a = (k : Int) + 1) :
    Calls Tryd.prog 6 #[.int .u8 a, .string s] w fun e w' => e = .returned (.bool true) ∧ Below w.heap.size w w' := by
  obtain ⟨FN, hFN⟩ : ∃ FN : Int, (findN s : Int) = FN := ⟨_, rfl⟩
  obtain ⟨ok, hok⟩ : ∃ ok, decide (findN s > 0) = ok := ⟨_, rfl⟩
  have hle := findN_le s
  have FB : 0 ≤ FN ∧ FN ≤ 11 := by omega
  have hok2 : decide (FN > 0) = ok := by rw [← hok, ← hFN]; simp
  have hok3 : decide (0 < FN) = ok := hok2
  have kf := fun wq hq => gfind_any s wq hq
  rw [hFN, hok] at kf
  have HF := Lib.hid kf
  have HN := Lib.hid hN
  have HFN := Lib.hid hFN
  clear kf hN hFN hok hle
  have hk : k < 11 := hk0
  have ha1 : ¬ a < 1 := by omega
  have ha2 : ¬ 11 < a := by omega
  have ha3 : a ≤ 11 := by omega
  have ha4 : 1 ≤ a := by omega
  have x1 : IntKind.u8.wrap (a - 1) = (k : Int) := by simp [IntKind.wrap, IntKind.signed, IntKind.bits]; omega
  have x2 : IntKind.i64.wrap a = a := by rw [IntKind.wrap_i64]; omega
  have x3 : (k : Int) < 11 := by omega
  have x4 : (0 : Int) ≤ (k : Int) := by omega
  obtain ⟨W, hW⟩ : ∃ W, nmB k = W := ⟨_, rfl⟩
  have kw := fun wq hq => gfind_any W wq hq
  rw [findN_yes hk hW] at kw
  rw [show ((k + 1 : Nat) : Int) = a by omega, show decide (k + 1 > 0) = true by simp] at kw
  have kn := fun wq hq => gname_yes a k hk (by omega) wq hq
  rw [hW] at kn
  have hful : (W.toList != (⟨#[]⟩ : ByteArray).toList) = true := by rw [← hW]; exact nmB_full k hk
  have hful2 : ¬ W.toList = [] := fun e => by rw [e, ByteArray.toList_eq] at hful; simp at hful
  have HW := Lib.hid hW
  clear hW hak
  have KW := Lib.hid kw
  have KN := Lib.hid kn
  clear kw kn
  go_enter Tryd.func6, Tryd.ntmps6
  go_wp2_with fail
  refine (awake14 _ HN.out).mono ?_
  rintro e x1 ⟨rfl, hb⟩
  have bx : Bxs w x1 [] := (Bxs.nil_ w).below hb
  clear hb
  have BX := Lib.hid bx
  clear bx
  go_wp2_with fail
  refine (rnames_any _).mono ?_
  rintro e y2 ⟨rfl, rfl⟩
  go_upto_region 5 with fail
  refine wp_worldx (fun wx => Bxs w wx [(x1.heap.size, 9, [.string ⟨#[97, 100, 109, 105, 116, 116, 101, 100]⟩, .string ⟨#[105, 110, 118, 97, 108, 105, 100]⟩, .string ⟨#[101, 120, 112, 105, 114, 101, 100]⟩, .string ⟨#[99, 117, 116, 111, 102, 102]⟩, .string ⟨#[102, 117, 108, 108]⟩, .string ⟨#[100, 114, 97, 105, 110, 105, 110, 103]⟩, .string ⟨#[100, 105, 115, 112, 97, 116, 99, 104, 101, 100]⟩, .string ⟨#[101, 109, 112, 116, 121]⟩, .string ⟨#[99, 108, 111, 115, 101, 100]⟩, .string ⟨#[100, 111, 110, 101]⟩, .string ⟨#[98, 117, 115, 121]⟩])]) ((BX.out).alloc_ _ _ (by simp)) ?_
  clear BX
  rintro x2 bx
  have BX := Lib.hid bx
  clear bx
  have p0_0 : x2.cell? ⟨x1.heap.size, 0, none⟩ = some (.string ⟨#[97, 100, 109, 105, 116, 116, 101, 100]⟩) := (BX.out.bl 0 _ _ _ rfl).val rfl
  have p0_1 : x2.cell? ⟨x1.heap.size, 1, none⟩ = some (.string ⟨#[105, 110, 118, 97, 108, 105, 100]⟩) := (BX.out.bl 0 _ _ _ rfl).val rfl
  have p0_2 : x2.cell? ⟨x1.heap.size, 2, none⟩ = some (.string ⟨#[101, 120, 112, 105, 114, 101, 100]⟩) := (BX.out.bl 0 _ _ _ rfl).val rfl
  have p0_3 : x2.cell? ⟨x1.heap.size, 3, none⟩ = some (.string ⟨#[99, 117, 116, 111, 102, 102]⟩) := (BX.out.bl 0 _ _ _ rfl).val rfl
  have p0_4 : x2.cell? ⟨x1.heap.size, 4, none⟩ = some (.string ⟨#[102, 117, 108, 108]⟩) := (BX.out.bl 0 _ _ _ rfl).val rfl
  have p0_5 : x2.cell? ⟨x1.heap.size, 5, none⟩ = some (.string ⟨#[100, 114, 97, 105, 110, 105, 110, 103]⟩) := (BX.out.bl 0 _ _ _ rfl).val rfl
  have p0_6 : x2.cell? ⟨x1.heap.size, 6, none⟩ = some (.string ⟨#[100, 105, 115, 112, 97, 116, 99, 104, 101, 100]⟩) := (BX.out.bl 0 _ _ _ rfl).val rfl
  have p0_7 : x2.cell? ⟨x1.heap.size, 7, none⟩ = some (.string ⟨#[101, 109, 112, 116, 121]⟩) := (BX.out.bl 0 _ _ _ rfl).val rfl
  have p0_8 : x2.cell? ⟨x1.heap.size, 8, none⟩ = some (.string ⟨#[99, 108, 111, 115, 101, 100]⟩) := (BX.out.bl 0 _ _ _ rfl).val rfl
  have p0_9 : x2.cell? ⟨x1.heap.size, 9, none⟩ = some (.string ⟨#[100, 111, 110, 101]⟩) := (BX.out.bl 0 _ _ _ rfl).val rfl
  have p0_10 : x2.cell? ⟨x1.heap.size, 10, none⟩ = some (.string ⟨#[98, 117, 115, 121]⟩) := (BX.out.bl 0 _ _ _ rfl).val rfl
  have z0 : ∀ k, x2.frozen? ⟨x1.heap.size, k, none⟩ = false := (BX.out.bl 0 _ _ _ rfl).free
  have y0 : x1.heap.size < x2.heap.size := (BX.out.bl 0 _ _ _ rfl).size
  clear p0_0 p0_1 p0_2 p0_3 p0_4 p0_5 p0_6 p0_7 p0_8 p0_9 p0_10 z0 y0
  have HC := Lib.hid (show ∀ j, j < 11 → x2.cell? ⟨x1.heap.size, j, none⟩ = some (.string (nmB j)) from fun j hj => (BX.out.bl 0 _ _ _ rfl).val (rnames_cell j hj))
  have HNX := Lib.hid (HN.out.below BX.out.be)
  have xk : x2.cell? ⟨x1.heap.size, k, none⟩ = some (.string W) := (HC.out k hk).trans (by rw [HW.out])
  go_wp2_with fail
  refine (HF.out _ HNX.out).mono ?_
  rintro e y3 ⟨rfl, rfl⟩
  go_wp2_with fail
  go_loopw [9, 38] (fun s9 s38 wr => NmR s w x2 s9 s38 wr) (fun _ i _ => 11 - (intOf i).toNat)
  case atStart => exact ⟨0, Nat.zero_le _, rfl, by unfold fndN; split <;> (try rfl); (have : findN s = 0 := by omega); rw [this]; rfl, rfl⟩
  case round =>
    obtain ⟨k2, hk2, rfl, rfl, rfl⟩ := hrel
    by_cases hlt : k2 < 11
    ·
      obtain ⟨V, hV⟩ : ∃ V, nmB k2 = V := ⟨_, rfl⟩
      have xc : x2.cell? ⟨x1.heap.size, k2, none⟩ = some (.string V) := (HC.out k2 hlt).trans (by rw [hV])
      have j1 : (k2 : Int) < 11 := by omega
      have j2 : (0 : Int) ≤ (k2 : Int) := by omega
      have j3 : IntKind.u8.wrap ((k2 : Int) + 1) = (k2 : Int) + 1 := by
        have : IntKind.u8.wrap ((k2 : Int) + 1) = ((k2 : Int) + 1) % 256 := by simp [IntKind.wrap, IntKind.signed, IntKind.bits]
        rw [this]; omega
      have hst := found_step s k2 hlt
      rw [hV] at hst
      have HST := Lib.hid hst
      clear hst hV
      obtain ⟨old, hold⟩ : ∃ old, fndN s k2 = old := ⟨_, rfl⟩
      rw [hold]
      have HOLD := Lib.hid hold
      clear hold
      by_cases hvs : V = s
      ·
        subst hvs
        go_wp2_with fail
        first | (go_roundw; case rel => exact ⟨k2 + 1, by omega, by go_num, by congr 1; have h1 := HST.out.1 rfl; unfold fndN; rw [if_pos (by omega), h1]; simp, rfl⟩; case measure => simp [intOf]; omega) | exact ⟨⟨k2 + 1, by omega, by go_num, by congr 1; have h1 := HST.out.1 rfl; unfold fndN; rw [if_pos (by omega), h1]; simp, rfl⟩, by simp [intOf]; omega⟩
      ·
        have hvb := bytes_ne hvs
        go_wp2_with fail
        first | (go_roundw; case rel => exact ⟨k2 + 1, by omega, by go_num, by congr 1; have h1 := HST.out.2 hvs; rw [← HOLD.out]; unfold fndN; split <;> split <;> omega, rfl⟩; case measure => simp [intOf]; omega) | exact ⟨⟨k2 + 1, by omega, by go_num, by congr 1; have h1 := HST.out.2 hvs; rw [← HOLD.out]; unfold fndN; split <;> split <;> omega, rfl⟩, by simp [intOf]; omega⟩
    ·
      obtain rfl : k2 = 11 := by omega
      have hfd : fndN s 11 = FN := by unfold fndN; rw [if_pos (findN_le s)]; exact HFN.out
      rw [hfd]
      clear hfd
      have hff : (FN == FN) = true := by simp
      go_wp2_with fail
      refine (KW.out _ HNX.out).mono ?_
      rintro e y4 ⟨rfl, rfl⟩
      go_wp2_with fail
      refine (KN.out _ HNX.out).mono ?_
      rintro e y5 ⟨rfl, rfl⟩
      go_wp2_with fail
      all_goals (go_ret; exact ⟨ret_bool (by first | rfl | (exfalso; exact hful2 (by assumption)) | (simp; done) | (simp [*]; done)), BX.out.be⟩)
set_option maxRecDepth 100000 in
set_option maxHeartbeats 8000000 in
theorem walk_out (a : Int) (s : ByteArray) (w : World) (hN : NamesAt w) (hs : s.size ≤ maxLen) (a0 : 0 ≤ a) (a1 : a ≤ 255) (hno : a < 1 ∨ 11 < a) :
    Calls Tryd.prog 6 #[.int .u8 a, .string s] w fun e w' => e = .returned (.bool true) ∧ Below w.heap.size w w' := by
  obtain ⟨FN, hFN⟩ : ∃ FN : Int, (findN s : Int) = FN := ⟨_, rfl⟩
  obtain ⟨ok, hok⟩ : ∃ ok, decide (findN s > 0) = ok := ⟨_, rfl⟩
  have hle := findN_le s
  have FB : 0 ≤ FN ∧ FN ≤ 11 := by omega
  have hok2 : decide (FN > 0) = ok := by rw [← hok, ← hFN]; simp
  have hok3 : decide (0 < FN) = ok := hok2
  have kf := fun wq hq => gfind_any s wq hq
  rw [hFN, hok] at kf
  have HF := Lib.hid kf
  have HN := Lib.hid hN
  have HFN := Lib.hid hFN
  clear kf hN hFN hok hle
  have x2 : IntKind.i64.wrap a = a := by rw [IntKind.wrap_i64]; omega
  have kw := fun wq hq => gfind_any ⟨#[]⟩ wq hq
  rw [show findN ⟨#[]⟩ = 0 by decide +kernel] at kw
  have kn := fun wq (hq : NamesAt wq) => gname_no a hno wq
  have KW := Lib.hid kw
  have KN := Lib.hid kn
  clear kw kn
  go_enter Tryd.func6, Tryd.ntmps6
  go_wp2_with fail
  refine (awake14 _ HN.out).mono ?_
  rintro e x1 ⟨rfl, hb⟩
  have bx : Bxs w x1 [] := (Bxs.nil_ w).below hb
  clear hb
  have BX := Lib.hid bx
  clear bx
  go_wp2_with fail
  refine (rnames_any _).mono ?_
  rintro e y2 ⟨rfl, rfl⟩
  go_upto_region 5 with fail
  refine wp_worldx (fun wx => Bxs w wx [(x1.heap.size, 9, [.string ⟨#[97, 100, 109, 105, 116, 116, 101, 100]⟩, .string ⟨#[105, 110, 118, 97, 108, 105, 100]⟩, .string ⟨#[101, 120, 112, 105, 114, 101, 100]⟩, .string ⟨#[99, 117, 116, 111, 102, 102]⟩, .string ⟨#[102, 117, 108, 108]⟩, .string ⟨#[100, 114, 97, 105, 110, 105, 110, 103]⟩, .string ⟨#[100, 105, 115, 112, 97, 116, 99, 104, 101, 100]⟩, .string ⟨#[101, 109, 112, 116, 121]⟩, .string ⟨#[99, 108, 111, 115, 101, 100]⟩, .string ⟨#[100, 111, 110, 101]⟩, .string ⟨#[98, 117, 115, 121]⟩])]) ((BX.out).alloc_ _ _ (by simp)) ?_
  clear BX
  rintro x2 bx
  have BX := Lib.hid bx
  clear bx
  have p0_0 : x2.cell? ⟨x1.heap.size, 0, none⟩ = some (.string ⟨#[97, 100, 109, 105, 116, 116, 101, 100]⟩) := (BX.out.bl 0 _ _ _ rfl).val rfl
  have p0_1 : x2.cell? ⟨x1.heap.size, 1, none⟩ = some (.string ⟨#[105, 110, 118, 97, 108, 105, 100]⟩) := (BX.out.bl 0 _ _ _ rfl).val rfl
  have p0_2 : x2.cell? ⟨x1.heap.size, 2, none⟩ = some (.string ⟨#[101, 120, 112, 105, 114, 101, 100]⟩) := (BX.out.bl 0 _ _ _ rfl).val rfl
  have p0_3 : x2.cell? ⟨x1.heap.size, 3, none⟩ = some (.string ⟨#[99, 117, 116, 111, 102, 102]⟩) := (BX.out.bl 0 _ _ _ rfl).val rfl
  have p0_4 : x2.cell? ⟨x1.heap.size, 4, none⟩ = some (.string ⟨#[102, 117, 108, 108]⟩) := (BX.out.bl 0 _ _ _ rfl).val rfl
  have p0_5 : x2.cell? ⟨x1.heap.size, 5, none⟩ = some (.string ⟨#[100, 114, 97, 105, 110, 105, 110, 103]⟩) := (BX.out.bl 0 _ _ _ rfl).val rfl
  have p0_6 : x2.cell? ⟨x1.heap.size, 6, none⟩ = some (.string ⟨#[100, 105, 115, 112, 97, 116, 99, 104, 101, 100]⟩) := (BX.out.bl 0 _ _ _ rfl).val rfl
  have p0_7 : x2.cell? ⟨x1.heap.size, 7, none⟩ = some (.string ⟨#[101, 109, 112, 116, 121]⟩) := (BX.out.bl 0 _ _ _ rfl).val rfl
  have p0_8 : x2.cell? ⟨x1.heap.size, 8, none⟩ = some (.string ⟨#[99, 108, 111, 115, 101, 100]⟩) := (BX.out.bl 0 _ _ _ rfl).val rfl
  have p0_9 : x2.cell? ⟨x1.heap.size, 9, none⟩ = some (.string ⟨#[100, 111, 110, 101]⟩) := (BX.out.bl 0 _ _ _ rfl).val rfl
  have p0_10 : x2.cell? ⟨x1.heap.size, 10, none⟩ = some (.string ⟨#[98, 117, 115, 121]⟩) := (BX.out.bl 0 _ _ _ rfl).val rfl
  have z0 : ∀ k, x2.frozen? ⟨x1.heap.size, k, none⟩ = false := (BX.out.bl 0 _ _ _ rfl).free
  have y0 : x1.heap.size < x2.heap.size := (BX.out.bl 0 _ _ _ rfl).size
  clear p0_0 p0_1 p0_2 p0_3 p0_4 p0_5 p0_6 p0_7 p0_8 p0_9 p0_10 z0 y0
  have HC := Lib.hid (show ∀ j, j < 11 → x2.cell? ⟨x1.heap.size, j, none⟩ = some (.string (nmB j)) from fun j hj => (BX.out.bl 0 _ _ _ rfl).val (rnames_cell j hj))
  have HNX := Lib.hid (HN.out.below BX.out.be)
  have hno2 := hno
  by_cases hb : a < 1
  · have hb2 : ¬ 1 ≤ a := by omega
    as_aux_lemma =>
      go_wp2_with fail
      refine (HF.out _ HNX.out).mono ?_
      rintro e y3 ⟨rfl, rfl⟩
      go_wp2_with fail
      go_loopw [9, 38] (fun s9 s38 wr => NmR s w x2 s9 s38 wr) (fun _ i _ => 11 - (intOf i).toNat)
      case atStart => exact ⟨0, Nat.zero_le _, rfl, by unfold fndN; split <;> (try rfl); (have : findN s = 0 := by omega); rw [this]; rfl, rfl⟩
      case round =>
        obtain ⟨k2, hk2, rfl, rfl, rfl⟩ := hrel
        by_cases hlt : k2 < 11
        ·
          obtain ⟨V, hV⟩ : ∃ V, nmB k2 = V := ⟨_, rfl⟩
          have xc : x2.cell? ⟨x1.heap.size, k2, none⟩ = some (.string V) := (HC.out k2 hlt).trans (by rw [hV])
          have j1 : (k2 : Int) < 11 := by omega
          have j2 : (0 : Int) ≤ (k2 : Int) := by omega
          have j3 : IntKind.u8.wrap ((k2 : Int) + 1) = (k2 : Int) + 1 := by
            have : IntKind.u8.wrap ((k2 : Int) + 1) = ((k2 : Int) + 1) % 256 := by simp [IntKind.wrap, IntKind.signed, IntKind.bits]
            rw [this]; omega
          have hst := found_step s k2 hlt
          rw [hV] at hst
          have HST := Lib.hid hst
          clear hst hV
          obtain ⟨old, hold⟩ : ∃ old, fndN s k2 = old := ⟨_, rfl⟩
          rw [hold]
          have HOLD := Lib.hid hold
          clear hold
          by_cases hvs : V = s
          ·
            subst hvs
            go_wp2_with fail
            first | (go_roundw; case rel => exact ⟨k2 + 1, by omega, by go_num, by congr 1; have h1 := HST.out.1 rfl; unfold fndN; rw [if_pos (by omega), h1]; simp, rfl⟩; case measure => simp [intOf]; omega) | exact ⟨⟨k2 + 1, by omega, by go_num, by congr 1; have h1 := HST.out.1 rfl; unfold fndN; rw [if_pos (by omega), h1]; simp, rfl⟩, by simp [intOf]; omega⟩
          ·
            have hvb := bytes_ne hvs
            go_wp2_with fail
            first | (go_roundw; case rel => exact ⟨k2 + 1, by omega, by go_num, by congr 1; have h1 := HST.out.2 hvs; rw [← HOLD.out]; unfold fndN; split <;> split <;> omega, rfl⟩; case measure => simp [intOf]; omega) | exact ⟨⟨k2 + 1, by omega, by go_num, by congr 1; have h1 := HST.out.2 hvs; rw [← HOLD.out]; unfold fndN; split <;> split <;> omega, rfl⟩, by simp [intOf]; omega⟩
        ·
          obtain rfl : k2 = 11 := by omega
          have hfd : fndN s 11 = FN := by unfold fndN; rw [if_pos (findN_le s)]; exact HFN.out
          rw [hfd]
          clear hfd
          have hff : (FN == FN) = true := by simp
          go_wp2_with fail
          refine (KW.out _ HNX.out).mono ?_
          rintro e y4 ⟨rfl, rfl⟩
          go_wp2_with fail
          refine (KN.out _ HNX.out).mono ?_
          rintro e y5 ⟨rfl, rfl⟩
          go_wp2_with fail
          all_goals (go_ret; exact ⟨ret_bool (by first | rfl | (exfalso; exact hful2 (by assumption)) | (simp; done) | (simp [*]; done)), BX.out.be⟩)
  · have hb2 : ¬ a ≤ 11 := by omega
    have hb3 : 1 ≤ a := by omega
    as_aux_lemma =>
      go_wp2_with fail
      refine (HF.out _ HNX.out).mono ?_
      rintro e y3 ⟨rfl, rfl⟩
      go_wp2_with fail
      go_loopw [9, 38] (fun s9 s38 wr => NmR s w x2 s9 s38 wr) (fun _ i _ => 11 - (intOf i).toNat)
      case atStart => exact ⟨0, Nat.zero_le _, rfl, by unfold fndN; split <;> (try rfl); (have : findN s = 0 := by omega); rw [this]; rfl, rfl⟩
      case round =>
        obtain ⟨k2, hk2, rfl, rfl, rfl⟩ := hrel
        by_cases hlt : k2 < 11
        ·
          obtain ⟨V, hV⟩ : ∃ V, nmB k2 = V := ⟨_, rfl⟩
          have xc : x2.cell? ⟨x1.heap.size, k2, none⟩ = some (.string V) := (HC.out k2 hlt).trans (by rw [hV])
          have j1 : (k2 : Int) < 11 := by omega
          have j2 : (0 : Int) ≤ (k2 : Int) := by omega
          have j3 : IntKind.u8.wrap ((k2 : Int) + 1) = (k2 : Int) + 1 := by
            have : IntKind.u8.wrap ((k2 : Int) + 1) = ((k2 : Int) + 1) % 256 := by simp [IntKind.wrap, IntKind.signed, IntKind.bits]
            rw [this]; omega
          have hst := found_step s k2 hlt
          rw [hV] at hst
          have HST := Lib.hid hst
          clear hst hV
          obtain ⟨old, hold⟩ : ∃ old, fndN s k2 = old := ⟨_, rfl⟩
          rw [hold]
          have HOLD := Lib.hid hold
          clear hold
          by_cases hvs : V = s
          ·
            subst hvs
            go_wp2_with fail
            first | (go_roundw; case rel => exact ⟨k2 + 1, by omega, by go_num, by congr 1; have h1 := HST.out.1 rfl; unfold fndN; rw [if_pos (by omega), h1]; simp, rfl⟩; case measure => simp [intOf]; omega) | exact ⟨⟨k2 + 1, by omega, by go_num, by congr 1; have h1 := HST.out.1 rfl; unfold fndN; rw [if_pos (by omega), h1]; simp, rfl⟩, by simp [intOf]; omega⟩
          ·
            have hvb := bytes_ne hvs
            go_wp2_with fail
            first | (go_roundw; case rel => exact ⟨k2 + 1, by omega, by go_num, by congr 1; have h1 := HST.out.2 hvs; rw [← HOLD.out]; unfold fndN; split <;> split <;> omega, rfl⟩; case measure => simp [intOf]; omega) | exact ⟨⟨k2 + 1, by omega, by go_num, by congr 1; have h1 := HST.out.2 hvs; rw [← HOLD.out]; unfold fndN; split <;> split <;> omega, rfl⟩, by simp [intOf]; omega⟩
        ·
          obtain rfl : k2 = 11 := by omega
          have hfd : fndN s 11 = FN := by unfold fndN; rw [if_pos (findN_le s)]; exact HFN.out
          rw [hfd]
          clear hfd
          have hff : (FN == FN) = true := by simp
          go_wp2_with fail
          refine (KW.out _ HNX.out).mono ?_
          rintro e y4 ⟨rfl, rfl⟩
          go_wp2_with fail
          refine (KN.out _ HNX.out).mono ?_
          rintro e y5 ⟨rfl, rfl⟩
          go_wp2_with fail
          all_goals (go_ret; exact ⟨ret_bool (by first | rfl | (exfalso; exact hful2 (by assumption)) | (simp; done) | (simp [*]; done)), BX.out.be⟩)
theorem walk (a : Int) (s : ByteArray) (w : World) (hN : NamesAt w) (hs : s.size ≤ maxLen) (a0 : 0 ≤ a) (a1 : a ≤ 255) :
    Calls Tryd.prog 6 #[.int .u8 a, .string s] w fun e w' => e = .returned (.bool true) ∧ Below w.heap.size w w' := by
  by_cases h : a < 1 ∨ 11 < a
  · exact walk_out a s w hN hs a0 a1 h
  · exact walk_in a s w hN hs a0 a1 (a - 1).toNat (by omega) (by omega)
set_option maxRecDepth 100000 in
theorem lifted (os : Os) (started : os.Started) (H : Type) (enc : TypeId × Value → H) :
    ReturnsInHanded {} Tryd.checked os 6 .any (fun w args => (Rows.gateNamesSpec.pre enc Tryd.prog Tryd.f6 Rows.gateNamesRow.domain false w args ∧ laidMetH Tryd.prog [("overfall/gate.names", Rows.laid_overfall_gate_names)] w) ∧ sizedMet enc Tryd.prog Tryd.f6 (OpenSpec.ofChange Rows.gateNamesSpec) false w args)
      (Rows.gateNamesSpec.post enc Tryd.prog Tryd.f6 false true false false) := by
  refine returnsInHanded_of_change_and (C := Tryd.checked) (X := fun w _ => laidMetH Tryd.prog [("overfall/gate.names", Rows.laid_overfall_gate_names)] w) (fun _ _ _ hh h => h.of_heap hh) own started (by kernel_rfl) Tryd.func6
    (ChangeSpec.witness_shaped (enc := enc) (C := Tryd.checked) (os := os) (X := fun w _ => laidMetH Tryd.prog [("overfall/gate.names", Rows.laid_overfall_gate_names)] w) false (World.laidAll Tryd.prog os [("overfall/gate.names", Rows.laid_overfall_gate_names)]) #[.int .u8 0, .string ⟨#[]⟩] 8 (World.laidAll_os _ _ _)
      (World.shaped_of_ZipB (by kernel_rfl) (by kernel_rfl)) (by kernel_rfl) (by kernel_rfl) (by kernel_rfl)
      (by rw [MakeChecks.laidMetH_plain _ _ _ (by kernel_rfl)]; exact laidMet_laidAll _ (by kernel_rfl) (by kernel_rfl))) ?_
  intro W base args ds gs before hval0 hW hcnd _ hL _
  have hLO := names_of_laid hL
  have hval : ∀ (j : Nat) t v, Tryd.f6.params[j]? = some t → args[j]? = some v → Value.okWide Tryd.prog W .any base t v := hval0
  have hW' := hW
  obtain ⟨p, q, hA0, hV, rfl, hfz, hnd⟩ := hW
  have hA : DataW.TrodAll enc Tryd.prog W 0 (fun _ => true) true Tryd.f6.params.toList args.toList ds p := hA0
  rw [Tryd.params6] at hA hval
  obtain ⟨v0, vs0, d0, ds0, p0, q0, hargs, rfl, rfl, h0, r0⟩ := trodAll_cons hA
  obtain ⟨v1, vs1, d1, ds1, p1, q1, rfl, rfl, rfl, h1, r1⟩ := trodAll_cons r0
  obtain ⟨rfl, rfl, rfl⟩ := trodAll_nil r1
  obtain rfl : args = #[v0, v1] := by cases args; simp_all
  obtain ⟨rfl, rfl⟩ := trodVars_none hV
  obtain ⟨a0, rfl, rfl, rfl, w0⟩ := open_int Tryd.underlying5 (hval 0 _ v0 rfl rfl) h0
  obtain ⟨s1, rfl, rfl, rfl, z1⟩ := Go.ChangeMaps.open_string Tryd.underlying9 (hval 1 _ v1 rfl rfl) h1
  clear hA0 hval0
  obtain ⟨l0, m0⟩ := wf_u8 w0
  refine (walk a0 s1 W hLO z1 l0 m0).mono fun e W' ⟨he, hg⟩ => ?_
  subst he
  exact ⟨_, rfl, post_of_law hW' rfl laidOut reads rfl Tryd.underlying4 rfl rfl rfl hg⟩
theorem over : Rows.gateNamesRow.holds Tryd.pinned (OpenSpec.ofChange Rows.gateNamesSpec) :=
  OpenClaim.holds_of_wide 6 Tryd.f6 rfl rfl rfl rfl rfl rfl rfl ⟨rfl, rfl, rfl, rfl, rfl⟩ rfl rfl rfl rfl rfl (by kernel_rfl) Tryd.func6 (by kernel_rfl)
    (of_decide_eq_true (by kernel_rfl)) (by unfold Func.isWrapper; first | (rw [if_pos (by decide +kernel)]; kernel_rfl) | (rw [if_neg (by decide +kernel)]; exact ⟨rfl, rfl⟩))
    (fun os started H enc _ => lifted os started H enc)
theorem proved : Rows.GateNamesCardSaid :=
  Claim7.holds_tied_plain_at .later [] [.data] true Rows.gateNamesCard.stood.harness false over (fun _ h => by cases h) (by kernel_rfl) (fun _ h => by cases h) gateNames_row_tie rfl ⟨rfl, rfl⟩ (by kernel_rfl) rfl
    (fun f fn hf hfn => by
      obtain rfl : f = 6 := Option.some.inj ((show Tryd.prog.funcNamed "overfall/overfalllaw14.GateNames" = some 6 by kernel_rfl).symm.trans hf) |>.symm
      obtain rfl : fn = Tryd.f6 := (Option.some.inj (Tryd.func6.symm.trans hfn)).symm
      exact ⟨by kernel_rfl, fun j t ht => by
        have hm : t ∈ Tryd.f6.params.toList := by simpa using Array.mem_of_getElem? ht
        have hall : (Tryd.f6.params.toList.all fun u => !Tryd.prog.wantsStandIn u) = true := by kernel_rfl
        exact (show Tryd.prog.wantsStandIn t = false by simpa using List.all_eq_true.1 hall t hm)⟩)
    (by kernel_rfl)
end Go.Proofs.YtgocnliapkokbaaDoor.gateNames
