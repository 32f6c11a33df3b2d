/- Package swing: a way turned by a quarter; two ways compared. -/
import Derived.Test.YtcbpocannmconaaSwk
namespace Go.Proofs.Ytcbpocannmconaa
open Go.RowKit
set_option linter.unusedVariables false
set_option linter.unusedSimpArgs false
theorem run_pts_ (n : Nat) (hn : n ≤ 4096) (w : World) :
    (Instr.makeSlice 24 (.int .i64 (n : Int)) (.int .i64 (n : Int))).run Try.prog w = .ok (.slice (some ⟨w.heap.size, 0, none⟩) n n) (w.alloc (.cells (madeCells #[.complex .f64 0 0] n) 28)) := by
  obtain ⟨i, hi, hz, hs, hb⟩ := info_of cinfo
  have h := run_make (P := Try.prog) w 24 28 i _ Try.underlying24 hi hz .i64 .i64 n n (by omega) (Int.le_refl _) (by rw [hb]; omega) (by omega)
  simp only [Int.toNat_natCast, hs, Nat.mul_one] at h
  exact h
theorem made_row (w : World) (n : Nat) (hn : n ≤ 4096) : OwR (w.alloc (.cells (madeCells #[.complex .f64 0 0] n) 28)) w.heap.size (.slice (some ⟨w.heap.size, 0, none⟩) n n) n (fun _ => 0) (fun _ => 0) := by
  have h := World.ownsRow_lit (e := 28) (base := w.heap.size) (size := 1) w (madeCells #[.complex .f64 0 0] n) n (Nat.le_refl _) (by unfold maxLen; omega) (by rw [size_madeCells]; omega)
  unfold OwR
  have e : (madeCells #[.complex .f64 0 0] n).toList = rowL (fun _ => 0) (fun _ => 0) n := by
    refine List.ext_getElem? fun i => ?_
    by_cases hi : i < n
    · rw [rowL_get _ _ hi]; simp [madeCells, hi, Nat.mod_one]
    · rw [List.getElem?_eq_none (by simp [size_madeCells]; omega), List.getElem?_eq_none (by rw [rowL_len]; omega)]
  rw [← e]
  exact h
theorem Fl.of_eq {b : Nat} {z z' : Int} (h : Fl b z) (e : z = z') : Fl b z' := e ▸ h
set_option maxHeartbeats 4000000 in
theorem turned_any {w : World} {A : Option Addr} {n c B : Nat} {a b : Nat → Int} (hp : Pts w B A n a b) (hB : B ≤ w.heap.size) (hn : n ≤ 1000) :
    Calls Try.prog 19 #[.slice A n c] w fun e w' => ∃ v, e = .returned v ∧ OwP w' w.heap.size v n (fun i => - b i) a ∧ Below w.heap.size w w' := by
  have hst : ∀ (W : World) (ad : Addr) (x y : Nat) (m : Mode), (store ad (.complex .f64 x y) m).run Try.prog W = stored Try.prog W ad (.complex .f64 x y) m := fun W ad x y m => run_store _ W ad _ m rfl
  have HP := Lib.hid hp
  have hmk := run_pts_ n (by omega)
  clear hp
  go_enter Try.func19, Try.ntmps19
  go_wp2_with fail
  go_loopw [4, 5, 11] (fun s4 s5 s11 wr => ∃ (k : Nat) (X Y : Nat → Nat), k ≤ n ∧ s11 = .int .i64 k ∧ OwR wr w.heap.size (.slice (some ⟨w.heap.size, 0, none⟩) n n) n X Y ∧ (∀ i, i < k → Fl (X i) (- b i) ∧ Fl (Y i) (a i) ∧ (- b i).natAbs ≤ 1048576 ∧ (a i).natAbs ≤ 1048576) ∧ Below w.heap.size w wr) (fun _ _ i _ => n - (intOf i).toNat)
  case atStart => exact ⟨0, _, _, Nat.zero_le _, rfl, made_row w n (by omega), fun i hi => absurd hi (Nat.not_lt_zero i), (Below.refl _ _).alloc (Nat.le_refl _) _⟩
  case round =>
    obtain ⟨k, X, Y, hk, rfl, ho, hf, hbr⟩ := hrel
    have HO := Lib.hid ho
    have HF := Lib.hid hf
    have HBR := Lib.hid hbr
    by_cases hlt : k < n
    · obtain ⟨kb, ko, X0, Y0, rfl, hkb, hc⟩ := HP.out (by omega)
      obtain ⟨q0, f0, f1, g0, g1⟩ := hc k hlt
      obtain ⟨r, i, e, fr, fi⟩ := cmul f0 f1 Fl.zero Fl.one (by omega) (by omega) (by decide) (by decide)
      obtain ⟨⟨r', i', e', fr', fi'⟩, -⟩ := csum fr fi Fl.zero Fl.zero (by omega) (by omega) (by decide) (by decide)
      have hm : ∀ W, (binOp .mul 28 (.complex .f64 (X0 k) (Y0 k)) (.complex .f64 0 4607182418800017408)).run Try.prog W = .ok (.complex .f64 r i) W := fun W => run_complex_mul W _ _ _ _ _ _ _ e
      have hs : ∀ W, (binOp .add 28 (.complex .f64 r i) (.complex .f64 0 0)).run Try.prog W = .ok (.complex .f64 r' i') W := fun W => run_complex_sum W _ (.inl rfl) _ _ _ _ _ _ _ _ e'
      have q1 : wr.cell? ⟨kb, ko + k, none⟩ = some (.complex .f64 (X0 k) (Y0 k)) := (hbr.cell (p := ⟨kb, ko + k, none⟩) (by show kb < _; omega)).trans q0
      have hr : kb < wr.heap.size := by have := hbr.size; omega
      have q2 := ho.at_ hlt
      have z2 := ho.free
      have FR := Lib.hid (fr'.of_eq (z' := - b k) (by omega))
      have FI := Lib.hid (fi'.of_eq (z' := a k) (by omega))
      have gz := ho.lo.2
      clear ho hf hbr q0 hc f0 f1 fr fi e e' fr' fi'
      go_wp2_with fail
      go_roundw
      case rel =>
        refine ⟨k + 1, up_ X k r', up_ Y k i', by omega, by go_num, HO.out.set_ k r' i', fun x hx => ?_, HBR.out.setCell (p := ⟨w.heap.size, k, none⟩) (Nat.le_refl _) _⟩
        unfold up_
        by_cases c : x = k
        · subst c; simp only [if_pos]; exact ⟨FR.out, FI.out, by omega, by omega⟩
        · simp only [if_neg c]; exact HF.out x (by omega)
      case measure => simp [intOf]; omega
    · obtain rfl : k = n := by omega
      clear ho hf hbr
      go_wp2_with fail
      go_ret
      exact ⟨_, rfl, HO.out.shut HF.out, HBR.out⟩
set_option maxHeartbeats 4000000 in
theorem equal_any {w : World} {A A' : Option Addr} {n c c' B B' : Nat} {a b : Nat → Int} (hp : Pts w B A n a b) (hp' : Pts w B' A' n a b) (hB : B ≤ w.heap.size) (hB' : B' ≤ w.heap.size) (hn : n ≤ 1000) :
    Calls Try.prog 22 #[.slice A n c, .slice A' n c'] w fun e w' => e = .returned (.bool true) ∧ Below w.heap.size w w' := by
  have HP := Lib.hid hp
  have HP' := Lib.hid hp'
  clear hp hp'
  go_enter Try.func22, Try.ntmps22
  go_wp2_with fail
  go_loopw [5, 13] (fun s5 s13 wr => ∃ k : Nat, k ≤ n ∧ s13 = .int .i64 k ∧ Below w.heap.size w wr) (fun _ i _ => n - (intOf i).toNat)
  case atStart => exact ⟨0, Nat.zero_le _, rfl, Below.refl _ _⟩
  case round =>
    obtain ⟨k, hk, rfl, hbr⟩ := hrel
    have HBR := Lib.hid hbr
    by_cases hlt : k < n
    · obtain ⟨kb, ko, X, Y, rfl, hkb, hc⟩ := HP.out (by omega)
      obtain ⟨jb, jo, X', Y', rfl, hjb, hd⟩ := HP'.out (by omega)
      obtain ⟨q0, f0, f1, g0, g1⟩ := hc k hlt
      obtain ⟨q1, f2, f3, g2, g3⟩ := hd k hlt
      have r0 : wr.cell? ⟨kb, ko + k, none⟩ = some (.complex .f64 (X k) (Y k)) := (hbr.cell (p := ⟨kb, ko + k, none⟩) (by show kb < _; omega)).trans q0
      have r1 : wr.cell? ⟨jb, jo + k, none⟩ = some (.complex .f64 (X' k) (Y' k)) := (hbr.cell (p := ⟨jb, jo + k, none⟩) (by show jb < _; omega)).trans q1
      have hr : kb < wr.heap.size := by have := hbr.size; omega
      have hr' : jb < wr.heap.size := by have := hbr.size; omega
      have o0 : FloatKind.f64.format.order (X k) (X' k) = some .eq := by have := f0.order f2; rwa [show compare (a k) (a k) = .eq from by simp [compare, compareOfLessAndEq]] at this
      have o1 : FloatKind.f64.format.order (Y k) (Y' k) = some .eq := by have := f1.order f3; rwa [show compare (b k) (b k) = .eq from by simp [compare, compareOfLessAndEq]] at this
      have ne : ∀ W, (binOp .neq 28 (.complex .f64 (X k) (Y k)) (.complex .f64 (X' k) (Y' k))).run Try.prog W = .ok (.bool false) W := fun W => by rw [run_neq_complex, o0, o1]; rfl
      clear hc hd q0 q1 f0 f1 f2 f3 o0 o1 hbr
      go_upto_region 6 with fail
      go_upto_region 7 with (go_quiet (fail))
      all_goals (try go_wp2)
      go_roundw
      case rel => exact ⟨k + 1, by omega, by go_num, by first | exact HBR.out | exact HBR.out.drew | exact bdrewN HBR.out _⟩
      case measure => simp [intOf]; omega
    · obtain rfl : k = n := by omega
      clear hbr
      go_wp2_with fail
      go_ret
      exact ⟨rfl, HBR.out⟩
end Go.Proofs.Ytcbpocannmconaa
