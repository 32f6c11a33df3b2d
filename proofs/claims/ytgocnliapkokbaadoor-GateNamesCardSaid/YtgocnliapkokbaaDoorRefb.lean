/- The document's answers of layer 1: the number of eight digits. -/
import Derived.Test.YtgocnliapkokbaaDoorRefa
import Derived.Deep.DeepFit
namespace Go.Proofs.YtgocnliapkokbaaDoor
open Go.ChangeShapes Go.WideShapes Go.ChangeAt Go.RowKit Kn
set_option linter.unusedVariables false
theorem set_drewN (w : World) (n : Nat) (a : Addr) (v : Value) : (w.drewN n).setCell a v = (w.setCell a v).drewN n := rfl
theorem lv_step (f : Nat → Int) (p : Nat) (hp : p < 4) : lv f p = lv f (p + 1) * 65536 + f p := by
  match p, hp with
  | 0, _ => rfl
  | 1, _ => rfl
  | 2, _ => rfl
  | 3, _ => show f 3 = 0 * 65536 + f 3; omega
theorem lv_bound (f : Nat → Int) (hf : ∀ i, i < 4 → 0 ≤ f i ∧ f i ≤ 65535) (p : Nat) : 0 ≤ lv f p ∧ lv f p ≤ 18446744073709551615 := by
  have a0 := hf 0 (by omega); have a1 := hf 1 (by omega); have a2 := hf 2 (by omega); have a3 := hf 3 (by omega)
  unfold lv
  split <;> omega
theorem lv_less (f : Nat → Int) (hf : ∀ i, i < 4 → 0 ≤ f i ∧ f i ≤ 65535) (p : Nat) : lv f (p + 1) ≤ 281474976710655 := by
  have a1 := hf 1 (by omega); have a2 := hf 2 (by omega); have a3 := hf 3 (by omega)
  unfold lv
  split <;> omega
set_option maxHeartbeats 1600000 in
set_option maxRecDepth 1000000 in
theorem value_any (g c : Nat) (f : Nat → Int) (w : World) (hr : Row w g f) (hf : ∀ i, i < 8 → 0 ≤ f i ∧ f i ≤ 65535) :
    Calls Tryd.prog 35 #[.slice (some ⟨g, 0, none⟩) 8 c] w fun e w' => e = .returned (.agg #[.int .u64 (lv (up f) 0), .int .u64 (lv f 0)]) ∧ Below w.heap.size w w' := by
  have hg := hr.lt
  have hfl : ∀ i, i < 4 → 0 ≤ f i ∧ f i ≤ 65535 := fun i hi => hf i (by omega)
  have hfu : ∀ i, i < 4 → 0 ≤ up f i ∧ up f i ≤ 65535 := fun i hi => hf (i + 4) (by omega)
  have HF := Lib.hid hf; have HL := Lib.hid hfl; have HU := Lib.hid hfu
  clear hf hfl hfu
  go_enter Tryd.func35, Tryd.ntmps35
  go_wp2
  go_loopw [4] (fun i wr => ∃ q m : Nat, q ≤ 4 ∧ i = .int .i64 ((q : Int) - 1) ∧ wr = ((w.alloc (.cells #[.int .u64 0, .int .u64 0] 53)).alloc (.cells #[.int .u64 (lv (up f) q), .int .u64 (lv f q)] 53)).drewN m)
    (fun i _ => (intOf i + 1).toNat)
  case atStart => exact ⟨4, 0, by omega, rfl, rfl⟩
  case round =>
    obtain ⟨q, m, hq, rfl, rfl⟩ := hrel
    cases q with
    | zero =>
      go_wp2
      refine bodyPost_ret (v := .agg #[.int .u64 (lv (up f) 0), .int .u64 (lv f 0)]) (by simp [results, Tryd.results35, go_sem]) rfl ⟨rfl, ?_⟩
      exact ((below_drewN (((Below.refl _ _).alloc (Nat.le_refl _) _).alloc (by simp) _) _).setCell (by simp) _).setCell (by simp) _
    | succ p =>
      have c0 := hr.cell (i := p) (by omega)
      have c1 := hr.cell (i := p + 4) (by omega)
      have b0 := HF.out p (by omega)
      have b1 := HF.out (p + 4) (by omega)
      have l0 := lv_bound f HL.out (p + 1)
      have l1 := lv_less f HL.out p
      have u0 := lv_bound (up f) HU.out (p + 1)
      have u1 := lv_less (up f) HU.out p
      have s0 : lv f (p + 1) * 65536 + f p = lv f p := (lv_step f p (by omega)).symm
      have s1 : lv (up f) (p + 1) * 65536 + f (p + 4) = lv (up f) p := (lv_step (up f) p (by omega)).symm
      go_wp2
      go_region
      go_wp2
      go_region
      go_wp2
      go_roundw
      case rel => exact ⟨p, m + 2, by omega, rfl, by simp [set_drewN, World.setCell_alloc_at]⟩
      case measure => simp [intOf]
end Go.Proofs.YtgocnliapkokbaaDoor
