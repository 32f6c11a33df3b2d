/- Package swing: round a box, so often: area, turns, distance. No program. -/
import Derived.Test.YtcbpocannmconaaSwl
namespace Go.Proofs.Ytcbpocannmconaa
open Go.RowKit
set_option linter.unusedVariables false
set_option linter.unusedSimpArgs false
def cx (X W : Int) : Nat → Int
  | 1 => X + W
  | 2 => X + W
  | _ => X
def cy (Y H : Int) : Nat → Int
  | 2 => Y + H
  | 3 => Y + H
  | _ => Y
/-- The way round a box, to the left or to the right. -/
inductive Box (X Y W H : Int) : (Nat → Int) → (Nat → Int) → Int → Prop
  | left : Box X Y W H (cx X W) (cy Y H) 1
  | right : Box X Y W H (fun i => cx X W (3 - i)) (fun i => cy Y H (3 - i)) (-1)
theorem sum_four (F : Nat → Nat → Int) (n : Nat) : ∀ k : Nat, k ≤ n → sumZ (fun i => F (i % 4) ((i + 1) % (4 * n) % 4)) (4 * k) = k * (F 0 1 + F 1 2 + F 2 3 + F 3 0)
  | 0, _ => by simp [sumZ]
  | k + 1, hk => by
    have e : ∀ i, (i + 1) % (4 * n) % 4 = (i + 1) % 4 := fun i => Nat.mod_mod_of_dvd _ (Nat.dvd_mul_right 4 n)
    rw [show 4 * (k + 1) = 4 * k + 1 + 1 + 1 + 1 from by omega, sumZ, sumZ, sumZ, sumZ, sum_four F n k (by omega)]
    simp only [e]
    rw [show 4 * k % 4 = 0 from by omega, show (4 * k + 1) % 4 = 1 from by omega, show (4 * k + 1 + 1) % 4 = 2 from by omega, show (4 * k + 1 + 1 + 1) % 4 = 3 from by omega, show (4 * k + 1 + 1 + 1 + 1) % 4 = 0 from by omega]
    rw [Int.natCast_add, Int.add_mul]; omega
theorem area_box {X Y W H s : Int} {f g : Nat → Int} (h : Box X Y W H f g s) (n : Nat) : areaS (fun i => f (i % 4)) (fun i => g (i % 4)) (4 * n) (4 * n) = 2 * (s * n) * W * H := by
  rw [area_sum]
  have e := sum_four (crossZ f g) n n (Nat.le_refl _)
  refine Eq.trans e ?_
  have r : crossZ f g 0 1 + crossZ f g 1 2 + crossZ f g 2 3 + crossZ f g 3 0 = 2 * (s * (W * H)) := by
    cases h
    · simp only [crossZ, cx, cy, Int.add_mul, Int.mul_add, Int.mul_comm Y X, Int.mul_comm Y W, Int.mul_comm H X, Int.mul_comm H W]; omega
    · show (X * (Y + H) - (Y + H) * (X + W)) + ((X + W) * Y - (Y + H) * (X + W)) + ((X + W) * Y - Y * X) + (X * (Y + H) - Y * X) = _
      simp only [Int.add_mul, Int.mul_add, Int.mul_comm Y X, Int.mul_comm Y W, Int.mul_comm H X, Int.mul_comm H W]; omega
  rw [r]
  simp only [Int.mul_assoc, Int.mul_left_comm]
theorem ngt {b q : Int} (h : b ≤ q) : compare b q ≠ .gt := fun c => by rw [Int.compare_eq_gt] at c; omega
theorem gt_ {b q : Int} (h : q < b) : compare b q = .gt := Int.compare_eq_gt.2 h
theorem turn_low {f g : Nat → Int} {p q : Int} {i j : Nat} (h1 : g i ≤ q) (h2 : g j ≤ q) : turnZ f g p q i j = 0 := by
  unfold turnZ turnO; rw [if_neg (fun c => ngt h2 c.2.1), if_neg (fun c => ngt h1 c.1)]
theorem turn_high {f g : Nat → Int} {p q : Int} {i j : Nat} (h1 : q < g i) (h2 : q < g j) : turnZ f g p q i j = 0 := by
  unfold turnZ turnO; rw [if_neg (fun c => c.1 (gt_ h1)), if_neg (fun c => c.2.1 (gt_ h2))]
theorem side_v {f g : Nat → Int} {p q : Int} {i j : Nat} (h : f j = f i) : sideZ f g p q i j = (g j - g i) * (f i - p) := by
  unfold sideZ; rw [h, Int.sub_self, Int.zero_mul, show f i - p = - (p - f i) from by omega, Int.mul_neg]; omega
theorem turn_up {f g : Nat → Int} {p q : Int} {i j : Nat} (h1 : g i ≤ q) (h2 : q < g j) (h : f j = f i) : turnZ f g p q i j = if p < f i then 1 else 0 := by
  unfold turnZ turnO
  rw [side_v h]
  have hh : 0 < g j - g i := by omega
  by_cases c : p < f i
  · rw [if_pos c, if_pos ⟨ngt h1, gt_ h2, Int.mul_pos hh (by omega)⟩]
  · have : (g j - g i) * (f i - p) ≤ 0 := by
      have := Int.mul_nonneg (a := g j - g i) (b := p - f i) (by omega) (by omega)
      rw [show f i - p = - (p - f i) from by omega, Int.mul_neg]; omega
    rw [if_neg c, if_neg (fun c => by omega), if_neg (fun c => ngt h1 c.1)]
theorem turn_down {f g : Nat → Int} {p q : Int} {i j : Nat} (h1 : q < g i) (h2 : g j ≤ q) (h : f j = f i) : turnZ f g p q i j = if p < f i then -1 else 0 := by
  unfold turnZ turnO
  rw [side_v h, show g j - g i = - (g i - g j) from by omega, Int.neg_mul]
  have hh : 0 < g i - g j := by omega
  by_cases c : p < f i
  · have := Int.mul_pos hh (show 0 < f i - p by omega)
    rw [if_pos c, if_neg (fun c => c.1 (gt_ h1)), if_pos ⟨gt_ h1, ngt h2, by omega⟩]
  · have : 0 ≤ (g i - g j) * (p - f i) := Int.mul_nonneg (by omega) (by omega)
    rw [if_neg c, if_neg (fun c => c.1 (gt_ h1)), if_neg (fun c => by
      have d := c.2.2
      rw [show f i - p = - (p - f i) from by omega, Int.mul_neg] at d; omega)]
theorem turn_box {X Y W H s p q : Int} {f g : Nat → Int} (h : Box X Y W H f g s) (n : Nat) (hq : Y ≤ q) (hq' : q < Y + H) (hp : X ≤ p) :
    turnS (fun i => f (i % 4)) (fun i => g (i % 4)) p q (4 * n) (4 * n) = if p < X + W then s * n else 0 := by
  rw [turn_sum]
  have e := sum_four (turnZ f g p q) n n (Nat.le_refl _)
  refine Eq.trans e ?_
  have r : turnZ f g p q 0 1 + turnZ f g p q 1 2 + turnZ f g p q 2 3 + turnZ f g p q 3 0 = if p < X + W then s else 0 := by
    cases h
    · rw [turn_low (i := 0) (j := 1) (by exact hq) (by exact hq), turn_up (i := 1) (j := 2) (by exact hq) (by exact hq') rfl, turn_high (i := 2) (j := 3) (by exact hq') (by exact hq'), turn_down (i := 3) (j := 0) (by exact hq') (by exact hq) rfl]
      simp only [cx]
      split <;> split <;> omega
    · rw [turn_high (i := 0) (j := 1) (by exact hq') (by exact hq'), turn_down (i := 1) (j := 2) (by exact hq') (by exact hq) rfl, turn_low (i := 2) (j := 3) (by exact hq) (by exact hq), turn_up (i := 3) (j := 0) (by exact hq) (by exact hq') rfl]
      simp only [cx, Nat.reduceSub]
      split <;> split <;> omega
  rw [r]
  split
  · rw [Int.mul_comm]
  · rw [Int.mul_zero]
theorem far_le {a b : Nat → Int} {p q Z : Int} (h0 : 0 ≤ Z) : ∀ k : Nat, (∀ i, i < k → (a i - p) * (a i - p) + (b i - q) * (b i - q) ≤ Z) → farS a b p q k ≤ Z
  | 0, _ => h0
  | k + 1, h => by have := far_le h0 k fun i hi => h i (by omega); have := h k (by omega); rw [farS]; omega
theorem le_far {a b : Nat → Int} {p q : Int} {i : Nat} : ∀ k : Nat, i < k → (a i - p) * (a i - p) + (b i - q) * (b i - q) ≤ farS a b p q k
  | 0, h => by omega
  | k + 1, h => by
    rw [farS]
    by_cases c : i < k
    · have := le_far (a := a) (b := b) (p := p) (q := q) k c; omega
    · obtain rfl : i = k := by omega
      omega
theorem far_box {X Y W H s : Int} {f g : Nat → Int} (h : Box X Y W H f g s) (n : Nat) (hn : 0 < n) : farS (fun i => f (i % 4)) (fun i => g (i % 4)) X Y (4 * n) = W * W + H * H := by
  have w0 : 0 ≤ W * W := by rcases Int.le_total 0 W with c | c; exact Int.mul_nonneg c c; exact Int.mul_nonneg_of_nonpos_of_nonpos c c
  have h0 : 0 ≤ H * H := by rcases Int.le_total 0 H with c | c; exact Int.mul_nonneg c c; exact Int.mul_nonneg_of_nonpos_of_nonpos c c
  have ev : ∀ r, r < 4 → (f r - X = 0 ∨ f r - X = W) ∧ (g r - Y = 0 ∨ g r - Y = H) := by
    intro r hr
    cases h <;> match r, hr with
      | 0, _ => simp only [cx, cy, Nat.reduceSub]; omega
      | 1, _ => simp only [cx, cy, Nat.reduceSub]; omega
      | 2, _ => simp only [cx, cy, Nat.reduceSub]; omega
      | 3, _ => simp only [cx, cy, Nat.reduceSub]; omega
  refine Int.le_antisymm (far_le (by omega) _ fun i hi => ?_) ?_
  · have := ev (i % 4) (Nat.mod_lt _ (by decide))
    show (f (i % 4) - X) * (f (i % 4) - X) + (g (i % 4) - Y) * (g (i % 4) - Y) ≤ _
    rcases this with ⟨a | a, b | b⟩ <;> rw [a, b] <;> omega
  · cases h
    · have := le_far (a := fun i => cx X W (i % 4)) (b := fun i => cy Y H (i % 4)) (p := X) (q := Y) (i := 2) (4 * n) (by omega)
      refine Int.le_trans (Int.le_of_eq ?_) this
      show _ = (X + W - X) * (X + W - X) + (Y + H - Y) * (Y + H - Y)
      rw [show X + W - X = W from by omega, show Y + H - Y = H from by omega]
    · have := le_far (a := fun i => cx X W (3 - i % 4)) (b := fun i => cy Y H (3 - i % 4)) (p := X) (q := Y) (i := 1) (4 * n) (by omega)
      refine Int.le_trans (Int.le_of_eq ?_) this
      show _ = (X + W - X) * (X + W - X) + (Y + H - Y) * (Y + H - Y)
      rw [show X + W - X = W from by omega, show Y + H - Y = H from by omega]
end Go.Proofs.Ytcbpocannmconaa
