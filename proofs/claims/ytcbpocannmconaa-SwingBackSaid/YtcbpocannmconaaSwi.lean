/- Package swing: sums round a way: joined, begun elsewhere, from behind, moved, turned. -/
import Derived.Test.YtcbpocannmconaaSwh
namespace Go.Proofs.Ytcbpocannmconaa
open Go.RowKit
set_option linter.unusedVariables false
set_option linter.unusedSimpArgs false
def sumZ (H : Nat → Int) : Nat → Int
  | 0 => 0
  | k + 1 => sumZ H k + H k
theorem sumZ_congr {H K : Nat → Int} : ∀ k : Nat, (∀ i, i < k → H i = K i) → sumZ H k = sumZ K k
  | 0, _ => rfl
  | k + 1, h => by rw [sumZ, sumZ, sumZ_congr k fun i hi => h i (by omega), h k (by omega)]
theorem sumZ_head (H : Nat → Int) : ∀ k : Nat, sumZ H (k + 1) = H 0 + sumZ (fun i => H (i + 1)) k
  | 0 => by simp [sumZ]
  | k + 1 => by rw [sumZ, sumZ_head H k, sumZ]; omega
theorem sumZ_neg (H : Nat → Int) : ∀ k : Nat, sumZ (fun i => - H i) k = - sumZ H k
  | 0 => rfl
  | k + 1 => by rw [sumZ, sumZ, sumZ_neg H k]; omega
theorem sumZ_add (H K : Nat → Int) : ∀ k : Nat, sumZ (fun i => H i + K i) k = sumZ H k + sumZ K k
  | 0 => rfl
  | k + 1 => by rw [sumZ, sumZ, sumZ, sumZ_add H K k]; omega
theorem sumZ_rev (H : Nat → Int) : ∀ k : Nat, sumZ (fun i => H (k - 1 - i)) k = sumZ H k
  | 0 => rfl
  | k + 1 => by
    rw [sumZ_head, sumZ]
    have e := sumZ_rev H k
    rw [sumZ_congr (K := fun i => H (k - 1 - i)) k (fun i hi => by show H _ = H _; congr 1; omega), e]
    simp only [Nat.add_sub_cancel, Nat.sub_zero]; omega
theorem sumZ_rot1 (H : Nat → Int) (n : Nat) : sumZ (fun i => H ((i + 1) % n)) n = sumZ H n := by
  cases n with
  | zero => rfl
  | succ n =>
    rw [sumZ_head H, sumZ, Nat.mod_self, sumZ_congr (K := fun i => H (i + 1)) n (fun i hi => by show H _ = H _; rw [Nat.mod_eq_of_lt (by omega)])]
    omega
theorem sumZ_rot (H : Nat → Int) (n : Nat) : ∀ k : Nat, sumZ (fun i => H ((k + i) % n)) n = sumZ H n
  | 0 => sumZ_congr n fun i hi => by show H _ = H _; rw [Nat.zero_add, Nat.mod_eq_of_lt hi]
  | k + 1 => by
    rw [← sumZ_rot H n k, ← sumZ_rot1 (fun i => H ((k + i) % n)) n]
    exact sumZ_congr n fun i hi => by show H _ = H _; rw [Nat.add_mod_mod]; congr 2; omega
theorem area_sum (a b : Nat → Int) (n : Nat) : ∀ k, areaS a b n k = sumZ (fun i => crossZ a b i ((i + 1) % n)) k
  | 0 => rfl
  | k + 1 => by rw [areaS, sumZ, area_sum a b n k]
theorem turn_sum (a b : Nat → Int) (p q : Int) (n : Nat) : ∀ k, turnS a b p q n k = sumZ (fun i => turnZ a b p q i ((i + 1) % n)) k
  | 0 => rfl
  | k + 1 => by rw [turnS, sumZ, turn_sum a b p q n k]
/-- Round two ways that begin at one point. -/
theorem sum_join (F F' G : Nat → Nat → Int) (n m : Nat) (hn : 0 < n) (hm : 0 < m) (h1 : ∀ i j, i < n → j < n → G i j = F i j) (h1b : ∀ i, i < n → G i n = F i 0)
    (h2 : ∀ i j, i < m → j < m → G (n + i) (n + j) = F' i j) (h2b : ∀ i, i < m → G (n + i) 0 = F' i 0) :
    sumZ (fun i => G i ((i + 1) % (n + m))) (n + m) = sumZ (fun i => F i ((i + 1) % n)) n + sumZ (fun i => F' i ((i + 1) % m)) m := by
  have c1 : ∀ k, k ≤ n → sumZ (fun i => G i ((i + 1) % (n + m))) k = sumZ (fun i => F i ((i + 1) % n)) k := fun k hk => sumZ_congr k fun i hi => by
    show G _ _ = F _ _
    rw [Nat.mod_eq_of_lt (a := i + 1) (b := n + m) (by omega)]
    by_cases c : i + 1 < n
    · rw [Nat.mod_eq_of_lt c]; exact h1 i _ (by omega) c
    · have e : i + 1 = n := by omega
      rw [e, Nat.mod_self]; exact h1b i (by omega)
  have c2 : ∀ k, k ≤ m → sumZ (fun i => G i ((i + 1) % (n + m))) (n + k) = sumZ (fun i => F i ((i + 1) % n)) n + sumZ (fun i => F' i ((i + 1) % m)) k := by
    intro k
    induction k with
    | zero => intro _; rw [Nat.add_zero, c1 n (Nat.le_refl _)]; simp [sumZ]
    | succ k ih =>
      intro hk
      rw [← Nat.add_assoc, sumZ, ih (by omega), sumZ]
      have e : G (n + k) ((n + k + 1) % (n + m)) = F' k ((k + 1) % m) := by
        by_cases c : k + 1 < m
        · rw [Nat.mod_eq_of_lt (a := n + k + 1) (b := n + m) (by omega), Nat.mod_eq_of_lt c]; exact h2 k (k + 1) (by omega) c
        · have e : k + 1 = m := by omega
          rw [Nat.add_assoc, e, Nat.mod_self, Nat.mod_self]; exact h2b k (by omega)
      rw [e]; omega
  exact c2 m (Nat.le_refl _)
theorem jn_lt {n : Nat} {a a' : Nat → Int} {i : Nat} (h : i < n) : jn n a a' i = a i := by simp [jn, h]
theorem jn_ge {n : Nat} {a a' : Nat → Int} (i : Nat) : jn n a a' (n + i) = a' i := by unfold jn; rw [if_neg (by omega), Nat.add_sub_cancel_left]
theorem jn_at {n : Nat} {a a' : Nat → Int} : jn n a a' n = a' 0 := by simp [jn]
theorem jn_zero (a a' : Nat → Int) : jn 0 a a' = a' := by funext i; simp [jn]
theorem area_join {a b a' b' : Nat → Int} {n m : Nat} (hn : 0 < n) (hm : 0 < m) (ha : a' 0 = a 0) (hb : b' 0 = b 0) : areaS (jn n a a') (jn n b b') (n + m) (n + m) = areaS a b n n + areaS a' b' m m := by
  rw [area_sum, area_sum, area_sum]
  refine sum_join (crossZ a b) (crossZ a' b') _ n m hn hm ?_ ?_ ?_ ?_
  · intro i j hi hj; simp only [crossZ, jn_lt hi, jn_lt hj]
  · intro i hi; simp only [crossZ, jn_lt hi, jn_at, ha, hb]
  · intro i j hi hj; simp only [crossZ, jn_ge]
  · intro i hi; simp only [crossZ, jn_ge, jn_lt hn, ha, hb]
theorem turn_join {a b a' b' : Nat → Int} {n m : Nat} (p q : Int) (hn : 0 < n) (hm : 0 < m) (ha : a' 0 = a 0) (hb : b' 0 = b 0) : turnS (jn n a a') (jn n b b') p q (n + m) (n + m) = turnS a b p q n n + turnS a' b' p q m m := by
  rw [turn_sum, turn_sum, turn_sum]
  refine sum_join (turnZ a b p q) (turnZ a' b' p q) _ n m hn hm ?_ ?_ ?_ ?_
  · intro i j hi hj; simp only [turnZ, sideZ, jn_lt hi, jn_lt hj]
  · intro i hi; simp only [turnZ, sideZ, jn_lt hi, jn_at, ha, hb]
  · intro i j hi hj; simp only [turnZ, sideZ, jn_ge]
  · intro i hi; simp only [turnZ, sideZ, jn_ge, jn_lt hn, ha, hb]
theorem far_congr {a b a' b' : Nat → Int} {p q p' q' : Int} : ∀ k : Nat, (∀ i, i < k → (a i - p) * (a i - p) + (b i - q) * (b i - q) = (a' i - p') * (a' i - p') + (b' i - q') * (b' i - q')) → farS a b p q k = farS a' b' p' q' k
  | 0, _ => rfl
  | k + 1, h => by rw [farS, farS, far_congr k fun i hi => h i (by omega), h k (by omega)]
theorem far_pos (a b : Nat → Int) (p q : Int) : ∀ k : Nat, 0 ≤ farS a b p q k
  | 0 => Int.le_refl _
  | k + 1 => by have := far_pos a b p q k; rw [farS]; omega
theorem far_join {a b a' b' : Nat → Int} (n : Nat) (p q : Int) : ∀ m : Nat, farS (jn n a a') (jn n b b') p q (n + m) = max (farS a b p q n) (farS a' b' p q m)
  | 0 => by
    have e : farS (jn n a a') (jn n b b') p q n = farS a b p q n := far_congr n fun i hi => by rw [jn_lt hi, jn_lt hi]
    have := far_pos a b p q n
    rw [Nat.add_zero, e]; simp only [farS]; omega
  | m + 1 => by rw [← Nat.add_assoc, farS, far_join n p q m, farS, jn_ge, jn_ge]; omega
/-- Begun at the k-th point. -/
theorem rot_at {a : Nat → Int} {n k i : Nat} (hk : k < n) (hi : i < n) : jn (n - k) (fun i => a (k + i)) a i = a ((k + i) % n) := by
  unfold jn
  split
  · rw [Nat.mod_eq_of_lt (by omega)]
  · rw [Nat.mod_eq_sub_mod (by omega), Nat.mod_eq_of_lt (by omega)]; congr 1; omega
theorem area_congr {a b a' b' : Nat → Int} (n : Nat) (h : ∀ i, i < n → a i = a' i ∧ b i = b' i) : areaS a b n n = areaS a' b' n n := by
  rw [area_sum, area_sum]
  refine sumZ_congr n fun i hi => ?_
  have hj : (i + 1) % n < n := Nat.mod_lt _ (by omega)
  show crossZ _ _ _ _ = crossZ _ _ _ _
  unfold crossZ
  rw [(h i hi).1, (h i hi).2, (h _ hj).1, (h _ hj).2]
theorem turn_congr {a b a' b' : Nat → Int} (p q : Int) (n : Nat) (h : ∀ i, i < n → a i = a' i ∧ b i = b' i) : turnS a b p q n n = turnS a' b' p q n n := by
  rw [turn_sum, turn_sum]
  refine sumZ_congr n fun i hi => ?_
  have hj : (i + 1) % n < n := Nat.mod_lt _ (by omega)
  show turnZ _ _ _ _ _ _ = turnZ _ _ _ _ _ _
  unfold turnZ sideZ
  rw [(h i hi).1, (h i hi).2, (h _ hj).1, (h _ hj).2]
theorem mod_next (k i n : Nat) : (k + (i + 1) % n) % n = ((k + i) % n + 1) % n := by
  rw [Nat.add_mod_mod, Nat.mod_add_mod]; congr 1
theorem area_rot (a b : Nat → Int) {n k : Nat} (hk : k < n) : areaS (jn (n - k) (fun i => a (k + i)) a) (jn (n - k) (fun i => b (k + i)) b) n n = areaS a b n n := by
  rw [area_congr (a' := fun i => a ((k + i) % n)) (b' := fun i => b ((k + i) % n)) n fun i hi => ⟨rot_at hk hi, rot_at hk hi⟩, area_sum, area_sum]
  refine Eq.trans ?_ (sumZ_rot (fun i => crossZ a b i ((i + 1) % n)) n k)
  refine sumZ_congr n fun i hi => ?_
  show crossZ _ _ _ _ = crossZ _ _ _ _
  unfold crossZ
  simp only [mod_next]
theorem turn_rot (a b : Nat → Int) (p q : Int) {n k : Nat} (hk : k < n) : turnS (jn (n - k) (fun i => a (k + i)) a) (jn (n - k) (fun i => b (k + i)) b) p q n n = turnS a b p q n n := by
  rw [turn_congr (a' := fun i => a ((k + i) % n)) (b' := fun i => b ((k + i) % n)) p q n fun i hi => ⟨rot_at hk hi, rot_at hk hi⟩, turn_sum, turn_sum]
  refine Eq.trans ?_ (sumZ_rot (fun i => turnZ a b p q i ((i + 1) % n)) n k)
  refine sumZ_congr n fun i hi => ?_
  show turnZ _ _ _ _ _ _ = turnZ _ _ _ _ _ _
  unfold turnZ sideZ
  simp only [mod_next]
theorem cross_swap (a b : Nat → Int) (i j : Nat) : crossZ a b i j = - crossZ a b j i := by
  unfold crossZ
  rw [Int.mul_comm (a j) (b i), Int.mul_comm (b j) (a i)]; omega
theorem area_back (a b : Nat → Int) (n : Nat) : areaS (fun i => a (n - 1 - i)) (fun i => b (n - 1 - i)) n n = - areaS a b n n := by
  cases n with
  | zero => rfl
  | succ n =>
    rw [area_sum, area_sum, sumZ, sumZ]
    have e1 : sumZ (fun i => crossZ (fun i => a (n + 1 - 1 - i)) (fun i => b (n + 1 - 1 - i)) i ((i + 1) % (n + 1))) n = sumZ (fun i => - (fun i => crossZ a b i ((i + 1) % (n + 1))) (n - 1 - i)) n := by
      refine sumZ_congr n fun i hi => ?_
      rw [Nat.mod_eq_of_lt (a := i + 1) (by omega)]
      show crossZ _ _ _ _ = - crossZ a b (n - 1 - i) _
      rw [Nat.mod_eq_of_lt (a := n - 1 - i + 1) (by omega), ← cross_swap]
      unfold crossZ
      simp only
      rw [show n + 1 - 1 - (i + 1) = n - 1 - i from by omega, show n + 1 - 1 - i = n - 1 - i + 1 from by omega]
    rw [e1, sumZ_neg, sumZ_rev (fun i => crossZ a b i ((i + 1) % (n + 1))) n, Nat.mod_self]
    have e2 : crossZ (fun i => a (n + 1 - 1 - i)) (fun i => b (n + 1 - 1 - i)) n 0 = - crossZ a b n 0 := by
      rw [← cross_swap]
      unfold crossZ
      simp
    rw [e2]; omega
theorem area_moved (a b : Nat → Int) (u v : Int) (n : Nat) : areaS (fun i => a i + u) (fun i => b i + v) n n = areaS a b n n := by
  rw [area_sum, area_sum]
  have e : ∀ i, crossZ (fun i => a i + u) (fun i => b i + v) i ((i + 1) % n) = crossZ a b i ((i + 1) % n) + ((a i * v - b i * u) + - (a ((i + 1) % n) * v - b ((i + 1) % n) * u)) := by
    intro i
    unfold crossZ
    simp only
    generalize a i = a1
    generalize b i = b1
    generalize a ((i + 1) % n) = a2
    generalize b ((i + 1) % n) = b2
    rw [Int.add_mul, Int.mul_add, Int.mul_add, Int.add_mul, Int.mul_add, Int.mul_add, Int.mul_comm u b2, Int.mul_comm v a2, Int.mul_comm v u]
    omega
  rw [sumZ_congr n fun i _ => e i, sumZ_add, sumZ_add, sumZ_neg (fun i => a ((i + 1) % n) * v - b ((i + 1) % n) * u), sumZ_rot1 (fun i => a i * v - b i * u) n]
  omega
theorem compare_add (x y z : Int) : compare (x + z) (y + z) = compare x y := by
  rcases Int.lt_trichotomy x y with h | h | h
  · rw [Int.compare_eq_lt.2 h, Int.compare_eq_lt.2 (by omega)]
  · subst h; simp
  · rw [Int.compare_eq_gt.2 h, Int.compare_eq_gt.2 (by omega)]
theorem turn_moved (a b : Nat → Int) (u v p q : Int) (n k : Nat) : turnS (fun i => a i + u) (fun i => b i + v) (p + u) (q + v) n k = turnS a b p q n k := by
  rw [turn_sum, turn_sum]
  refine sumZ_congr k fun i hi => ?_
  show turnZ _ _ _ _ _ _ = turnZ _ _ _ _ _ _
  unfold turnZ sideZ
  simp only [compare_add, Int.add_sub_add_right]
theorem area_turned (a b : Nat → Int) (n k : Nat) : areaS (fun i => - b i) a n k = areaS a b n k := by
  rw [area_sum, area_sum]
  refine sumZ_congr k fun i hi => ?_
  show crossZ _ _ _ _ = crossZ _ _ _ _
  unfold crossZ
  simp only
  rw [Int.neg_mul, Int.mul_neg]; omega
theorem far_turned (a b : Nat → Int) (p q : Int) (k : Nat) : farS (fun i => - b i) a (-q) p k = farS a b p q k :=
  far_congr k fun i hi => by
    rw [show - b i - -q = -(b i - q) from by omega, Int.neg_mul_neg]; omega
end Go.Proofs.Ytcbpocannmconaa
