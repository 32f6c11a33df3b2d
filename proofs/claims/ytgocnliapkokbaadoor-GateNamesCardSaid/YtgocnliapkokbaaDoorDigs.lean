/- Digits of sixteen bits as integers: sums, differences, products, halves. No program. -/
import Derived.Test.YtgocnliapkokbaaDoorPair
namespace Go.Proofs.YtgocnliapkokbaaDoor.Kn
def dgN (n : Int) (i : Nat) : Int := n / 65536 ^ i % 65536
theorem dgN0 (n : Int) (i : Nat) : 0 ≤ dgN n i := by unfold dgN; omega
theorem dgN1 (n : Int) (i : Nat) : dgN n i ≤ 65535 := by unfold dgN; omega
theorem pp (k : Nat) : (0 : Int) < 65536 ^ k := Int.pow_pos (by decide)
/-- The carry into digit k of a sum; the borrow of a difference. -/
def cy (a b : Int) (k : Nat) : Int := (a % 65536 ^ k + b % 65536 ^ k) / 65536 ^ k
def bw (a b : Int) (k : Nat) : Int := if a % 65536 ^ k < b % 65536 ^ k then 1 else 0
theorem cy_zero (a b : Int) : cy a b 0 = 0 := by unfold cy; simp [Int.emod_one]
theorem bw_zero (a b : Int) : bw a b 0 = 0 := by unfold bw; simp [Int.emod_one]
theorem cy0 (a b : Int) (k : Nat) : 0 ≤ cy a b k := by
  unfold cy
  exact Int.ediv_nonneg (Int.add_nonneg (Int.emod_nonneg _ (Int.ne_of_gt (pp k))) (Int.emod_nonneg _ (Int.ne_of_gt (pp k)))) (Int.le_of_lt (pp k))
theorem cy1 (a b : Int) (k : Nat) : cy a b k ≤ 1 := by
  have h1 := Int.emod_lt_of_pos a (pp k)
  have h2 := Int.emod_lt_of_pos b (pp k)
  have : cy a b k < 2 := by unfold cy; apply Int.ediv_lt_of_lt_mul (pp k); omega
  omega
theorem bw0 (a b : Int) (k : Nat) : 0 ≤ bw a b k := by unfold bw; split <;> omega
theorem bw1 (a b : Int) (k : Nat) : bw a b k ≤ 1 := by unfold bw; split <;> omega
theorem mod_succ (a : Int) (k : Nat) : a % 65536 ^ (k + 1) = dgN a k * 65536 ^ k + a % 65536 ^ k := by
  have e := Int.mul_ediv_add_emod a (65536 ^ k)
  have e2 := Int.mul_ediv_add_emod a (65536 ^ (k + 1))
  have e3 := Int.mul_ediv_add_emod (a / 65536 ^ k) 65536
  have e4 : a / 65536 ^ (k + 1) = a / 65536 ^ k / 65536 := by rw [Int.pow_succ, Int.ediv_ediv_of_nonneg (Int.le_of_lt (pp k))]
  rw [e4, Int.pow_succ] at e2
  unfold dgN
  rw [Int.pow_succ]
  have e5 : 65536 ^ k * (65536 * (a / 65536 ^ k / 65536) + a / 65536 ^ k % 65536) = 65536 ^ k * (a / 65536 ^ k) := by rw [e3]
  rw [Int.mul_add, ← Int.mul_assoc] at e5
  rw [Int.mul_comm (a / 65536 ^ k % 65536)]
  omega
theorem div_sum (a b : Int) (k : Nat) : (a + b) / 65536 ^ k = a / 65536 ^ k + b / 65536 ^ k + cy a b k := by
  have e := Int.mul_ediv_add_emod a (65536 ^ k)
  have e2 := Int.mul_ediv_add_emod b (65536 ^ k)
  have h : a + b = (a % 65536 ^ k + b % 65536 ^ k) + (a / 65536 ^ k + b / 65536 ^ k) * 65536 ^ k := by
    rw [Int.add_mul, Int.mul_comm (a / 65536 ^ k), Int.mul_comm (b / 65536 ^ k)]; omega
  rw [h, Int.add_mul_ediv_right _ _ (Int.ne_of_gt (pp k))]
  unfold cy
  have g := Int.emod_emod_of_dvd
  generalize (a % 65536 ^ k + b % 65536 ^ k) / 65536 ^ k = z
  omega
theorem cy_step (a b : Int) (k : Nat) : (dgN a k + dgN b k + cy a b k) % 65536 = dgN (a + b) k := by
  unfold dgN
  rw [div_sum a b k]
  omega
theorem cy_next (a b : Int) (k : Nat) : (dgN a k + dgN b k + cy a b k) / 65536 = cy a b (k + 1) := by
  have h : a % 65536 ^ (k + 1) + b % 65536 ^ (k + 1) = (a % 65536 ^ k + b % 65536 ^ k) + (dgN a k + dgN b k) * 65536 ^ k := by
    rw [mod_succ, mod_succ, Int.add_mul]; omega
  unfold cy
  rw [h, Int.pow_succ, ← Int.ediv_ediv_of_nonneg (Int.le_of_lt (pp k)), Int.add_mul_ediv_right _ _ (Int.ne_of_gt (pp k))]
  congr 1; omega
theorem div_diff (a b : Int) (k : Nat) : (a - b) / 65536 ^ k = a / 65536 ^ k - b / 65536 ^ k - bw a b k := by
  have e := Int.mul_ediv_add_emod a (65536 ^ k)
  have e2 := Int.mul_ediv_add_emod b (65536 ^ k)
  have p := pp k
  have a0 := Int.emod_nonneg a (Int.ne_of_gt p)
  have a1 := Int.emod_lt_of_pos a p
  have b0 := Int.emod_nonneg b (Int.ne_of_gt p)
  have b1 := Int.emod_lt_of_pos b p
  have h : a - b = (a % 65536 ^ k - b % 65536 ^ k) + (a / 65536 ^ k - b / 65536 ^ k) * 65536 ^ k := by
    rw [Int.sub_mul, Int.mul_comm (a / 65536 ^ k), Int.mul_comm (b / 65536 ^ k)]; omega
  rw [h, Int.add_mul_ediv_right _ _ (Int.ne_of_gt p)]
  unfold bw
  split
  · have : (a % 65536 ^ k - b % 65536 ^ k) / 65536 ^ k = -1 := by
      rw [show a % 65536 ^ k - b % 65536 ^ k = (a % 65536 ^ k - b % 65536 ^ k + 65536 ^ k) + (-1) * 65536 ^ k by omega, Int.add_mul_ediv_right _ _ (Int.ne_of_gt p), Int.ediv_eq_zero_of_lt (by omega) (by omega)]
      rfl
    omega
  · rw [Int.ediv_eq_zero_of_lt (by omega) (by omega)]; omega
theorem bw_step (a b : Int) (k : Nat) : dgN (a - b) k = if dgN a k - dgN b k - bw a b k < 0 then dgN a k - dgN b k - bw a b k + 65536 else dgN a k - dgN b k - bw a b k := by
  have h0 := bw0 a b k
  have h1 := bw1 a b k
  unfold dgN
  rw [div_diff a b k]
  split <;> omega
theorem bw_next (a b : Int) (k : Nat) : bw a b (k + 1) = if dgN a k - dgN b k - bw a b k < 0 then 1 else 0 := by
  have p := pp k
  have a0 := Int.emod_nonneg a (Int.ne_of_gt p)
  have a1 := Int.emod_lt_of_pos a p
  have b0 := Int.emod_nonneg b (Int.ne_of_gt p)
  have b1 := Int.emod_lt_of_pos b p
  unfold bw
  rw [mod_succ, mod_succ]
  generalize dgN a k = x
  generalize dgN b k = y
  have key : x * 65536 ^ k + a % 65536 ^ k < y * 65536 ^ k + b % 65536 ^ k ↔ x < y ∨ x = y ∧ a % 65536 ^ k < b % 65536 ^ k := by
    generalize (65536 : Int) ^ k = P at *
    generalize a % P = u at *
    generalize b % P = v at *
    constructor
    · intro h
      rcases Int.lt_trichotomy x y with h2 | h2 | h2
      · exact .inl h2
      · subst h2; exact .inr ⟨rfl, by omega⟩
      · have := Int.mul_le_mul_of_nonneg_right (show y + 1 ≤ x by omega) (Int.le_of_lt p)
        rw [Int.add_mul] at this; omega
    · rintro (h | ⟨rfl, h⟩)
      · have := Int.mul_le_mul_of_nonneg_right (show x + 1 ≤ y by omega) (Int.le_of_lt p)
        rw [Int.add_mul] at this; omega
      · omega
  by_cases hh : a % 65536 ^ k < b % 65536 ^ k
  · rw [if_pos hh]
    by_cases h2 : x ≤ y
    · rw [if_pos (key.2 (by omega)), if_pos (by omega)]
    · rw [if_neg (fun h => by have := key.1 h; omega), if_neg (by omega)]
  · rw [if_neg hh]
    by_cases h2 : x < y
    · rw [if_pos (key.2 (by omega)), if_pos (by omega)]
    · rw [if_neg (fun h => by have := key.1 h; omega), if_neg (by omega)]
def lv (f : Nat → Int) : Nat → Int
  | 0 => ((f 3 * 65536 + f 2) * 65536 + f 1) * 65536 + f 0
  | 1 => (f 3 * 65536 + f 2) * 65536 + f 1
  | 2 => f 3 * 65536 + f 2
  | 3 => f 3
  | _ => 0
def up (f : Nat → Int) : Nat → Int := fun i => f (i + 4)
theorem val_lo (m : Int) : lv (dgN m) 0 = lo (m % 340282366920938463463374607431768211456) := by
  unfold lv dgN lo
  simp only [show (65536 : Int) ^ 0 = 1 from rfl, show (65536 : Int) ^ 1 = 65536 from rfl, show (65536 : Int) ^ 2 = 4294967296 from rfl, show (65536 : Int) ^ 3 = 281474976710656 from rfl]
  omega
theorem val_hi (m : Int) : lv (up (dgN m)) 0 = hi (m % 340282366920938463463374607431768211456) := by
  unfold lv up dgN hi
  simp only [show (65536 : Int) ^ (0 + 4) = 18446744073709551616 from rfl, show (65536 : Int) ^ (1 + 4) = 1208925819614629174706176 from rfl, show (65536 : Int) ^ (2 + 4) = 79228162514264337593543950336 from rfl, show (65536 : Int) ^ (3 + 4) = 5192296858534827628530496329220096 from rfl]
  omega
theorem lv_congr (f g : Nat → Int) (h : ∀ i, i < 4 → f i = g i) : lv f 0 = lv g 0 := by
  unfold lv; rw [h 0 (by omega), h 1 (by omega), h 2 (by omega), h 3 (by omega)]
/-- Digit i of a number of two halves. -/
def dg (h l : Int) (i : Nat) : Int := if i < 4 then l / 2 ^ (16 * i) % 65536 else h / 2 ^ (16 * (i - 4)) % 65536
theorem dg_num (h l : Int) (i : Nat) (hi : i < 8) (l0 : 0 ≤ l) (l1 : l ≤ 18446744073709551615) : dg h l i = dgN (num h l) i := by
  unfold dgN num
  match i, hi with
  | 0, _ => show l / 1 % 65536 = _ / 1 % 65536; omega
  | 1, _ => show l / 65536 % 65536 = _ / 65536 % 65536; omega
  | 2, _ => show l / 4294967296 % 65536 = _ / 4294967296 % 65536; omega
  | 3, _ => show l / 281474976710656 % 65536 = _ / 281474976710656 % 65536; omega
  | 4, _ => show h / 1 % 65536 = _ / 18446744073709551616 % 65536; omega
  | 5, _ => show h / 65536 % 65536 = _ / 1208925819614629174706176 % 65536; omega
  | 6, _ => show h / 4294967296 % 65536 = _ / 79228162514264337593543950336 % 65536; omega
  | 7, _ => show h / 281474976710656 % 65536 = _ / 5192296858534827628530496329220096 % 65536; omega
theorem cy_eight (a b : Int) (a0 : 0 ≤ a) (a1 : a < 340282366920938463463374607431768211456) (b0 : 0 ≤ b) (b1 : b < 340282366920938463463374607431768211456) : decide (0 < cy a b 8) = overB a b := by
  unfold cy overB
  rw [show (65536 : Int) ^ 8 = 340282366920938463463374607431768211456 from rfl]
  congr 1
  apply propext
  omega
theorem bw_eight (a b : Int) (a0 : 0 ≤ a) (a1 : a < 340282366920938463463374607431768211456) (b0 : 0 ≤ b) (b1 : b < 340282366920938463463374607431768211456) : decide (0 < bw a b 8) = underB a b := by
  unfold bw underB
  rw [show (65536 : Int) ^ 8 = 340282366920938463463374607431768211456 from rfl, Int.emod_eq_of_lt a0 a1, Int.emod_eq_of_lt b0 b1]
  by_cases h : a < b <;> simp [h]
end Go.Proofs.YtgocnliapkokbaaDoor.Kn
