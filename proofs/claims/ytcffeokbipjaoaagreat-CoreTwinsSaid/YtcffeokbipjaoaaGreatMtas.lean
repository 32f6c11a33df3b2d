/- Texts of this claim, one behind the other: Nums Pair Sat Satb Div. -/
import Derived.Lib.BitFns
import Derived.Lib.ItoaNum
import Derived.Laws.BitsLemmas
import Derived.Laws.Bits64
import Derived.Laws.BitsAllLaws
import Derived.Below
import Derived.Deep.Draws
import Derived.WalkKit
import Derived.ProofKit
import Derived.OpenShut
import Derived.BigQuiet
import Derived.Deep.QuietTactic
import Derived.Lib.Hide
import Derived.LoopTactic
import Derived.Test.YtcffeokbipjaoaaGreatMtak
namespace Go.Proofs.YtcffeokbipjaoaaGreat.Kn
theorem spread (q y1 y0 : Int) : q * (y1 * 4294967296 + y0) = q * y1 * 4294967296 + q * y0 := by
 rw [Int.mul_add, Int.mul_assoc]
theorem top (u u1 y : Int) (hu0 : 0 ≤ u) (hu : u < y) (h1 : u1 < 4294967296) :
   (u * 4294967296 + u1) / y < 4294967296 :=
 Int.ediv_lt_of_lt_mul (by omega) (by omega)
theorem start (u u1 y1 y0 y : Int) (hy : y = y1 * 4294967296 + y0) (hy1 : 2147483648 ≤ y1) (k0 : 0 ≤ y0) (hy0 : y0 < 4294967296) (hu0 : 0 ≤ u) (hu : u < y) (h0 : 0 ≤ u1) (h1 : u1 < 4294967296) :
   u / y1 ≤ 4294967297 ∧ 0 ≤ u / y1 ∧ 0 ≤ u - u / y1 * y1 ∧ u - u / y1 * y1 < y1 ∧ (u * 4294967296 + u1) / y ≤ u / y1 := by
 have e := Int.emod_add_mul_ediv u y1
 have n0 := Int.emod_nonneg u (b := y1) (by omega)
 have n1 := Int.emod_lt_of_pos u (b := y1) (by omega)
 rw [Int.mul_comm] at e
 refine ⟨?_, Int.ediv_nonneg hu0 (by omega), by omega, by omega, ?_⟩
 · have : u / y1 < 4294967298 := Int.ediv_lt_of_lt_mul (by omega) (by omega)
   omega
 · apply (Int.le_ediv_iff_mul_le (by omega)).2
   have h := Int.ediv_mul_le (u * 4294967296 + u1) (b := y) (by omega)
   have hq : 0 ≤ (u * 4294967296 + u1) / y := Int.ediv_nonneg (by omega) (by omega)
   have e2 := spread ((u * 4294967296 + u1) / y) y1 y0
   have e3 : 0 ≤ (u * 4294967296 + u1) / y * y0 := Int.mul_nonneg hq k0
   rw [← hy] at e2
   generalize (u * 4294967296 + u1) / y = Q at h e2 e3 ⊢
   omega
theorem more (u u1 y1 y0 y q r : Int) (hy : y = y1 * 4294967296 + y0) (hu0 : 0 ≤ u) (hu : u < y) (h1 : u1 < 4294967296) (e : q * y1 + r = u)
   (hq : 4294967296 ≤ q ∨ 4294967296 * r + u1 < q * y0) (hQ : (u * 4294967296 + u1) / y ≤ q) (h0 : 0 ≤ u1) :
   1 ≤ q ∧ (u * 4294967296 + u1) / y ≤ q - 1 := by
 have ht := top u u1 y hu0 hu h1
 have hp : 0 ≤ (u * 4294967296 + u1) / y := Int.ediv_nonneg (by omega) (by omega)
 rcases hq with hq | hq
 · omega
 · have e2 := spread q y1 y0
   rw [← hy] at e2
   have h2 : (u * 4294967296 + u1) / y < q := Int.ediv_lt_of_lt_mul (by omega) (by omega)
   omega
theorem brk (u u1 y1 y0 y q r : Int) (hy : y = y1 * 4294967296 + y0) (hp : 0 < y) (k0 : 0 ≤ y0) (hy0 : y0 < 4294967296) (h0 : 0 ≤ u1) (e : q * y1 + r = u) (hr : 4294967296 ≤ r) (hq : q ≤ 4294967296) :
   q ≤ (u * 4294967296 + u1) / y := by
 apply (Int.le_ediv_iff_mul_le hp).2
 have hb : q * y0 ≤ 4294967296 * 4294967295 := Int.mul_le_mul hq (by omega) k0 (by omega)
 have e2 := spread q y1 y0
 rw [← hy] at e2
 omega
theorem stop (u u1 y1 y0 y q r : Int) (hy : y = y1 * 4294967296 + y0) (hp : 0 < y) (e : q * y1 + r = u) (h : q * y0 ≤ 4294967296 * r + u1) :
   q ≤ (u * 4294967296 + u1) / y := by
 apply (Int.le_ediv_iff_mul_le hp).2
 have e2 := spread q y1 y0
 rw [← hy] at e2
 omega
theorem round (u u1 y1 y0 y q r Q : Int) (hQ : Q = (u * 4294967296 + u1) / y) (hy : y = y1 * 4294967296 + y0) (hy1 : 2147483648 ≤ y1) (k0 : 0 ≤ y0) (k1 : y0 ≤ 4294967295)
   (hu0 : 0 ≤ u) (hu : u < y) (h0 : 0 ≤ u1) (h1 : u1 ≤ 4294967295) (q0 : 0 ≤ q) (q1 : q ≤ 4294967297) (e : q * y1 + r = u) (le : Q ≤ q) :
   ((4294967296 ≤ q ∨ q < 4294967296 ∧ 4294967296 * r + u1 < q * y0 ∧ 0 ≤ q * y0 ∧ q * y0 ≤ 18446744073709551615) ∧ q - 1 = Q ∧ 4294967296 ≤ r + y1) ∨
   ((4294967296 ≤ q ∨ q < 4294967296 ∧ 4294967296 * r + u1 < q * y0 ∧ 0 ≤ q * y0 ∧ q * y0 ≤ 18446744073709551615) ∧ 1 ≤ q ∧ r + y1 < 4294967296 ∧ (q - 1) * y1 + (r + y1) = u ∧ Q ≤ q - 1) ∨
   (q < 4294967296 ∧ q = Q ∧ 0 ≤ q * y0 ∧ q * y0 ≤ 4294967296 * r + u1) := by
 have p0 : 0 ≤ q * y0 := Int.mul_nonneg q0 k0
 by_cases hq : 4294967296 ≤ q
 · obtain ⟨a, b⟩ := more u u1 y1 y0 y q r hy hu0 hu (by omega) e (.inl hq) (by omega) h0
   rw [← hQ] at b
   have e3 : (q - 1) * y1 + (r + y1) = u := by rw [Int.sub_mul]; omega
   by_cases hr : 4294967296 ≤ r + y1
   · have := brk u u1 y1 y0 y (q - 1) (r + y1) hy (by omega) k0 (by omega) h0 e3 hr (by omega)
     exact .inl ⟨.inl hq, by omega, hr⟩
   · exact .inr (.inl ⟨.inl hq, a, by omega, e3, b⟩)
 · have p1 : q * y0 ≤ 4294967295 * 4294967295 := Int.mul_le_mul (by omega) k1 k0 (by omega)
   by_cases ht : 4294967296 * r + u1 < q * y0
   · obtain ⟨a, b⟩ := more u u1 y1 y0 y q r hy hu0 hu (by omega) e (.inr ht) (by omega) h0
     rw [← hQ] at b
     have e3 : (q - 1) * y1 + (r + y1) = u := by rw [Int.sub_mul]; omega
     by_cases hr : 4294967296 ≤ r + y1
     · have := brk u u1 y1 y0 y (q - 1) (r + y1) hy (by omega) k0 (by omega) h0 e3 hr (by omega)
       exact .inl ⟨.inr ⟨by omega, ht, p0, by omega⟩, by omega, hr⟩
     · exact .inr (.inl ⟨.inr ⟨by omega, ht, p0, by omega⟩, a, by omega, e3, b⟩)
   · have := stop u u1 y1 y0 y q r hy (by omega) e (by omega)
     exact .inr (.inr ⟨by omega, by omega, p0, by omega⟩)
theorem wraps64 (n : Int) (h₀ : 0 ≤ n) (h₁ : n < 2 ^ 64) : IntKind.u64.wrap n = n := by rw [IntKind.wrap_u64]; omega
theorem and32 (x : Int) (h0 : 0 ≤ x) (h1 : x ≤ 18446744073709551615) : bits .and .u64 x 4294967295 = x % 4294967296 := by
 have h := bits_mask .u64 64 (by decide) wraps64 32 (by decide) x h0 (by omega)
 have e : ((2 : Int) ^ 32 - 1) = 4294967295 := by decide
 have e2 : ((2 : Int) ^ 32) = 4294967296 := by decide
 rw [e, e2] at h
 exact h
theorem pow_add_int (a b : Nat) : (2 : Int) ^ (a + b) = 2 ^ a * 2 ^ b := Int.pow_add 2 a b
theorem bitlen (d : Int) (h0 : 0 < d) (h1 : d ≤ 18446744073709551615) : ∃ n : Nat, Lib.bitLen d.toNat = n ∧ 1 ≤ n ∧ n ≤ 64 ∧
   9223372036854775808 ≤ d * 2 ^ (64 - n) ∧ d * 2 ^ (64 - n) ≤ 18446744073709551615 ∧ (2 : Int) ^ n * 2 ^ (64 - n) = 18446744073709551616 := by
 obtain ⟨m, rfl⟩ := Int.eq_ofNat_of_zero_le (Int.le_of_lt h0)
 have hm : m < 2 ^ 64 := by omega
 obtain ⟨a, b, c⟩ := Lib.bitLenAux_bounds 64 m hm (by omega)
 have hL := Lib.bitLen_le m 64 (Nat.le_refl _) hm
 refine ⟨Lib.bitLen m, rfl, a, hL, ?_⟩
 unfold Lib.bitLen at hL ⊢
 generalize Lib.bitLenAux 64 m = n at a b c hL
 have e1 : (2 : Int) ^ (n - 1) * 2 ^ (64 - n) = 2 ^ 63 := by rw [← pow_add_int]; congr 1; omega
 have e2 : (2 : Int) ^ n * 2 ^ (64 - n) = 2 ^ 64 := by rw [← pow_add_int]; congr 1; omega
 have b' : (2 : Int) ^ (n - 1) ≤ m := by have := Int.ofNat_le.2 b; simpa using this
 have c' : (m : Int) + 1 ≤ 2 ^ n := by have := Int.ofNat_lt.2 c; simp at this; omega
 have p : (0 : Int) < 2 ^ (64 - n) := Int.pow_pos (by decide)
 have l1 := Int.mul_le_mul_of_nonneg_right b' (Int.le_of_lt p)
 have l2 := Int.mul_le_mul_of_nonneg_right c' (Int.le_of_lt p)
 rw [e1] at l1
 rw [e2, Int.add_mul] at l2
 generalize (2 : Int) ^ (64 - n) = P at *
 exact ⟨by omega, by omega, by omega⟩
theorem div_unique (n d q r : Int) (h : n = q * d + r) (h0 : 0 ≤ r) (h1 : r < d) : n / d = q ∧ n % d = r := by
 have hd : d ≠ 0 := by omega
 refine ⟨?_, ?_⟩
 · rw [h, Int.add_comm, Int.add_mul_ediv_right _ _ hd, Int.ediv_eq_zero_of_lt h0 h1]; omega
 · rw [h, Int.add_comm, Int.add_mul_emod_self_right, Int.emod_eq_of_lt h0 h1]
theorem both (N d P y u u1 u0 Q t Q2 R : Int) (hP : 0 < P) (hy : d * P = y) (hN : N * P = u * 18446744073709551616 + (u1 * 4294967296 + u0)) (h1 : u * 4294967296 + u1 = Q * y + t)
   (h2 : t * 4294967296 + u0 = Q2 * y + R) (r0 : 0 ≤ R) (r1 : R < y) : N / d = Q * 4294967296 + Q2 ∧ N % d = R / P := by
 have e : N * P = (Q * 4294967296 + Q2) * y + R := by rw [Int.add_mul, Int.mul_assoc, Int.mul_comm 4294967296 y, ← Int.mul_assoc]; omega
 have e2 : R = (N - (Q * 4294967296 + Q2) * d) * P := by
   rw [Int.sub_mul, Int.mul_assoc _ d P, hy]; omega
 have e3 : R / P = N - (Q * 4294967296 + Q2) * d := by rw [e2]; exact Int.mul_ediv_cancel _ (by omega)
 rw [e3]
 have k0 : 0 ≤ N - (Q * 4294967296 + Q2) * d := by rw [← e3]; exact Int.ediv_nonneg r0 (by omega)
 have k1 : N - (Q * 4294967296 + Q2) * d < d := by rw [← e3]; apply Int.ediv_lt_of_lt_mul hP; omega
 exact div_unique N d _ _ (by omega) k0 k1
end Go.Proofs.YtcffeokbipjaoaaGreat.Kn
namespace Go.Proofs.YtcffeokbipjaoaaGreat.Kn
def num (h l : Int) : Int := h * 18446744073709551616 + l
def hi (n : Int) : Int := n / 18446744073709551616
def lo (n : Int) : Int := n % 18446744073709551616
theorem num_hi_lo (n : Int) : num (hi n) (lo n) = n := by unfold num hi lo; omega
theorem lo0 (n : Int) : 0 ≤ lo n := by unfold lo; omega
theorem lo1 (n : Int) : lo n ≤ 18446744073709551615 := by unfold lo; omega
theorem hi0 (n : Int) (h : 0 ≤ n) : 0 ≤ hi n := by unfold hi; omega
theorem hi1 (n : Int) (h : n < 340282366920938463463374607431768211456) : hi n ≤ 18446744073709551615 := by unfold hi; omega
theorem num0 (h l : Int) (h0 : 0 ≤ h) (l0 : 0 ≤ l) : 0 ≤ num h l := by unfold num; omega
theorem num1 (h l : Int) (h1 : h ≤ 18446744073709551615) (l1 : l ≤ 18446744073709551615) : num h l < 340282366920938463463374607431768211456 := by unfold num; omega
def addN (a b : Int) : Int := (a + b) % 340282366920938463463374607431768211456
def overB (a b : Int) : Bool := decide (340282366920938463463374607431768211456 ≤ a + b)
def subN (a b : Int) : Int := (a - b) % 340282366920938463463374607431768211456
def underB (a b : Int) : Bool := decide (a < b)
def cmpN (a b : Int) : Int := if a < b then -1 else if a = b then 0 else 1
theorem spare (k : Nat) (hk : k ≤ 64) : (2 : Int) ^ k * 2 ^ (64 - k) = 18446744073709551616 := by
 rw [← Int.pow_add, show k + (64 - k) = 64 by omega]; rfl
theorem wrapu (x : Int) : IntKind.u64.wrap x = x % 18446744073709551616 := IntKind.wrap_u64 x
theorem bcell {W w1 : World} (hb : RowKit.Below W.heap.size W w1) : (∀ b o, b < W.heap.size → w1.cell? ⟨b, o, none⟩ = W.cell? ⟨b, o, none⟩) ∧ (∀ b o, b < W.heap.size → w1.frozen? ⟨b, o, none⟩ = W.frozen? ⟨b, o, none⟩) :=
 ⟨fun b o h => hb.cell (p := ⟨b, o, none⟩) h, fun b o h => hb.frozen (p := ⟨b, o, none⟩) h⟩
theorem below_drewN {B : Nat} {a w : World} (h : RowKit.Below B a w) (n : Nat) : RowKit.Below B a (w.drewN n) := ⟨h.os, h.tape, h.output, h.size, h.block⟩
theorem ret_int {k : IntKind} {a b : Int} (h : a = b) : Ending.returned (.int k a) = .returned (.int k b) := by rw [h]
theorem ret_bool {a b : Bool} (h : a = b) : Ending.returned (.bool a) = .returned (.bool b) := by rw [h]
end Go.Proofs.YtcffeokbipjaoaaGreat.Kn
namespace Go.Proofs.YtcffeokbipjaoaaGreat.Kn
def sat (x : Int) : Int := if x > 9223372036854775807 then 9223372036854775807 else if x < -9223372036854775808 then -9223372036854775808 else x
def mag (a : Int) : Int := if a < 0 then -a else a
def negB (a b : Int) : Bool := decide (a < 0) != decide (b < 0)
def downN (neg : Bool) (n r : Int) : Int := if neg then (if r = 0 then -n else -(n + 1)) else n
def prodN (a b : Int) : Int := downN (negB a b) (mag a * mag b / 4294967296) (mag a * mag b % 4294967296)
theorem mag0 (a : Int) : 0 ≤ mag a := by unfold mag; split <;> omega
theorem mag1 (a : Int) (h0 : -9223372036854775808 ≤ a) (h1 : a ≤ 9223372036854775807) : mag a ≤ 9223372036854775808 := by unfold mag; split <;> omega
theorem mul_neg (a b : Int) (h : negB a b = true) : a * b = -(mag a * mag b) := by
 unfold negB at h; unfold mag
 by_cases ha : a < 0 <;> by_cases hb : b < 0 <;> simp [ha, hb, Int.neg_mul, Int.mul_neg] at h ⊢
theorem mul_pos (a b : Int) (h : negB a b = false) : a * b = mag a * mag b := by
 unfold negB at h; unfold mag
 by_cases ha : a < 0 <;> by_cases hb : b < 0 <;> simp [ha, hb, Int.neg_mul, Int.mul_neg] at h ⊢
theorem magmul (a b : Int) (h0 : -9223372036854775808 ≤ a) (h1 : a ≤ 9223372036854775807) (h2 : -9223372036854775808 ≤ b) (h3 : b ≤ 9223372036854775807) : 0 ≤ mag a * mag b ∧ mag a * mag b ≤ 85070591730234615865843651857942052864 :=
 ⟨Int.mul_nonneg (mag0 a) (mag0 b), by have := Int.mul_le_mul (mag1 a h0 h1) (mag1 b h2 h3) (mag0 b) (by omega); omega⟩
end Go.Proofs.YtcffeokbipjaoaaGreat.Kn
namespace Go.Proofs.YtcffeokbipjaoaaGreat.Kn
theorem sat_id (x : Int) (h0 : -9223372036854775808 ≤ x) (h1 : x ≤ 9223372036854775807) : sat x = x := by unfold sat; split <;> (try split) <;> omega
theorem sat_lo (x : Int) : -9223372036854775808 ≤ sat x := by unfold sat; split <;> (try split) <;> omega
theorem sat_up (x : Int) : sat x ≤ 9223372036854775807 := by unfold sat; split <;> (try split) <;> omega
end Go.Proofs.YtcffeokbipjaoaaGreat.Kn
namespace Go.Proofs.YtcffeokbipjaoaaGreat
open Go.ChangeShapes Go.WideShapes Go.ChangeAt Go.RowKit
set_option maxHeartbeats 4000000 in
theorem div64_core (h l d : Int) (w : World) (h0 : 0 < h) (h1 : h < d) (d1 : d ≤ 18446744073709551615)
   (s P y y1 yl u un u1 u0 Q t Q2 R : Int) (hs : s = 64 - (Lib.bitLen d.toNat : Int)) (s0 : 0 ≤ s) (s1 : s ≤ 63) (hP : (2 : Int) ^ s.toNat = P)
   (hy : d * P = y) (b0 : 9223372036854775808 ≤ y) (b1 : y ≤ 18446744073709551615) (hhp0 : 0 ≤ h * P) (hhp1 : h * P ≤ 18446744073709551615)
   (hy1 : y / 4294967296 = y1) (hyl : bits BinOp.and IntKind.u64 y 4294967295 = yl) (c0 : 0 ≤ yl) (c1 : yl ≤ 4294967295) (c2 : y1 * 4294967296 + yl = y)
   (hu : bits BinOp.or IntKind.u64 (h * P) (l / 2 ^ (64 - s).toNat) = u) (e0 : 0 ≤ u) (e1 : u < y)
   (hun : IntKind.u64.wrap (l * P) = un) (hu1 : un / 4294967296 = u1) (hu0 : bits BinOp.and IntKind.u64 un 4294967295 = u0)
   (g0 : 0 ≤ u1) (g1 : u1 ≤ 4294967295) (g2 : 0 ≤ u0) (g3 : u0 ≤ 4294967295)
   (st : u / y1 ≤ 4294967297 ∧ 0 ≤ u / y1 ∧ 0 ≤ u - u / y1 * y1 ∧ u - u / y1 * y1 < y1 ∧ Q ≤ u / y1)
   (kQ : Hid (Q = (u * 4294967296 + u1) / y)) (kQ0 : 0 ≤ Q) (kQ1 : Q ≤ 4294967295)
   (hT : IntKind.u64.wrap (IntKind.u64.wrap (IntKind.u64.wrap (u * 4294967296) + u1) - IntKind.u64.wrap (Q * y)) = t)
   (t0 : 0 ≤ t) (t1 : t < y) (st2 : t / y1 ≤ 4294967297 ∧ 0 ≤ t / y1 ∧ 0 ≤ t - t / y1 * y1 ∧ t - t / y1 * y1 < y1 ∧ Q2 ≤ t / y1)
   (kQ2 : Hid (Q2 = (t * 4294967296 + u0) / y)) (kQ20 : 0 ≤ Q2) (kQ21 : Q2 ≤ 4294967295)
   (hR : IntKind.u64.wrap (IntKind.u64.wrap (IntKind.u64.wrap (t * 4294967296) + u0) - IntKind.u64.wrap (Q2 * y)) = R)
   (fin : Hid ((h * 18446744073709551616 + l) / d = Q * 4294967296 + Q2 ∧ (h * 18446744073709551616 + l) % d = R / P)) :
   Calls Tryz.prog 268 #[.int .u64 h, .int .u64 l, .int .u64 d] w fun e w' => e = .returned (.tuple #[.int .u64 ((h * 18446744073709551616 + l) / d), .int .u64 ((h * 18446744073709551616 + l) % d)]) ∧ w = w' := by
 rw [fin.out.1, fin.out.2]
 clear fin
 have HS := Lib.hid hs; clear hs
 have f1 : 0 ≤ d * P := by omega
 have f2 : d * P ≤ 18446744073709551615 := by omega
 have y10 : 2147483648 ≤ y1 := by omega
 have y11 : y1 ≤ 4294967295 := by omega
 obtain ⟨st1, stb, st3, st4, st5⟩ := st
 obtain ⟨sv1, sv2, sv3, sv4, sv5⟩ := st2
 have m0 : 0 ≤ u / y1 * y1 := Int.mul_nonneg stb (by omega)
 have m1 : u / y1 * y1 ≤ 18446744073709551615 := by omega
 have n0 : 0 ≤ t / y1 * y1 := Int.mul_nonneg sv2 (by omega)
 have n1 : t / y1 * y1 ≤ 18446744073709551615 := by omega
 go_enter Tryz.func268, Tryz.ntmps268
 go_wp2_with (go_at_call 275; refine (Tryz.bits_LeadingZeros64 _ _ (by omega) (by omega)).mono ?_; rintro e w' ⟨rfl, rfl⟩; rw [← HS.out])
 go_loop [15, 16] (fun a b => ∃ q r : Int, a = .int .u64 q ∧ b = .int .u64 r ∧ 0 ≤ q ∧ q ≤ 4294967297 ∧ 0 ≤ r ∧ r ≤ 4294967295 ∧ q * y1 + r = u ∧ Q ≤ q) (fun a _ => (intOf a).toNat)
 case atStart => exact ⟨u / y1, u - u / y1 * y1, rfl, rfl, by omega, by omega, by omega, by omega, by omega, by omega⟩
 case round =>
   obtain ⟨q, r, rfl, rfl, q0, q1, r0, r1, eq1, leQ⟩ := hrel
   rcases Kn.round u u1 y1 yl y q r Q kQ.out c2.symm y10 c0 c1 e0 e1 g0 g1 q0 q1 eq1 leQ with ⟨hA, hQ, hr⟩ | ⟨hA, hq, hr, heq, hle⟩ | ⟨hA, hQ, hm0, hm1⟩
   · clear eq1
     rcases hA with hA | ⟨hA, hB, hm0, hm1⟩
     all_goals
       go_wp2
       clear hQ
       go_loop [18, 16] (fun a b => ∃ q r : Int, a = .int .u64 q ∧ b = .int .u64 r ∧ 0 ≤ q ∧ q ≤ 4294967297 ∧ 0 ≤ r ∧ r ≤ 4294967295 ∧ q * y1 + r = t ∧ Q2 ≤ q) (fun a _ => (intOf a).toNat)
       case atStart => exact ⟨t / y1, t - t / y1 * y1, rfl, rfl, by omega, by omega, by omega, by omega, by omega, by omega⟩
       case round =>
         obtain ⟨q, r, rfl, rfl, q0, q1, r0, r1, eq1, leQ⟩ := hrel
         rcases Kn.round t u0 y1 yl y q r Q2 kQ2.out c2.symm y10 c0 c1 t0 t1 g2 g3 q0 q1 eq1 leQ with ⟨hA, hQ, hr⟩ | ⟨hA, hq, hr, heq, hle⟩ | ⟨hA, hQ, hm0, hm1⟩
         · clear eq1
           rcases hA with hA | ⟨hA, hB, hm0, hm1⟩
           all_goals
             go_wp2
             go_ret2
             exact ⟨rfl, rfl⟩
         · have HEQ := Lib.hid heq; clear heq eq1
           rcases hA with hA | ⟨hA, hB, hm0, hm1⟩
           all_goals
             go_wp2
             go_round
             case rel => exact ⟨q - 1, r + y1, rfl, rfl, by omega, by omega, by omega, by omega, HEQ.out, hle⟩
             case measure => simp [intOf]; omega
         · clear eq1
           obtain rfl := hQ
           go_wp2
           go_ret2
           exact ⟨rfl, rfl⟩
   · have HEQ := Lib.hid heq; clear heq eq1
     rcases hA with hA | ⟨hA, hB, hm0, hm1⟩
     all_goals
       go_wp2
       go_round
       case rel => exact ⟨q - 1, r + y1, rfl, rfl, by omega, by omega, by omega, by omega, HEQ.out, hle⟩
       case measure => simp [intOf]; omega
   · clear eq1
     obtain rfl := hQ
     go_wp2
     go_loop [18, 16] (fun a b => ∃ q r : Int, a = .int .u64 q ∧ b = .int .u64 r ∧ 0 ≤ q ∧ q ≤ 4294967297 ∧ 0 ≤ r ∧ r ≤ 4294967295 ∧ q * y1 + r = t ∧ Q2 ≤ q) (fun a _ => (intOf a).toNat)
     case atStart => exact ⟨t / y1, t - t / y1 * y1, rfl, rfl, by omega, by omega, by omega, by omega, by omega, by omega⟩
     case round =>
       obtain ⟨q, r, rfl, rfl, q0, q1, r0, r1, eq1, leQ⟩ := hrel
       rcases Kn.round t u0 y1 yl y q r Q2 kQ2.out c2.symm y10 c0 c1 t0 t1 g2 g3 q0 q1 eq1 leQ with ⟨hA, hQ, hr⟩ | ⟨hA, hq, hr, heq, hle⟩ | ⟨hA, hQ, hm0, hm1⟩
       · clear eq1
         rcases hA with hA | ⟨hA, hB, hm0, hm1⟩
         all_goals
           go_wp2
           go_ret2
           exact ⟨rfl, rfl⟩
       · have HEQ := Lib.hid heq; clear heq eq1
         rcases hA with hA | ⟨hA, hB, hm0, hm1⟩
         all_goals
           go_wp2
           go_round
           case rel => exact ⟨q - 1, r + y1, rfl, rfl, by omega, by omega, by omega, by omega, HEQ.out, hle⟩
           case measure => simp [intOf]; omega
       · clear eq1
         obtain rfl := hQ
         go_wp2
         go_ret2
         exact ⟨rfl, rfl⟩
set_option maxHeartbeats 400000 in
theorem div64_low (l d : Int) (w : World) (h0 : 0 < d) (l0 : 0 ≤ l) (l1 : l ≤ 18446744073709551615) (d1 : d ≤ 18446744073709551615) :
   Calls Tryz.prog 268 #[.int .u64 0, .int .u64 l, .int .u64 d] w fun e w' => e = .returned (.tuple #[.int .u64 (l / d), .int .u64 (l % d)]) ∧ ∃ n, w' = w.drewN n := by
 have hd : ¬ d = 0 := by omega
 go_enter Tryz.func268, Tryz.ntmps268
 go_wp2
 go_quiet (fail)
 go_wp2
 go_ret2
 exact ⟨rfl, _, rfl⟩
theorem wrapsub (a b t : Int) (h : a = b + t) (t0 : 0 ≤ t) (t1 : t ≤ 18446744073709551615) : IntKind.u64.wrap (IntKind.u64.wrap a - IntKind.u64.wrap b) = t := by
 simp only [IntKind.wrap_u64]; omega
theorem wrapadd (a b : Int) : IntKind.u64.wrap (IntKind.u64.wrap a + b) = IntKind.u64.wrap (a + b) := by
 simp only [IntKind.wrap_u64]; omega
theorem div64_high (h l d : Int) (w : World) (h0 : 0 < h) (h1 : h < d) (l0 : 0 ≤ l) (l1 : l ≤ 18446744073709551615) (d1 : d ≤ 18446744073709551615) :
   Calls Tryz.prog 268 #[.int .u64 h, .int .u64 l, .int .u64 d] w fun e w' => e = .returned (.tuple #[.int .u64 ((h * 18446744073709551616 + l) / d), .int .u64 ((h * 18446744073709551616 + l) % d)]) ∧ w = w' := by
 obtain ⟨n, hn, n1, n2, b0, b1, b2⟩ := Kn.bitlen d (by omega) d1
 have eP : (2 : Int) ^ (64 - (n : Int)).toNat = 2 ^ (64 - n) := by congr 1; omega
 have eK : (2 : Int) ^ (64 - (64 - (n : Int))).toNat = 2 ^ n := by congr 1; omega
 have p0 : (0 : Int) < 2 ^ (64 - n) := Int.pow_pos (by decide)
 have k0 : (0 : Int) < 2 ^ n := Int.pow_pos (by decide)
 have hl : l * 2 ^ (64 - n) / 18446744073709551616 = l / 2 ^ n := by rw [← b2]; exact Int.mul_ediv_mul_of_pos_left _ _ p0
 have hm : (h * 2 ^ (64 - n)) % 2 ^ (64 - n) = 0 := Int.mul_emod_left _ _
 have hlt : l / 2 ^ n < 2 ^ (64 - n) := by apply Int.ediv_lt_of_lt_mul k0; rw [Int.mul_comm, b2]; omega
 have hl0 : 0 ≤ l / 2 ^ n := Int.ediv_nonneg l0 (Int.le_of_lt k0)
 have hh : (h + 1) * 2 ^ (64 - n) ≤ d * 2 ^ (64 - n) := Int.mul_le_mul_of_nonneg_right (by omega) (Int.le_of_lt p0)
 have hh0 : 0 ≤ h * 2 ^ (64 - n) := Int.mul_nonneg (by omega) (Int.le_of_lt p0)
 rw [Int.add_mul] at hh
 have hor : bits .or .u64 (h * 2 ^ (64 - n)) (l / 2 ^ n) = h * 2 ^ (64 - n) + l / 2 ^ n :=
   bits_join .u64 64 (by decide) Kn.wraps64 (64 - n) _ _ hh0 hm (by omega) hl0 hlt (by omega)
 have hN : (h * 18446744073709551616 + l) * 2 ^ (64 - n) = (h * 2 ^ (64 - n) + l / 2 ^ n) * 18446744073709551616 + l * 2 ^ (64 - n) % 18446744073709551616 := by
   rw [Int.add_mul, Int.mul_right_comm]
   omega
 generalize (2 : Int) ^ (64 - n) = P at *
 generalize hKK : (2 : Int) ^ n = K at *
 obtain ⟨y, hy⟩ : ∃ y, y = d * P := ⟨_, rfl⟩
 obtain ⟨u, hu⟩ : ∃ u, u = h * P + l / K := ⟨_, rfl⟩
 obtain ⟨un, hun⟩ : ∃ un, un = l * P % 18446744073709551616 := ⟨_, rfl⟩
 rw [← hu, ← hun] at hN
 rw [← hy] at b0 b1 hh
 have un0 : 0 ≤ un := by omega
 have un1 : un ≤ 18446744073709551615 := by omega
 have u0 : 0 ≤ u := by omega
 have u1 : u < y := by omega
 have s1 := Kn.start u (un / 4294967296) (y / 4294967296) (y % 4294967296) y (by omega) (by omega) (by omega) (by omega) u0 u1 (by omega) (by omega)
 obtain ⟨Q, hQ⟩ : ∃ Q, Q = (u * 4294967296 + un / 4294967296) / y := ⟨_, rfl⟩
 have Q0 : 0 ≤ Q := by rw [hQ]; exact Int.ediv_nonneg (by omega) (by omega)
 have Q1 := Kn.top u (un / 4294967296) y u0 u1 (by omega)
 obtain ⟨t, ht⟩ : ∃ t, t = (u * 4294967296 + un / 4294967296) % y := ⟨_, rfl⟩
 have et := Int.mul_ediv_add_emod (u * 4294967296 + un / 4294967296) y
 have t0 : 0 ≤ t := by rw [ht]; exact Int.emod_nonneg _ (by omega)
 have t1 : t < y := by rw [ht]; exact Int.emod_lt_of_pos _ (by omega)
 rw [← ht, ← hQ, Int.mul_comm] at et
 rw [← hQ] at Q1 s1
 have s2 := Kn.start t (un % 4294967296) (y / 4294967296) (y % 4294967296) y (by omega) (by omega) (by omega) (by omega) t0 t1 (by omega) (by omega)
 obtain ⟨Q2, hQ2⟩ : ∃ Q2, Q2 = (t * 4294967296 + un % 4294967296) / y := ⟨_, rfl⟩
 have Q20 : 0 ≤ Q2 := by rw [hQ2]; exact Int.ediv_nonneg (by omega) (by omega)
 have Q21 := Kn.top t (un % 4294967296) y t0 t1 (by omega)
 obtain ⟨R, hR⟩ : ∃ R, R = (t * 4294967296 + un % 4294967296) % y := ⟨_, rfl⟩
 have eR := Int.mul_ediv_add_emod (t * 4294967296 + un % 4294967296) y
 have R0 : 0 ≤ R := by rw [hR]; exact Int.emod_nonneg _ (by omega)
 have R1 : R < y := by rw [hR]; exact Int.emod_lt_of_pos _ (by omega)
 rw [← hR, ← hQ2, Int.mul_comm] at eR
 rw [← hQ2] at Q21 s2
 have fin := Kn.both (h * 18446744073709551616 + l) d P y u (un / 4294967296) (un % 4294967296) Q t Q2 R p0 hy.symm (by omega) et.symm eR.symm R0 R1
 refine div64_core h l d w h0 h1 d1 (64 - n) P y (y / 4294967296) (y % 4294967296) u un (un / 4294967296) (un % 4294967296) Q t Q2 R (by rw [hn]) (by omega) (by omega) eP hy.symm b0 b1
   hh0 (by omega) rfl (Kn.and32 y (by omega) b1) (by omega) (by omega) (by omega) (by rw [eK, hor, hu]) u0 u1 (by rw [IntKind.wrap_u64, hun]) rfl (Kn.and32 un un0 un1) (by omega) (by omega) (by omega) (by omega)
   s1 hQ Q0 (by omega) ?_ t0 t1 s2 hQ2 Q20 (by omega) ?_ fin
 · rw [wrapadd]; exact wrapsub _ _ _ (by omega) t0 (by omega)
 · rw [wrapadd]; exact wrapsub _ _ _ (by omega) R0 (by omega)
theorem div64_any (h l d : Int) (w : World) (h0 : 0 ≤ h) (h1 : h < d) (l0 : 0 ≤ l) (l1 : l ≤ 18446744073709551615) (d1 : d ≤ 18446744073709551615) :
   Calls Tryz.prog 268 #[.int .u64 h, .int .u64 l, .int .u64 d] w fun e w' => e = .returned (.tuple #[.int .u64 ((h * 18446744073709551616 + l) / d), .int .u64 ((h * 18446744073709551616 + l) % d)]) ∧ ∃ n, w' = w.drewN n := by
 by_cases hz : h = 0
 · subst hz
   have := div64_low l d w h1 l0 l1 d1
   simpa using this
 · exact (div64_high h l d w (by omega) h1 l0 l1 d1).mono fun e w' ⟨a, b⟩ => ⟨a, 0, b.symm⟩
end Go.Proofs.YtcffeokbipjaoaaGreat
