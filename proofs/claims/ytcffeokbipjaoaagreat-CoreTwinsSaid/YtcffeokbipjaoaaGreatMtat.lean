/- Texts of this claim, one behind the other: Wide Wideb Digs Refa Refb. -/
import Derived.Outline
import Derived.RegionTactic
import Derived.BigRegion
import Derived.Deep.RegionHeld3
import Derived.WalkSpells
import Derived.Laws.Pointers
import Derived.Laws.AppendOwn
import Derived.Laws.OwnMore
import Derived.LoopTactic
import Derived.Deep.LoopGhost
import Derived.Deep.OwnRows
import Derived.Deep.DeepFit
import Derived.Test.YtcffeokbipjaoaaGreatMtas
namespace Go.Proofs.YtcffeokbipjaoaaGreat
open Go.ChangeShapes Go.WideShapes Go.ChangeAt Go.RowKit Kn
set_option linter.unusedVariables false
theorem add64 (x y c : Int) (hx : 0 ≤ x) (hy : 0 ≤ y) (hc0 : 0 ≤ c) (hc : c ≤ 1) (w : World) : (callFunc 277 #[.int .u64 x, .int .u64 y, .int .u64 c]).run Tryz.prog w =
   .ok (.value (.tuple #[.int .u64 ((x + y + c) % 18446744073709551616), .int .u64 ((x + y + c) / 18446744073709551616)])) w := by
 obtain ⟨x, rfl⟩ := Int.eq_ofNat_of_zero_le hx
 obtain ⟨y, rfl⟩ := Int.eq_ofNat_of_zero_le hy
 obtain ⟨c, rfl⟩ := Int.eq_ofNat_of_zero_le hc0
 refine (Any7.bits_Add64 Tryz.lays25 x y c (by omega) w).trans ?_
 congr 5 <;> omega
theorem add64_0 (x y : Int) (hx : 0 ≤ x) (hy : 0 ≤ y) (w : World) : (callFunc 277 #[.int .u64 x, .int .u64 y, .int .u64 0]).run Tryz.prog w =
   .ok (.value (.tuple #[.int .u64 ((x + y) % 18446744073709551616), .int .u64 ((x + y) / 18446744073709551616)])) w := by
 simpa using add64 x y 0 hx hy (Int.le_refl 0) (by decide) w
set_option maxHeartbeats 400000 in
theorem wof_any (a : Int) (w : World) :
   Calls Tryz.prog 274 #[.int .u64 a] w fun e w' => e = .returned (.agg #[.int .u64 0, .int .u64 a]) ∧ Below w.heap.size w w' := by
 go_enter Tryz.func274, Tryz.ntmps274
 go_wp2
 exact bodyPost_ret (v := .agg #[.int .u64 0, .int .u64 a]) (by simp [results, Tryz.results274, go_sem]) rfl ⟨rfl, ((Below.refl _ _).alloc (Nat.le_refl _) _)⟩
set_option maxHeartbeats 400000 in
theorem wmul_any (a b : Int) (w : World) (a0 : 0 ≤ a) (a1 : a ≤ 18446744073709551615) (b0 : 0 ≤ b) (b1 : b ≤ 18446744073709551615) :
   Calls Tryz.prog 252 #[.int .u64 a, .int .u64 b] w fun e w' => e = .returned (.agg #[.int .u64 (hi (a * b)), .int .u64 (lo (a * b))]) ∧ Below w.heap.size w w' := by
 obtain ⟨x, rfl⟩ := Int.eq_ofNat_of_zero_le a0
 obtain ⟨y, rfl⟩ := Int.eq_ofNat_of_zero_le b0
 go_enter Tryz.func252, Tryz.ntmps252
 go_wp2_with (go_at_call 267; refine (Tryz.bits_Mul64 _ _ (by omega) (by omega) _).mono ?_; rintro e w' ⟨rfl, rfl⟩)
 exact bodyPost_ret (v := .agg #[.int .u64 (hi (x * y)), .int .u64 (lo (x * y))]) (by simp [results, Tryz.results252, go_sem]; exact ⟨rfl, rfl⟩) rfl ⟨rfl, ((Below.refl _ _).alloc (Nat.le_refl _) _)⟩
theorem add_hi (ah al bh bl : Int) :
   (ah + bh + (al + bl) / 18446744073709551616) % 18446744073709551616 = hi (addN (num ah al) (num bh bl)) := by unfold hi addN num; omega
theorem add_lo (ah al bh bl : Int) : (al + bl) % 18446744073709551616 = lo (addN (num ah al) (num bh bl)) := by unfold lo addN num; omega
theorem add_over (ah al bh bl : Int) (ah0 : 0 ≤ ah) (ah1 : ah ≤ 18446744073709551615) (bh0 : 0 ≤ bh) (bh1 : bh ≤ 18446744073709551615) (al0 : 0 ≤ al) (al1 : al ≤ 18446744073709551615) (bl0 : 0 ≤ bl) (bl1 : bl ≤ 18446744073709551615) :
   (!((ah + bh + (al + bl) / 18446744073709551616) / 18446744073709551616 == 0)) = overB (num ah al) (num bh bl) := by
 unfold overB num
 by_cases h : 340282366920938463463374607431768211456 ≤ ah * 18446744073709551616 + al + (bh * 18446744073709551616 + bl)
 · rw [decide_eq_true h]; simp; omega
 · rw [decide_eq_false h]; simp; omega
set_option maxHeartbeats 400000 in
theorem wadd_any (ah al bh bl : Int) (w : World) (ah0 : 0 ≤ ah) (ah1 : ah ≤ 18446744073709551615) (al0 : 0 ≤ al) (al1 : al ≤ 18446744073709551615) (bh0 : 0 ≤ bh) (bh1 : bh ≤ 18446744073709551615) (bl0 : 0 ≤ bl) (bl1 : bl ≤ 18446744073709551615) :
   Calls Tryz.prog 276 #[.agg #[.int .u64 ah, .int .u64 al], .agg #[.int .u64 bh, .int .u64 bl]] w fun e w' => e = .returned (.tuple #[.agg #[.int .u64 (hi (addN (num ah al) (num bh bl))), .int .u64 (lo (addN (num ah al) (num bh bl)))], .bool (overB (num ah al) (num bh bl))]) ∧ Below w.heap.size w w' := by
 have k0 : 0 ≤ (al + bl) / 18446744073709551616 := by omega
 have k1 : (al + bl) / 18446744073709551616 ≤ 1 := by omega
 rw [← add_hi ah al bh bl, ← add_lo ah al bh bl, ← add_over ah al bh bl ah0 ah1 bh0 bh1 al0 al1 bl0 bl1]
 go_enter Tryz.func276, Tryz.ntmps276
 go_wp2_with (first | simp only [add64_0 al bl al0 bl0] | simp only [add64 ah bh _ ah0 bh0 k0 k1])
 refine bodyPost_ret (v := .tuple #[.agg #[.int .u64 _, .int .u64 _], .bool _]) (by simp [results, Tryz.results276, go_sem]; exact rfl) rfl ⟨rfl, ?_⟩
 exact ((((Below.refl _ _).alloc (Nat.le_refl _) _).alloc (by simp) _).alloc (by simp; omega) _)
set_option maxHeartbeats 400000 in
theorem wcmp_any (ah al bh bl : Int) (w : World) (ah0 : 0 ≤ ah) (ah1 : ah ≤ 18446744073709551615) (al0 : 0 ≤ al) (al1 : al ≤ 18446744073709551615) (bh0 : 0 ≤ bh) (bh1 : bh ≤ 18446744073709551615) (bl0 : 0 ≤ bl) (bl1 : bl ≤ 18446744073709551615) :
   Calls Tryz.prog 270 #[.agg #[.int .u64 ah, .int .u64 al], .agg #[.int .u64 bh, .int .u64 bl]] w fun e w' => e = .returned (.int .i64 (cmpN (num ah al) (num bh bl))) ∧ Below w.heap.size w w' := by
 by_cases h1 : ah < bh
 · have H : cmpN (num ah al) (num bh bl) = -1 := by unfold cmpN num; split <;> omega
   have h2 : ¬ ah = bh := by omega
   rw [H]; clear H
   go_enter Tryz.func270, Tryz.ntmps270
   go_wp2
   go_ret
   exact ⟨rfl, ((Below.refl _ _).alloc (Nat.le_refl _) _).alloc (by simp) _⟩
 · by_cases h2 : ah = bh
   · subst h2
     by_cases h3 : al = bl
     · subst h3
       have H : cmpN (num ah al) (num ah al) = 0 := by unfold cmpN num; split <;> simp; omega
       rw [H]; clear H
       go_enter Tryz.func270, Tryz.ntmps270
       go_wp2
       go_ret
       exact ⟨rfl, ((Below.refl _ _).alloc (Nat.le_refl _) _).alloc (by simp) _⟩
     · by_cases h4 : al < bl
       · have H : cmpN (num ah al) (num ah bl) = -1 := by unfold cmpN num; split <;> omega
         rw [H]; clear H
         go_enter Tryz.func270, Tryz.ntmps270
         go_wp2
         go_ret
         exact ⟨rfl, ((Below.refl _ _).alloc (Nat.le_refl _) _).alloc (by simp) _⟩
       · have H : cmpN (num ah al) (num ah bl) = 1 := by unfold cmpN num; split <;> (try split) <;> omega
         rw [H]; clear H
         go_enter Tryz.func270, Tryz.ntmps270
         go_wp2
         go_ret
         exact ⟨rfl, ((Below.refl _ _).alloc (Nat.le_refl _) _).alloc (by simp) _⟩
   · have H : cmpN (num ah al) (num bh bl) = 1 := by unfold cmpN num; split <;> (try split) <;> omega
     rw [H]; clear H
     go_enter Tryz.func270, Tryz.ntmps270
     go_wp2
     go_ret
     exact ⟨rfl, ((Below.refl _ _).alloc (Nat.le_refl _) _).alloc (by simp) _⟩
theorem div_parts (h l d : Int) (d0 : 0 < d) : (h % d * 18446744073709551616 + l) / d = num h l / d - h / d * 18446744073709551616 ∧ (h % d * 18446744073709551616 + l) % d = num h l % d := by
 have e := Int.mul_ediv_add_emod h d
 have e2 : num h l = (h % d * 18446744073709551616 + l) + h / d * 18446744073709551616 * d := by
   unfold num
   rw [Int.mul_right_comm, Int.mul_comm (h / d) d]
   omega
 rw [e2]
 exact ⟨by rw [Int.add_mul_ediv_right _ _ (by omega)]; omega, by rw [Int.add_mul_emod_self_right]⟩
set_option maxHeartbeats 400000 in
theorem wdiv_any (h l d : Int) (w : World) (h0 : 0 ≤ h) (h1 : h ≤ 18446744073709551615) (l0 : 0 ≤ l) (l1 : l ≤ 18446744073709551615) (d0 : 0 < d) (d1 : d ≤ 18446744073709551615) :
   Calls Tryz.prog 253 #[.agg #[.int .u64 h, .int .u64 l], .int .u64 d] w fun e w' => e = .returned (.tuple #[.agg #[.int .u64 (hi (num h l / d)), .int .u64 (lo (num h l / d))], .int .u64 (num h l % d)]) ∧ Below w.heap.size w w' := by
 have m0 : 0 ≤ h % d := Int.emod_nonneg _ (by omega)
 have m1 : h % d < d := Int.emod_lt_of_pos _ d0
 obtain ⟨p1, p2⟩ := div_parts h l d d0
 have hq : (h % d * 18446744073709551616 + l) / d < 18446744073709551616 := by
   apply Int.ediv_lt_of_lt_mul d0; omega
 have hq0 : 0 ≤ (h % d * 18446744073709551616 + l) / d := Int.ediv_nonneg (by omega) (by omega)
 have e1 : h / d = hi (num h l / d) := by unfold hi; omega
 have e2 : (h % d * 18446744073709551616 + l) / d = lo (num h l / d) := by unfold lo; omega
 clear p1 hq hq0
 have hd : ¬ d = 0 := by omega
 go_enter Tryz.func253, Tryz.ntmps253
 go_wp2
 go_quiet ((go_at_call 268; exact Calls.quiet_of (div64_any _ _ _ _ m0 m1 l0 l1 d1)))
 go_wp2
 refine bodyPost_ret (v := .tuple #[.agg #[.int .u64 (hi (num h l / d)), .int .u64 (lo (num h l / d))], .int .u64 (num h l % d)]) (by simp [results, Tryz.results253, go_sem]) rfl ⟨rfl, ?_⟩
 exact (((below_drewN (((Below.refl _ _).alloc (Nat.le_refl _) _).alloc (by simp) _) _).setCell (by simp) _).setCell (by simp) _)
end Go.Proofs.YtcffeokbipjaoaaGreat
namespace Go.Proofs.YtcffeokbipjaoaaGreat
open Go.ChangeShapes Go.WideShapes Go.ChangeAt Go.RowKit Kn
set_option linter.unusedVariables false
def bitsN (h l : Int) : Int := if h = 0 then (Lib.bitLen l.toNat : Int) else 64 + (Lib.bitLen h.toNat : Int)
set_option maxHeartbeats 400000 in
theorem wbits_any (h l : Int) (w : World) (h0 : 0 ≤ h) (h1 : h ≤ 18446744073709551615) (l0 : 0 ≤ l) (l1 : l ≤ 18446744073709551615) :
   Calls Tryz.prog 269 #[.agg #[.int .u64 h, .int .u64 l]] w fun e w' => e = .returned (.int .i64 (bitsN h l)) ∧ Below w.heap.size w w' := by
 have b1 := Lib.bitLen_le h.toNat 64 (Nat.le_refl _) (by omega)
 by_cases hz : h = 0
 · subst hz
   have e : bitsN 0 l = (Lib.bitLen l.toNat : Int) := rfl
   rw [e]; clear e
   go_enter Tryz.func269, Tryz.ntmps269
   go_wp2_with (go_at_call 233; refine (Tryz.bits_Len64 _ _ (by omega) (by omega)).mono ?_; rintro e w' ⟨rfl, rfl⟩)
   go_ret
   exact ⟨rfl, (Below.refl _ _).alloc (Nat.le_refl _) _⟩
 · have e : bitsN h l = 64 + (Lib.bitLen h.toNat : Int) := by unfold bitsN; rw [if_neg hz]
   rw [e]; clear e
   go_enter Tryz.func269, Tryz.ntmps269
   go_wp2_with (go_at_call 233; refine (Tryz.bits_Len64 _ _ (by omega) (by omega)).mono ?_; rintro e w' ⟨rfl, rfl⟩)
   go_ret
   exact ⟨rfl, (Below.refl _ _).alloc (Nat.le_refl _) _⟩
end Go.Proofs.YtcffeokbipjaoaaGreat
namespace Go.Proofs.YtcffeokbipjaoaaGreat.Kn
def dgN (n : Int) (i : Nat) : Int := n / 65536 ^ i % 65536
theorem dgN0 (n : Int) (i : Nat) : 0 ≤ dgN n i := by unfold dgN; omega
theorem dgN1 (n : Int) (i : Nat) : dgN n i ≤ 65535 := by unfold dgN; omega
theorem pp (k : Nat) : (0 : Int) < 65536 ^ k := Int.pow_pos (by decide)
def cy (a b : Int) (k : Nat) : Int := (a % 65536 ^ k + b % 65536 ^ k) / 65536 ^ k
def bw (a b : Int) (k : Nat) : Int := if a % 65536 ^ k < b % 65536 ^ k then 1 else 0
theorem cy_zero (a b : Int) : cy a b 0 = 0 := by unfold cy; simp [Int.emod_one]
theorem bw_zero (a b : Int) : bw a b 0 = 0 := by unfold bw; simp [Int.emod_one]
theorem cy0 (a b : Int) (k : Nat) : 0 ≤ cy a b k := by
 unfold cy
 exact Int.ediv_nonneg (Int.add_nonneg (Int.emod_nonneg _ (Int.ne_of_gt (pp k))) (Int.emod_nonneg _ (Int.ne_of_gt (pp k)))) (Int.le_of_lt (pp k))
theorem cy1 (a b : Int) (k : Nat) : cy a b k ≤ 1 := by
 have h1 := Int.emod_lt_of_pos a (pp k)
 have h2 := Int.emod_lt_of_pos b (pp k)
 have : cy a b k < 2 := by unfold cy; apply Int.ediv_lt_of_lt_mul (pp k); omega
 omega
theorem bw0 (a b : Int) (k : Nat) : 0 ≤ bw a b k := by unfold bw; split <;> omega
theorem bw1 (a b : Int) (k : Nat) : bw a b k ≤ 1 := by unfold bw; split <;> omega
theorem mod_succ (a : Int) (k : Nat) : a % 65536 ^ (k + 1) = dgN a k * 65536 ^ k + a % 65536 ^ k := by
 have e := Int.mul_ediv_add_emod a (65536 ^ k)
 have e2 := Int.mul_ediv_add_emod a (65536 ^ (k + 1))
 have e3 := Int.mul_ediv_add_emod (a / 65536 ^ k) 65536
 have e4 : a / 65536 ^ (k + 1) = a / 65536 ^ k / 65536 := by rw [Int.pow_succ, Int.ediv_ediv_of_nonneg (Int.le_of_lt (pp k))]
 rw [e4, Int.pow_succ] at e2
 unfold dgN
 rw [Int.pow_succ]
 have e5 : 65536 ^ k * (65536 * (a / 65536 ^ k / 65536) + a / 65536 ^ k % 65536) = 65536 ^ k * (a / 65536 ^ k) := by rw [e3]
 rw [Int.mul_add, ← Int.mul_assoc] at e5
 rw [Int.mul_comm (a / 65536 ^ k % 65536)]
 omega
theorem div_sum (a b : Int) (k : Nat) : (a + b) / 65536 ^ k = a / 65536 ^ k + b / 65536 ^ k + cy a b k := by
 have e := Int.mul_ediv_add_emod a (65536 ^ k)
 have e2 := Int.mul_ediv_add_emod b (65536 ^ k)
 have h : a + b = (a % 65536 ^ k + b % 65536 ^ k) + (a / 65536 ^ k + b / 65536 ^ k) * 65536 ^ k := by
   rw [Int.add_mul, Int.mul_comm (a / 65536 ^ k), Int.mul_comm (b / 65536 ^ k)]; omega
 rw [h, Int.add_mul_ediv_right _ _ (Int.ne_of_gt (pp k))]
 unfold cy
 have g := Int.emod_emod_of_dvd
 generalize (a % 65536 ^ k + b % 65536 ^ k) / 65536 ^ k = z
 omega
theorem cy_step (a b : Int) (k : Nat) : (dgN a k + dgN b k + cy a b k) % 65536 = dgN (a + b) k := by
 unfold dgN
 rw [div_sum a b k]
 omega
theorem cy_next (a b : Int) (k : Nat) : (dgN a k + dgN b k + cy a b k) / 65536 = cy a b (k + 1) := by
 have h : a % 65536 ^ (k + 1) + b % 65536 ^ (k + 1) = (a % 65536 ^ k + b % 65536 ^ k) + (dgN a k + dgN b k) * 65536 ^ k := by
   rw [mod_succ, mod_succ, Int.add_mul]; omega
 unfold cy
 rw [h, Int.pow_succ, ← Int.ediv_ediv_of_nonneg (Int.le_of_lt (pp k)), Int.add_mul_ediv_right _ _ (Int.ne_of_gt (pp k))]
 congr 1; omega
theorem div_diff (a b : Int) (k : Nat) : (a - b) / 65536 ^ k = a / 65536 ^ k - b / 65536 ^ k - bw a b k := by
 have e := Int.mul_ediv_add_emod a (65536 ^ k)
 have e2 := Int.mul_ediv_add_emod b (65536 ^ k)
 have p := pp k
 have a0 := Int.emod_nonneg a (Int.ne_of_gt p)
 have a1 := Int.emod_lt_of_pos a p
 have b0 := Int.emod_nonneg b (Int.ne_of_gt p)
 have b1 := Int.emod_lt_of_pos b p
 have h : a - b = (a % 65536 ^ k - b % 65536 ^ k) + (a / 65536 ^ k - b / 65536 ^ k) * 65536 ^ k := by
   rw [Int.sub_mul, Int.mul_comm (a / 65536 ^ k), Int.mul_comm (b / 65536 ^ k)]; omega
 rw [h, Int.add_mul_ediv_right _ _ (Int.ne_of_gt p)]
 unfold bw
 split
 · have : (a % 65536 ^ k - b % 65536 ^ k) / 65536 ^ k = -1 := by
     rw [show a % 65536 ^ k - b % 65536 ^ k = (a % 65536 ^ k - b % 65536 ^ k + 65536 ^ k) + (-1) * 65536 ^ k by omega, Int.add_mul_ediv_right _ _ (Int.ne_of_gt p), Int.ediv_eq_zero_of_lt (by omega) (by omega)]
     rfl
   omega
 · rw [Int.ediv_eq_zero_of_lt (by omega) (by omega)]; omega
theorem bw_step (a b : Int) (k : Nat) : dgN (a - b) k = if dgN a k - dgN b k - bw a b k < 0 then dgN a k - dgN b k - bw a b k + 65536 else dgN a k - dgN b k - bw a b k := by
 have h0 := bw0 a b k
 have h1 := bw1 a b k
 unfold dgN
 rw [div_diff a b k]
 split <;> omega
theorem bw_next (a b : Int) (k : Nat) : bw a b (k + 1) = if dgN a k - dgN b k - bw a b k < 0 then 1 else 0 := by
 have p := pp k
 have a0 := Int.emod_nonneg a (Int.ne_of_gt p)
 have a1 := Int.emod_lt_of_pos a p
 have b0 := Int.emod_nonneg b (Int.ne_of_gt p)
 have b1 := Int.emod_lt_of_pos b p
 unfold bw
 rw [mod_succ, mod_succ]
 generalize dgN a k = x
 generalize dgN b k = y
 have key : x * 65536 ^ k + a % 65536 ^ k < y * 65536 ^ k + b % 65536 ^ k ↔ x < y ∨ x = y ∧ a % 65536 ^ k < b % 65536 ^ k := by
   generalize (65536 : Int) ^ k = P at *
   generalize a % P = u at *
   generalize b % P = v at *
   constructor
   · intro h
     rcases Int.lt_trichotomy x y with h2 | h2 | h2
     · exact .inl h2
     · subst h2; exact .inr ⟨rfl, by omega⟩
     · have := Int.mul_le_mul_of_nonneg_right (show y + 1 ≤ x by omega) (Int.le_of_lt p)
       rw [Int.add_mul] at this; omega
   · rintro (h | ⟨rfl, h⟩)
     · have := Int.mul_le_mul_of_nonneg_right (show x + 1 ≤ y by omega) (Int.le_of_lt p)
       rw [Int.add_mul] at this; omega
     · omega
 by_cases hh : a % 65536 ^ k < b % 65536 ^ k
 · rw [if_pos hh]
   by_cases h2 : x ≤ y
   · rw [if_pos (key.2 (by omega)), if_pos (by omega)]
   · rw [if_neg (fun h => by have := key.1 h; omega), if_neg (by omega)]
 · rw [if_neg hh]
   by_cases h2 : x < y
   · rw [if_pos (key.2 (by omega)), if_pos (by omega)]
   · rw [if_neg (fun h => by have := key.1 h; omega), if_neg (by omega)]
def lv (f : Nat → Int) : Nat → Int
 | 0 => ((f 3 * 65536 + f 2) * 65536 + f 1) * 65536 + f 0
 | 1 => (f 3 * 65536 + f 2) * 65536 + f 1
 | 2 => f 3 * 65536 + f 2
 | 3 => f 3
 | _ => 0
def up (f : Nat → Int) : Nat → Int := fun i => f (i + 4)
theorem val_lo (m : Int) : lv (dgN m) 0 = lo (m % 340282366920938463463374607431768211456) := by
 unfold lv dgN lo
 simp only [show (65536 : Int) ^ 0 = 1 from rfl, show (65536 : Int) ^ 1 = 65536 from rfl, show (65536 : Int) ^ 2 = 4294967296 from rfl, show (65536 : Int) ^ 3 = 281474976710656 from rfl]
 omega
theorem val_hi (m : Int) : lv (up (dgN m)) 0 = hi (m % 340282366920938463463374607431768211456) := by
 unfold lv up dgN hi
 simp only [show (65536 : Int) ^ (0 + 4) = 18446744073709551616 from rfl, show (65536 : Int) ^ (1 + 4) = 1208925819614629174706176 from rfl, show (65536 : Int) ^ (2 + 4) = 79228162514264337593543950336 from rfl, show (65536 : Int) ^ (3 + 4) = 5192296858534827628530496329220096 from rfl]
 omega
theorem lv_congr (f g : Nat → Int) (h : ∀ i, i < 4 → f i = g i) : lv f 0 = lv g 0 := by
 unfold lv; rw [h 0 (by omega), h 1 (by omega), h 2 (by omega), h 3 (by omega)]
def dg (h l : Int) (i : Nat) : Int := if i < 4 then l / 2 ^ (16 * i) % 65536 else h / 2 ^ (16 * (i - 4)) % 65536
theorem dg_num (h l : Int) (i : Nat) (hi : i < 8) (l0 : 0 ≤ l) (l1 : l ≤ 18446744073709551615) : dg h l i = dgN (num h l) i := by
 unfold dgN num
 match i, hi with
 | 0, _ => show l / 1 % 65536 = _ / 1 % 65536; omega
 | 1, _ => show l / 65536 % 65536 = _ / 65536 % 65536; omega
 | 2, _ => show l / 4294967296 % 65536 = _ / 4294967296 % 65536; omega
 | 3, _ => show l / 281474976710656 % 65536 = _ / 281474976710656 % 65536; omega
 | 4, _ => show h / 1 % 65536 = _ / 18446744073709551616 % 65536; omega
 | 5, _ => show h / 65536 % 65536 = _ / 1208925819614629174706176 % 65536; omega
 | 6, _ => show h / 4294967296 % 65536 = _ / 79228162514264337593543950336 % 65536; omega
 | 7, _ => show h / 281474976710656 % 65536 = _ / 5192296858534827628530496329220096 % 65536; omega
theorem cy_eight (a b : Int) (a0 : 0 ≤ a) (a1 : a < 340282366920938463463374607431768211456) (b0 : 0 ≤ b) (b1 : b < 340282366920938463463374607431768211456) : decide (0 < cy a b 8) = overB a b := by
 unfold cy overB
 rw [show (65536 : Int) ^ 8 = 340282366920938463463374607431768211456 from rfl]
 congr 1
 apply propext
 omega
theorem bw_eight (a b : Int) (a0 : 0 ≤ a) (a1 : a < 340282366920938463463374607431768211456) (b0 : 0 ≤ b) (b1 : b < 340282366920938463463374607431768211456) : decide (0 < bw a b 8) = underB a b := by
 unfold bw underB
 rw [show (65536 : Int) ^ 8 = 340282366920938463463374607431768211456 from rfl, Int.emod_eq_of_lt a0 a1, Int.emod_eq_of_lt b0 b1]
 by_cases h : a < b <;> simp [h]
end Go.Proofs.YtcffeokbipjaoaaGreat.Kn
namespace Go.Proofs.YtcffeokbipjaoaaGreat
open Go.ChangeShapes Go.WideShapes Go.ChangeAt Go.RowKit Kn
set_option linter.unusedVariables false
def digs (h l : Int) (k : Nat) : List Value := (List.range k).map fun j => .int .i64 (dg h l j)
theorem digs_succ (h l : Int) (k : Nat) : digs h l (k + 1) = digs h l k ++ [.int .i64 (dg h l k)] := by simp [digs, List.range_succ]
theorem infoInt : (Tryz.prog.info? 3).map (fun i => (i.zero, i.size, i.bytes)) = some (some (.int .i64 0), 1, 8) := by kernel_rfl
theorem dg_tmod (x : Int) (h : 0 ≤ x) : wrap64 (x.tmod 65536) = x % 65536 := by
 rw [Int.tmod_eq_emod_of_nonneg h]; unfold wrap64; omega
theorem dg_lo (h l : Int) (k : Nat) (l0 : 0 ≤ l) (hk : k < 4) : wrap64 ((l / 2 ^ (16 * k)).tmod 65536) = dg h l k := by
 rw [dg_tmod _ (Int.ediv_nonneg l0 (Int.le_of_lt (Int.pow_pos (by decide))))]; unfold dg; rw [if_pos hk]
theorem dg_hi (h l : Int) (k : Nat) (h0 : 0 ≤ h) : wrap64 ((h / 2 ^ (16 * k)).tmod 65536) = dg h l (4 + k) := by
 rw [dg_tmod _ (Int.ediv_nonneg h0 (Int.le_of_lt (Int.pow_pos (by decide))))]; unfold dg; rw [if_neg (by omega), show 4 + k - 4 = k by omega]
set_option maxHeartbeats 1600000 in
set_option maxRecDepth 1000000 in
theorem digits_any (h l : Int) (w : World) (h0 : 0 ≤ h) (h1 : h ≤ 18446744073709551615) (l0 : 0 ≤ l) (l1 : l ≤ 18446744073709551615) :
   Calls Tryz.prog 78 #[.agg #[.int .u64 h, .int .u64 l]] w fun e w' => ∃ v, e = .returned v ∧ w'.ownsRow (w.heap.size + 1) 3 1 v 8 (digs h l 8) ∧ Below w.heap.size w w' := by
 obtain ⟨i0, hi, hz0, hz1, hz2⟩ := info_parts infoInt
 go_enter Tryz.func78, Tryz.ntmps78
 go_wp2
 go_loopw [3, 4] (fun v i wr => ∃ k : Nat, k ≤ 4 ∧ i = .int .i64 k ∧ wr.ownsRow (w.heap.size + 1) 3 1 v k (digs h l k) ∧ Below (w.heap.size + 1) (w.alloc (.cells #[.int .u64 h, .int .u64 l] 92)) wr)
   (fun _ i _ => 4 - (intOf i).toNat)
 case atStart => exact ⟨0, Nat.zero_le _, rfl, World.ownsRow_nil _ _ _ _, Below.refl _ _⟩
 case round =>
   obtain ⟨k, hk, rfl, hown, hnx⟩ := hrel
   have hc0 : wr.cell? ⟨w.heap.size, 0, none⟩ = some (.int .u64 h) := (hnx.cell (by simp)).trans (World.cell?_alloc_at _ _ _ _ rfl)
   have hc1 : wr.cell? ⟨w.heap.size, 1, none⟩ = some (.int .u64 l) := (hnx.cell (by simp)).trans (World.cell?_alloc_at _ _ _ _ rfl)
   have hsz := hnx.size
   simp at hsz
   by_cases hlt : k < 4
   · go_wp2_with (at_builtin; refine wpList_append_own _ rfl _ _ 67 rfl (w.heap.size + 1) 3 i0 (.int .i64 0) 1 8 Tryz.underlying67 hi hz0 hz1 hz2 rfl (by decide) _ _ _ rfl (hown.alloc _) ⟨wr.heap.size, 0, none⟩ 1 1 [.int .i64 (dg h l k)] rfl rfl ?c1 ?c2 ?c3 ?c4 ?c5 ?_)
     case c1 =>
       intro j u hj
       match j, hj with
       | 0, hj => simp at hj; subst hj; simp [Addr.add]; exact dg_lo h l k l0 hlt
     case c2 => intro u hu; simp at hu; subst hu; rfl
     case c3 => unfold maxLen; omega
     case c4 => omega
     case c5 => simp; omega
     intro v' w1 hown' hgrow _
     have hnx' := (hnx.alloc (by omega) _).grown hgrow (by simp; omega) (fun q hq => (hown.lt q hq).1)
     rw [← digs_succ] at hown'
     clear hgrow hown hnx
     go_wp2
     go_roundw
     case rel => exact ⟨k + 1, by omega, by go_num, hown', hnx'⟩
     case measure => simp [intOf]; omega
   · have hk4 : k = 4 := by omega
     rw [hk4] at hown
     clear hc0 hc1 hsz hk4
     obtain ⟨wo, rfl⟩ : ∃ wo : World, wo = wr := ⟨_, rfl⟩
     go_wp2
     go_loopw [3, 5] (fun v i wr => ∃ k : Nat, k ≤ 4 ∧ i = .int .i64 k ∧ wr.ownsRow (w.heap.size + 1) 3 1 v (4 + k) (digs h l (4 + k)) ∧ Below (w.heap.size + 1) (w.alloc (.cells #[.int .u64 h, .int .u64 l] 92)) wr)
       (fun _ i _ => 4 - (intOf i).toNat)
     case atStart => exact ⟨0, Nat.zero_le _, rfl, hown, hnx⟩
     case round =>
       clear hown hnx
       obtain ⟨k, hk, rfl, hown, hnx⟩ := hrel
       have hc0 : wr.cell? ⟨w.heap.size, 0, none⟩ = some (.int .u64 h) := (hnx.cell (by simp)).trans (World.cell?_alloc_at _ _ _ _ rfl)
       have hc1 : wr.cell? ⟨w.heap.size, 1, none⟩ = some (.int .u64 l) := (hnx.cell (by simp)).trans (World.cell?_alloc_at _ _ _ _ rfl)
       have hsz := hnx.size
       simp at hsz
       by_cases hlt : k < 4
       · go_wp2_with (at_builtin; refine wpList_append_own _ rfl _ _ 67 rfl (w.heap.size + 1) 3 i0 (.int .i64 0) 1 8 Tryz.underlying67 hi hz0 hz1 hz2 rfl (by decide) _ _ _ rfl (hown.alloc _) ⟨wr.heap.size, 0, none⟩ 1 1 [.int .i64 (dg h l (4 + k))] rfl rfl ?c1 ?c2 ?c3 ?c4 ?c5 ?_)
         case c1 =>
           intro j u hj
           match j, hj with
           | 0, hj => simp at hj; subst hj; simp [Addr.add]; exact dg_hi h l k h0
         case c2 => intro u hu; simp at hu; subst hu; rfl
         case c3 => unfold maxLen; omega
         case c4 => omega
         case c5 => simp; omega
         intro v' w1 hown' hgrow _
         have hnx' := (hnx.alloc (by omega) _).grown hgrow (by simp; omega) (fun q hq => (hown.lt q hq).1)
         rw [← digs_succ] at hown'
         clear hgrow hown hnx
         go_wp2
         go_roundw
         case rel => exact ⟨k + 1, by omega, by go_num, hown', hnx'⟩
         case measure => simp [intOf]; omega
       · have hk4 : k = 4 := by omega
         rw [hk4] at hown
         clear hk4
         go_wp2
         go_ret
         exact ⟨_, rfl, hown, ((Below.refl _ _).alloc (Nat.le_refl _) _).trans (hnx.mono (by omega))⟩
def Row (w : World) (g : Nat) (f : Nat → Int) : Prop := ∃ (c : Nat) (F : Nat → Value), 8 ≤ c ∧ w.rowIs g 3 c F ∧ ∀ i, i < 8 → F i = .int .i64 (f i)
namespace Row
variable {w : World} {g : Nat} {f : Nat → Int}
theorem cell (h : Row w g f) {i : Nat} (hi : i < 8) : w.cell? ⟨g, i, none⟩ = some (.int .i64 (f i)) := by
 obtain ⟨c, F, h8, hr, hF⟩ := h
 rw [hr.cell (by omega), hF i hi]
theorem frozen (h : Row w g f) (i : Nat) : w.frozen? ⟨g, i, none⟩ = false := by
 obtain ⟨c, F, h8, hr, hF⟩ := h
 exact hr.frozen i
theorem lt (h : Row w g f) : g < w.heap.size := by
 obtain ⟨c, F, h8, hr, hF⟩ := h
 exact hr.lt
theorem congr {k : Nat → Int} (h : Row w g f) (e : ∀ i, i < 8 → f i = k i) : Row w g k := by
 obtain ⟨c, F, h8, hr, hF⟩ := h
 exact ⟨c, F, h8, hr, fun i hi => by rw [hF i hi, e i hi]⟩
theorem below {w' : World} {B : Nat} (h : Row w g f) (hb : Below B w w') (hg : g < B) : Row w' g f := by
 obtain ⟨c, F, h8, hr, hF⟩ := h
 exact ⟨c, F, h8, hr.of_block (hb.block g hg), hF⟩
theorem alloc (h : Row w g f) (o : Obj) : Row (w.alloc o) g f := by
 obtain ⟨c, F, h8, hr, hF⟩ := h
 exact ⟨c, F, h8, hr.alloc o, hF⟩
theorem drew (h : Row w g f) : Row w.drew g f := h
theorem set (h : Row w g f) (i : Nat) (x : Int) : Row (w.setCell ⟨g, i, none⟩ (.int .i64 x)) g (fun j => if j = i then x else f j) := by
 obtain ⟨c, F, h8, hr, hF⟩ := h
 refine ⟨c, _, h8, hr.set i _, fun j hj => ?_⟩
 simp only
 split
 · rfl
 · exact hF j hj
theorem setOther (h : Row w g f) {a : Addr} (ha : g ≠ a.block) (v : Value) : Row (w.setCell a v) g f := by
 obtain ⟨c, F, h8, hr, hF⟩ := h
 exact ⟨c, F, h8, hr.setOther ha v, hF⟩
end Row
theorem row_of_owns {w : World} {B : Nat} {v : Value} {h l : Int} (ho : w.ownsRow B 3 1 v 8 (digs h l 8)) : ∃ g c, v = .slice (some ⟨g, 0, none⟩) 8 c ∧ B ≤ g ∧ Row w g (dg h l) := by
 rcases ho.2 with ⟨_, h0⟩ | ⟨g, cap, cur, hv, hb, hg, hn, hm, hs, ht⟩
 · omega
 · refine ⟨g, cap, hv, hb, cap, fun i => (cur[i]?).getD (.int .i64 0), hn, ⟨cur, hg, by omega, fun i hi => ?_⟩, fun i hi => ?_⟩
   · show cur[i]? = some ((cur[i]?).getD (.int .i64 0))
     rw [Array.getElem?_eq_getElem (by omega)]; rfl
   · have e : (cur.toList.take (8 * 1))[i]? = some (.int .i64 (dg h l i)) := by
       rw [ht]; unfold digs; rw [List.getElem?_map, List.getElem?_range (by omega)]; rfl
     rw [List.getElem?_take, if_pos (by omega), Array.getElem?_toList] at e
     show (cur[i]?).getD _ = _
     rw [e]; rfl
theorem digits_row (h l : Int) (w : World) (h0 : 0 ≤ h) (h1 : h ≤ 18446744073709551615) (l0 : 0 ≤ l) (l1 : l ≤ 18446744073709551615) :
   Calls Tryz.prog 78 #[.agg #[.int .u64 h, .int .u64 l]] w fun e w' => ∃ g c, e = .returned (.slice (some ⟨g, 0, none⟩) 8 c) ∧ w.heap.size < g ∧ Row w' g (dg h l) ∧ Below w.heap.size w w' :=
 (digits_any h l w h0 h1 l0 l1).mono fun e w' ⟨v, hv, ho, hb⟩ => by
   obtain ⟨g, c, rfl, hg, hr⟩ := row_of_owns ho
   exact ⟨g, c, hv, by omega, hr, hb⟩
end Go.Proofs.YtcffeokbipjaoaaGreat
namespace Go.Proofs.YtcffeokbipjaoaaGreat
open Go.ChangeShapes Go.WideShapes Go.ChangeAt Go.RowKit Kn
set_option linter.unusedVariables false
theorem set_drewN (w : World) (n : Nat) (a : Addr) (v : Value) : (w.drewN n).setCell a v = (w.setCell a v).drewN n := rfl
theorem lv_step (f : Nat → Int) (p : Nat) (hp : p < 4) : lv f p = lv f (p + 1) * 65536 + f p := by
 match p, hp with
 | 0, _ => rfl
 | 1, _ => rfl
 | 2, _ => rfl
 | 3, _ => show f 3 = 0 * 65536 + f 3; omega
theorem lv_bound (f : Nat → Int) (hf : ∀ i, i < 4 → 0 ≤ f i ∧ f i ≤ 65535) (p : Nat) : 0 ≤ lv f p ∧ lv f p ≤ 18446744073709551615 := by
 have a0 := hf 0 (by omega); have a1 := hf 1 (by omega); have a2 := hf 2 (by omega); have a3 := hf 3 (by omega)
 unfold lv
 split <;> omega
theorem lv_less (f : Nat → Int) (hf : ∀ i, i < 4 → 0 ≤ f i ∧ f i ≤ 65535) (p : Nat) : lv f (p + 1) ≤ 281474976710655 := by
 have a1 := hf 1 (by omega); have a2 := hf 2 (by omega); have a3 := hf 3 (by omega)
 unfold lv
 split <;> omega
set_option maxHeartbeats 1600000 in
set_option maxRecDepth 1000000 in
theorem value_any (g c : Nat) (f : Nat → Int) (w : World) (hr : Row w g f) (hf : ∀ i, i < 8 → 0 ≤ f i ∧ f i ≤ 65535) :
   Calls Tryz.prog 79 #[.slice (some ⟨g, 0, none⟩) 8 c] w fun e w' => e = .returned (.agg #[.int .u64 (lv (up f) 0), .int .u64 (lv f 0)]) ∧ Below w.heap.size w w' := by
 have hg := hr.lt
 have hfl : ∀ i, i < 4 → 0 ≤ f i ∧ f i ≤ 65535 := fun i hi => hf i (by omega)
 have hfu : ∀ i, i < 4 → 0 ≤ up f i ∧ up f i ≤ 65535 := fun i hi => hf (i + 4) (by omega)
 have HF := Lib.hid hf; have HL := Lib.hid hfl; have HU := Lib.hid hfu
 clear hf hfl hfu
 go_enter Tryz.func79, Tryz.ntmps79
 go_wp2
 go_loopw [4] (fun i wr => ∃ q m : Nat, q ≤ 4 ∧ i = .int .i64 ((q : Int) - 1) ∧ wr = ((w.alloc (.cells #[.int .u64 0, .int .u64 0] 92)).alloc (.cells #[.int .u64 (lv (up f) q), .int .u64 (lv f q)] 92)).drewN m)
   (fun i _ => (intOf i + 1).toNat)
 case atStart => exact ⟨4, 0, by omega, rfl, rfl⟩
 case round =>
   obtain ⟨q, m, hq, rfl, rfl⟩ := hrel
   cases q with
   | zero =>
     go_wp2
     refine bodyPost_ret (v := .agg #[.int .u64 (lv (up f) 0), .int .u64 (lv f 0)]) (by simp [results, Tryz.results79, go_sem]) rfl ⟨rfl, ?_⟩
     exact ((below_drewN (((Below.refl _ _).alloc (Nat.le_refl _) _).alloc (by simp) _) _).setCell (by simp) _).setCell (by simp) _
   | succ p =>
     have c0 := hr.cell (i := p) (by omega)
     have c1 := hr.cell (i := p + 4) (by omega)
     have b0 := HF.out p (by omega)
     have b1 := HF.out (p + 4) (by omega)
     have l0 := lv_bound f HL.out (p + 1)
     have l1 := lv_less f HL.out p
     have u0 := lv_bound (up f) HU.out (p + 1)
     have u1 := lv_less (up f) HU.out p
     have s0 : lv f (p + 1) * 65536 + f p = lv f p := (lv_step f p (by omega)).symm
     have s1 : lv (up f) (p + 1) * 65536 + f (p + 4) = lv (up f) p := (lv_step (up f) p (by omega)).symm
     go_wp2
     go_region
     go_wp2
     go_region
     go_wp2
     go_roundw
     case rel => exact ⟨p, m + 2, by omega, rfl, by simp [set_drewN, World.setCell_alloc_at]⟩
     case measure => simp [intOf]
end Go.Proofs.YtcffeokbipjaoaaGreat
