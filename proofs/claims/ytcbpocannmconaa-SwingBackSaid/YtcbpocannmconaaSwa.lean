/- Package swing: a point's parts, the signed area, the square of a distance, one step's turn. -/
import Derived.Test.YtcbpocannmconaaFlo
import Derived.Test.YtcbpocannmconaaHelpb
import Derived.Test.YtcbpocannmconaaProg
import Derived.WalkLawsBesides
import Derived.Laws.ComplexArith
import Derived.Laws.Unary
import Derived.WalkKit
import Derived.IntWalk
import Derived.Lib.Hide
namespace Go.Proofs.Ytcbpocannmconaa
open Go.RowKit
set_option linter.unusedVariables false
set_option linter.unusedSimpArgs false
theorem Fl.neg {b : Nat} {z : Int} (h : Fl b z) : Fl (Op.negFloat .f64 b) (-z) := by
  have e : Ieee.double.read (Op.negFloat .f64 b) = (Ieee.double.read b).opposite := by
    have hw : Ieee.double.signWeight = 2 ^ 63 := rfl
    have hx : Op.negFloat .f64 b = b ^^^ 2 ^ 63 := rfl
    have m : (b ^^^ 2 ^ 63) % 2 ^ 63 = b % 2 ^ 63 := by rw [Nat.xor_mod_two_pow]; simp
    have d : ((b ^^^ 2 ^ 63) / 2 ^ 63 % 2 == 1) = !(b / 2 ^ 63 % 2 == 1) := by
      have h1 : (b ^^^ 2 ^ 63) / 2 ^ 63 % 2 = (b / 2 ^ 63 % 2) ^^^ 1 := by
        rw [Nat.xor_div_two_pow, show 2 ^ 63 / 2 ^ 63 = 1 from by decide, show (2 : Nat) = 2 ^ 1 from rfl, Nat.xor_mod_two_pow]
      rw [h1]
      rcases Nat.mod_two_eq_zero_or_one (b / 2 ^ 63) with c | c <;> rw [c] <;> rfl
    unfold Ieee.Format.read
    rw [hx, hw, m, d]
    simp only
    split
    · rfl
    · split
      · rfl
      · split <;> rfl
  have := Is.neg h
  unfold Fl
  rw [e]
  exact this
theorem ret_int {k : IntKind} {a b : Int} (h : a = b) : Ending.returned (.int k a) = .returned (.int k b) := by rw [h]
theorem abs_mul {a b : Int} {k m : Nat} (h : a.natAbs ≤ k) (g : b.natAbs ≤ m) : (a * b).natAbs ≤ k * m := by rw [Int.natAbs_mul]; exact Nat.mul_le_mul h g
/-- A sum or a difference of points. -/
theorem csum {a b c d : Nat} {a' b' c' d' : Int} (ha : Fl a a') (hb : Fl b b') (hc : Fl c c') (hd : Fl d d') (h0 : a'.natAbs ≤ 4194304) (h1 : b'.natAbs ≤ 4194304) (h2 : c'.natAbs ≤ 4194304) (h3 : d'.natAbs ≤ 4194304) :
    (∃ r i, cSumBits .add .f64 a b c d = some (r, i) ∧ Fl r (a' + c') ∧ Fl i (b' + d')) ∧ (∃ r i, cSumBits .sub .f64 a b c d = some (r, i) ∧ Fl r (a' - c') ∧ Fl i (b' - d')) := by
  have big : (2 : Nat) ^ 53 = 9007199254740992 := rfl
  obtain ⟨r, e1, f1⟩ := ha.add hc (by rw [big]; omega)
  obtain ⟨i, e2, f2⟩ := hb.add hd (by rw [big]; omega)
  obtain ⟨r', e3, f3⟩ := ha.sub hc (by rw [big]; omega)
  obtain ⟨i', e4, f4⟩ := hb.sub hd (by rw [big]; omega)
  exact ⟨⟨r, i, by simp [cSumBits, e1, e2], f1, f2⟩, ⟨r', i', by simp [cSumBits, e3, e4], f3, f4⟩⟩
theorem cmul {a b c d : Nat} {a' b' c' d' : Int} (ha : Fl a a') (hb : Fl b b') (hc : Fl c c') (hd : Fl d d') (h0 : a'.natAbs ≤ 4194304) (h1 : b'.natAbs ≤ 4194304) (h2 : c'.natAbs ≤ 4194304) (h3 : d'.natAbs ≤ 4194304) :
    ∃ r i, cMulBits a b c d = some (r, i) ∧ Fl r (a' * c' - b' * d') ∧ Fl i (a' * d' + b' * c') := by
  have big : (2 : Nat) ^ 53 = 9007199254740992 := rfl
  have n1 := abs_mul h0 h2
  have n2 := abs_mul h1 h3
  have n3 := abs_mul h0 h3
  have n4 := abs_mul h1 h2
  obtain ⟨ac, e1, f1⟩ := ha.mul hc (by rw [big]; omega)
  obtain ⟨bd, e2, f2⟩ := hb.mul hd (by rw [big]; omega)
  obtain ⟨r, e3, f3⟩ := f1.sub f2 (by rw [big]; omega)
  obtain ⟨ad, e4, f4⟩ := ha.mul hd (by rw [big]; omega)
  obtain ⟨bc, e5, f5⟩ := hb.mul hc (by rw [big]; omega)
  obtain ⟨i, e6, f6⟩ := f4.add f5 (by rw [big]; omega)
  exact ⟨r, i, by simp [cMulBits, e1, e2, e3, e4, e5, e6], f3, f6⟩
theorem mir_any (x y : Nat) (w : World) : Calls Try.prog 32 #[.complex .f64 x y] w fun e w' => e = .returned (.complex .f64 x (Op.negFloat .f64 y)) ∧ w = w' := by
  have hn : Op.unary .neg (.float .f64 y) = (pure (.float .f64 (Op.negFloat .f64 y)) : Sem Value) := rfl
  go_enter Try.func32, Try.ntmps32
  go_wp2
  go_ret
  exact ⟨rfl, rfl⟩
set_option maxHeartbeats 1000000 in
theorem cross_any {a b c d : Nat} {a' b' c' d' : Int} (ha : Fl a a') (hb : Fl b b') (hc : Fl c c') (hd : Fl d d') (h0 : a'.natAbs ≤ 4194304) (h1 : b'.natAbs ≤ 4194304) (h2 : c'.natAbs ≤ 4194304) (h3 : d'.natAbs ≤ 4194304) (w : World) :
    Calls Try.prog 27 #[.complex .f64 a b, .complex .f64 c d] w fun e w' => e = .returned (.int .i64 (a' * d' - b' * c')) ∧ w = w' := by
  obtain ⟨r, i, e, fr, fi⟩ := cmul ha hb.neg hc hd h0 (by omega) h2 h3
  have hv : a' * d' + -b' * c' = a' * d' - b' * c' := by rw [Int.neg_mul]; omega
  rw [hv] at fi
  have n3 := abs_mul h0 h3
  have n4 := abs_mul h1 h2
  have hm : ∀ W, (binOp .mul 28 (.complex .f64 a (Op.negFloat .f64 b)) (.complex .f64 c d)).run Try.prog W = .ok (.complex .f64 r i) W := fun W => run_complex_mul W _ _ _ _ _ _ _ e
  have hcv : ∀ W, (convert 33 2 (.float .f64 i)).run Try.prog W = .ok (.int .i64 (a' * d' - b' * c')) W := fun W => run_convert_float_int W _ _ _ _ _ _ (by rw [Try.underlying33]; rfl) Try.underlying2 (fi.toInt (by omega) (by omega))
  clear fr fi hv n3 n4 e
  go_enter Try.func27, Try.ntmps27
  go_wp2_with (go_at_call 32; refine (mir_any _ _ _).mono ?_; rintro e w1 ⟨rfl, rfl⟩)
  go_ret
  exact ⟨rfl, rfl⟩
set_option maxHeartbeats 1000000 in
theorem square_any {a b : Nat} {a' b' : Int} (ha : Fl a a') (hb : Fl b b') (h0 : a'.natAbs ≤ 4194304) (h1 : b'.natAbs ≤ 4194304) (w : World) :
    Calls Try.prog 28 #[.complex .f64 a b] w fun e w' => e = .returned (.int .i64 (a' * a' + b' * b')) ∧ w = w' := by
  obtain ⟨r, i, e, fr, fi⟩ := cmul ha hb.neg ha hb h0 (by omega) h0 h1
  have hv : a' * a' - -b' * b' = a' * a' + b' * b' := by rw [Int.neg_mul]; omega
  rw [hv] at fr
  have n3 := abs_mul h0 h0
  have n4 := abs_mul h1 h1
  have hm : ∀ W, (binOp .mul 28 (.complex .f64 a (Op.negFloat .f64 b)) (.complex .f64 a b)).run Try.prog W = .ok (.complex .f64 r i) W := fun W => run_complex_mul W _ _ _ _ _ _ _ e
  have hcv : ∀ W, (convert 33 2 (.float .f64 r)).run Try.prog W = .ok (.int .i64 (a' * a' + b' * b')) W := fun W => run_convert_float_int W _ _ _ _ _ _ (by rw [Try.underlying33]; rfl) Try.underlying2 (fr.toInt (by omega) (by omega))
  clear fr fi hv n3 n4 e
  go_enter Try.func28, Try.ntmps28
  go_wp2_with (go_at_call 32; refine (mir_any _ _ _).mono ?_; rintro e w1 ⟨rfl, rfl⟩)
  go_ret
  exact ⟨rfl, rfl⟩
/-- What a step adds, by how its ends lie to the point's level. -/
def turnO (o1 o2 : Ordering) (sd : Int) : Int := if o1 ≠ .gt ∧ o2 = .gt ∧ 0 < sd then 1 else if o1 = .gt ∧ o2 ≠ .gt ∧ sd < 0 then -1 else 0
set_option maxHeartbeats 4000000 in
theorem turn_o {a b c d p q : Nat} {a' b' c' d' p' q' : Int} (ha : Fl a a') (hb : Fl b b') (hc : Fl c c') (hd : Fl d d') (hp : Fl p p') (hq : Fl q q') (h0 : a'.natAbs ≤ 1048576) (h1 : b'.natAbs ≤ 1048576) (h2 : c'.natAbs ≤ 1048576) (h3 : d'.natAbs ≤ 1048576) (h4 : p'.natAbs ≤ 1048576) (h5 : q'.natAbs ≤ 1048576)
    (sd : Int) (hsd : (c' - a') * (q' - b') - (d' - b') * (p' - a') = sd) (o1 o2 : Ordering) (ho1 : compare b' q' = o1) (ho2 : compare d' q' = o2) (w : World) :
    Calls Try.prog 30 #[.complex .f64 a b, .complex .f64 c d, .complex .f64 p q] w fun e w' => e = .returned (.int .i64 (turnO o1 o2 sd)) ∧ w = w' := by
  obtain ⟨_, r1, i1, e1, fr1, fi1⟩ := csum hc hd ha hb (by omega) (by omega) (by omega) (by omega)
  obtain ⟨_, r2, i2, e2, fr2, fi2⟩ := csum hp hq ha hb (by omega) (by omega) (by omega) (by omega)
  have k1 : ∀ W, (binOp .sub 28 (.complex .f64 c d) (.complex .f64 a b)).run Try.prog W = .ok (.complex .f64 r1 i1) W := fun W => run_complex_sum W _ (.inr rfl) _ _ _ _ _ _ _ _ e1
  have k2 : ∀ W, (binOp .sub 28 (.complex .f64 p q) (.complex .f64 a b)).run Try.prog W = .ok (.complex .f64 r2 i2) W := fun W => run_complex_sum W _ (.inr rfl) _ _ _ _ _ _ _ _ e2
  have kc := fun W => cross_any fr1 fi1 fr2 fi2 (by omega) (by omega) (by omega) (by omega) W
  rw [hsd] at kc
  have j1 : FloatKind.f64.format.order b q = some o1 := by rw [← ho1]; exact hb.order hq
  have j2 : FloatKind.f64.format.order d q = some o2 := by rw [← ho2]; exact hd.order hq
  have l1 : ∀ W, (binOp .leq 33 (.float .f64 b) (.float .f64 q)).run Try.prog W = .ok (.bool (o1 == .lt || o1 == .eq)) W := fun W => by rw [binOp_float_cmp_leq, j1]; rfl
  have l2 : ∀ W, (binOp .gtr 33 (.float .f64 d) (.float .f64 q)).run Try.prog W = .ok (.bool (o2 == .gt)) W := fun W => by rw [binOp_float_cmp_gtr, j2]; rfl
  have l3 : ∀ W, (binOp .gtr 33 (.float .f64 b) (.float .f64 q)).run Try.prog W = .ok (.bool (o1 == .gt)) W := fun W => by rw [binOp_float_cmp_gtr, j1]; rfl
  have l4 : ∀ W, (binOp .leq 33 (.float .f64 d) (.float .f64 q)).run Try.prog W = .ok (.bool (o2 == .lt || o2 == .eq)) W := fun W => by rw [binOp_float_cmp_leq, j2]; rfl
  have KC := Lib.hid kc
  clear ha hb hc hd hp hq fr1 fi1 fr2 fi2 ho1 ho2 hsd e1 e2 kc h0 h1 h2 h3 h4 h5
  cases o1 <;> cases o2
  all_goals
    go_enter Try.func30, Try.ntmps30
    go_wp2_with (go_at_call 27; refine (KC.out _).mono ?_; rintro e w1 ⟨rfl, rfl⟩)
    all_goals (go_ret; exact ⟨ret_int (by unfold turnO; simp; try omega), rfl⟩)
end Go.Proofs.Ytcbpocannmconaa
