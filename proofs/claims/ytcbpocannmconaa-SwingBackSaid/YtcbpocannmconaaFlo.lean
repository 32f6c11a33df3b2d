/- Doubles that stand for whole numbers: sums, products, orders, there and back. No program. -/
import Derived.Laws.ComplexArith
namespace Go.Proofs.Ytcbpocannmconaa
open Ieee
def sg (s : Bool) (m : Int) : Int := if s then -m else m
theorem sg_mul (s : Bool) (m k : Int) : sg s (m * k) = sg s m * k := by
  cases s <;> simp [sg, Int.neg_mul]
theorem sg_mul2 (s t : Bool) (m n : Int) : sg (s ^^ t) (m * n) = sg s m * sg t n := by
  cases s <;> cases t <;> simp [sg, Int.neg_mul, Int.mul_neg]
theorem sg_abs (s : Bool) (m : Nat) : (sg s m).natAbs = m := by
  cases s <;> simp [sg]
theorem signed_eq (s : Bool) (m k : Nat) : signed s m k = sg s m * 2 ^ k := by
  cases s <;> simp [signed, sg, Nat.shiftLeft_eq, Int.neg_mul]
/-- The datum stands for the whole number z. -/
def Is (d : Datum) (z : Int) : Prop := ∃ (s : Bool) (m a b : Nat), d = .number s m ((a : Int) - b) ∧ sg s m * 2 ^ a = z * 2 ^ b
theorem pow_pos2 (k : Nat) : (0 : Int) < 2 ^ k := Int.pow_pos (by decide)
theorem Is.neg {d : Datum} {z : Int} (h : Is d z) : Is d.opposite (-z) := by
  obtain ⟨s, m, a, b, rfl, e⟩ := h
  refine ⟨!s, m, a, b, rfl, ?_⟩
  have : sg (!s) m = - sg s m := by cases s <;> simp [sg]
  rw [this, Int.neg_mul, e, Int.neg_mul]
theorem Is.product {d c : Datum} {z u : Int} (h : Is d z) (g : Is c u) : ∃ r, d.product c = some r ∧ Is r (z * u) := by
  obtain ⟨s, m, a, b, rfl, e⟩ := h
  obtain ⟨t, n, a', b', rfl, e'⟩ := g
  refine ⟨_, rfl, s ^^ t, m * n, a + a', b + b', ?_, ?_⟩
  · congr 1; omega
  · rw [Int.natCast_mul, sg_mul2, Int.pow_add, Int.pow_add]
    calc sg s m * sg t n * (2 ^ a * 2 ^ a') = (sg s m * 2 ^ a) * (sg t n * 2 ^ a') := by ac_rfl
      _ = z * 2 ^ b * (u * 2 ^ b') := by rw [e, e']
      _ = _ := by ac_rfl
/-- Two data by one place. -/
theorem two_places {s t : Bool} {m n a b a' b' : Nat} {z u : Int} (e : sg s m * 2 ^ a = z * 2 ^ b) (e' : sg t n * 2 ^ a' = u * 2 ^ b') :
    ∃ x y : Nat, min ((a : Int) - b) ((a' : Int) - b') = (x : Int) - y ∧
      signed s m ((a : Int) - b - min ((a : Int) - b) ((a' : Int) - b')).toNat * 2 ^ x = z * 2 ^ y ∧
      signed t n ((a' : Int) - b' - min ((a : Int) - b) ((a' : Int) - b')).toNat * 2 ^ x = u * 2 ^ y := by
  simp only [signed_eq]
  by_cases h : (a : Int) - b ≤ (a' : Int) - b'
  · refine ⟨a + b', b + b', by omega, ?_, ?_⟩
    · rw [show ((a : Int) - b - min ((a : Int) - b) ((a' : Int) - b')).toNat = 0 from by omega, Int.pow_add, Int.pow_add, ← Int.mul_assoc, ← Int.mul_assoc, Int.pow_zero, Int.mul_one, e]
    · rw [Int.mul_assoc, ← Int.pow_add, show ((a' : Int) - b' - min ((a : Int) - b) ((a' : Int) - b')).toNat + (a + b') = a' + b from by omega, Int.pow_add, ← Int.mul_assoc, e', Int.mul_assoc, ← Int.pow_add, Nat.add_comm b' b]
  · refine ⟨a' + b, b' + b, by omega, ?_, ?_⟩
    · rw [Int.mul_assoc, ← Int.pow_add, show ((a : Int) - b - min ((a : Int) - b) ((a' : Int) - b')).toNat + (a' + b) = a + b' from by omega, Int.pow_add, ← Int.mul_assoc, e, Int.mul_assoc, ← Int.pow_add, Nat.add_comm b b']
    · rw [show ((a' : Int) - b' - min ((a : Int) - b) ((a' : Int) - b')).toNat = 0 from by omega, Int.pow_add, Int.pow_add, ← Int.mul_assoc, ← Int.mul_assoc, Int.pow_zero, Int.mul_one, e']
theorem Is.sum {d c : Datum} {z u : Int} (h : Is d z) (g : Is c u) : ∃ r, d.sum c = some r ∧ Is r (z + u) := by
  obtain ⟨s, m, a, b, rfl, e⟩ := h
  obtain ⟨t, n, a', b', rfl, e'⟩ := g
  obtain ⟨x, y, hb, h1, h2⟩ := two_places e e'
  rw [hb] at h1 h2
  simp only [Datum.sum, hb]
  refine ⟨_, rfl, _, _, x, y, rfl, ?_⟩
  generalize signed s m ((a : Int) - b - ((x : Int) - y)).toNat = p at h1 h2 ⊢
  generalize signed t n ((a' : Int) - b' - ((x : Int) - y)).toNat = q at h1 h2 ⊢
  have k : ∀ (f : Bool), sg (if p + q = 0 then f else decide (p + q < 0)) ((p + q).natAbs : Int) = p + q := by
    intro f
    by_cases k0 : p + q = 0
    · rw [if_pos k0, k0]; cases f <;> rfl
    · rw [if_neg k0]
      by_cases k1 : p + q < 0
      · simp only [sg, k1, decide_true, if_true]; omega
      · simp only [sg, k1, decide_false, Bool.false_eq_true, if_false]; omega
  rw [k, Int.add_mul, h1, h2, Int.add_mul]
theorem compare_mul (p q : Int) (k : Int) (hk : 0 < k) : compare (p * k) (q * k) = compare p q := by
  by_cases h : p < q
  · have h' : p * k < q * k := Int.mul_lt_mul_of_pos_right h hk
    simp [compare, compareOfLessAndEq, h, h']
  · by_cases g : p = q
    · subst g; simp [compare, compareOfLessAndEq]
    · have h' : q * k < p * k := Int.mul_lt_mul_of_pos_right (by omega) hk
      simp [compare, compareOfLessAndEq, h, g, show ¬ p * k < q * k from by omega, show ¬ p * k = q * k from by omega]
theorem Is.order {d c : Datum} {z u : Int} (h : Is d z) (g : Is c u) : d.order c = some (compare z u) := by
  obtain ⟨s, m, a, b, rfl, e⟩ := h
  obtain ⟨t, n, a', b', rfl, e'⟩ := g
  obtain ⟨x, y, hb, h1, h2⟩ := two_places e e'
  simp only [Datum.order]
  rw [← compare_mul _ _ _ (pow_pos2 x), h1, h2, compare_mul _ _ _ (pow_pos2 y)]
theorem Is.natAbs {s : Bool} {m a b : Nat} {z : Int} (e : sg s m * 2 ^ a = z * 2 ^ b) : m * 2 ^ a = z.natAbs * 2 ^ b := by
  have := congrArg Int.natAbs e
  rw [Int.natAbs_mul, Int.natAbs_mul, sg_abs, Int.natAbs_pow, Int.natAbs_pow] at this
  exact this
theorem Is.sign {s : Bool} {m a b : Nat} {z : Int} (e : sg s m * 2 ^ a = z * 2 ^ b) (k : Nat) (hk : k = z.natAbs) : sg s (k : Int) = z := by
  have p := pow_pos2 a
  have q := pow_pos2 b
  cases s
  · have : 0 ≤ z * 2 ^ b := by rw [← e]; exact Int.mul_nonneg (by simp [sg]) (by omega)
    have : 0 ≤ z := by
      by_cases h : z < 0
      · have := Int.mul_neg_of_neg_of_pos h q; omega
      · omega
    simp only [sg, Bool.false_eq_true, if_false]; omega
  · have : z * 2 ^ b ≤ 0 := by
      rw [← e, show sg true (m : Int) = - (m : Int) from rfl, Int.neg_mul]
      have := Int.mul_nonneg (show (0 : Int) ≤ m from by omega) (Int.le_of_lt p); omega
    have : z ≤ 0 := by
      by_cases h : 0 < z
      · have := Int.mul_pos h q; omega
      · omega
    simp only [sg, if_true]; omega
theorem log2_shift (m a : Nat) (h : m ≠ 0) : (m * 2 ^ a).log2 = m.log2 + a := by
  have hm : m * 2 ^ a ≠ 0 := Nat.mul_ne_zero h (Nat.ne_of_gt (Nat.two_pow_pos a))
  apply Nat.le_antisymm
  · have : (m * 2 ^ a).log2 < m.log2 + a + 1 := by
      rw [Nat.log2_lt hm, show m.log2 + a + 1 = (m.log2 + 1) + a from by omega, Nat.pow_add]
      exact Nat.mul_lt_mul_of_pos_right (Nat.lt_log2_self) (Nat.two_pow_pos a)
    omega
  · rw [Nat.le_log2 hm, Nat.pow_add]
    exact Nat.mul_le_mul_right _ (Nat.log2_self_le h)
theorem cut_none (way : Toward) (s : Bool) (n : Nat) : way.cut s n 0 = n := by
  unfold Toward.cut
  have : (1 <<< min 0 (n.log2 + 2)) = 1 := by simp
  simp only [this]
  cases way <;> simp [Nat.mod_one]
theorem cut_whole (way : Toward) (s : Bool) (n drop : Nat) : way.cut s (n * 2 ^ drop) drop = n := by
  by_cases h : n = 0
  · subst h
    unfold Toward.cut
    have p : 0 < 1 <<< min drop (0 + 2) := by rw [Nat.shiftLeft_eq, Nat.one_mul]; exact Nat.two_pow_pos _
    cases way <;> simp <;> (try omega)
    all_goals (intro k; rw [Nat.shiftLeft_eq, Nat.one_mul] at k; have := Nat.two_pow_pos (min drop 2); omega)
  · unfold Toward.cut
    rw [log2_shift n drop h, show min drop (n.log2 + drop + 2) = drop from by omega]
    have p := Nat.two_pow_pos drop
    have d : n * 2 ^ drop / 2 ^ drop = n := Nat.mul_div_cancel _ p
    have r : n * 2 ^ drop % 2 ^ drop = 0 := Nat.mul_mod_left ..
    simp only [Nat.shiftLeft_eq, Nat.one_mul, d, r]
    have q : ¬ (2 ^ drop = 0) := by omega
    cases way <;> simp
theorem read_number (s : Bool) (p k : Nat) (hp : p ≤ 1074) (h0 : 2 ^ 52 ≤ k) (h1 : k < 2 ^ 53) : double.read (double.word s (p * double.binade + k)) = .number s k ((p : Int) - 1074) := by
  have hb : double.binade = 4503599627370496 := rfl
  have hw : double.signWeight = 9223372036854775808 := rfl
  have hi : double.infRung = 9218868437227405312 := rfl
  have hl : double.leastPlace = -1074 := rfl
  have h0' : 4503599627370496 ≤ k := h0
  have h1' : k < 9007199254740992 := h1
  unfold Format.read Format.word
  rw [hb, hw, hi, hl]
  have e : (if s = true then 9223372036854775808 + (p * 4503599627370496 + k) else p * 4503599627370496 + k) % 9223372036854775808 = p * 4503599627370496 + k := by
    cases s <;> simp <;> omega
  have n : ((if s = true then 9223372036854775808 + (p * 4503599627370496 + k) else p * 4503599627370496 + k) / 9223372036854775808 % 2 == 1) = s := by
    cases s <;> simp <;> omega
  simp only [e, n]
  rw [if_neg (by omega), if_pos (by omega)]
  congr 1 <;> omega
theorem read_zero (s : Bool) : double.read (double.word s 0) = .number s 0 (-1074) := by
  cases s <;> decide +kernel
theorem rung_ (L k : Nat) (hL : L ≤ 52) (hk : k < 2 ^ 53) : min (((L : Int) - 52 - double.leastPlace).toNat * double.binade + k) double.infRung = (L + 1022) * double.binade + k := by
  have hb : double.binade = 4503599627370496 := rfl
  have hi : double.infRung = 9218868437227405312 := rfl
  have hl : double.leastPlace = -1074 := rfl
  have hk' : k < 9007199254740992 := hk
  rw [hb, hi, hl, show ((L : Int) - 52 - -1074).toNat = L + 1022 from by omega]
  omega
/-- A whole number that is small is written as itself. -/
theorem Is.write {d : Datum} {z : Int} (h : Is d z) (hz : z.natAbs < 2 ^ 53) : Is (double.read (double.write d)) z := by
  obtain ⟨s, m, a, b, rfl, e⟩ := h
  have n := Is.natAbs e
  have sgn := Is.sign e
  show Is (double.read (double.nearest s m ((a : Int) - b))) z
  unfold Format.nearest
  by_cases h0 : m = 0
  · subst h0
    rw [if_pos rfl, read_zero]
    have z0 : z = 0 := by
      rcases Nat.eq_zero_or_pos z.natAbs with h | h
      · omega
      · have := Nat.mul_pos h (Nat.two_pow_pos b); omega
    subst z0
    exact ⟨s, 0, 0, 1074, rfl, by rw [Int.zero_mul]; cases s <;> rfl⟩
  · rw [if_neg h0]
    have zn : z.natAbs ≠ 0 := by
      intro h; rw [h, Nat.zero_mul] at n
      have := Nat.mul_pos (Nat.pos_of_ne_zero h0) (Nat.two_pow_pos a); omega
    have lg : m.log2 + a = z.natAbs.log2 + b := by rw [← log2_shift m a h0, n, log2_shift _ b zn]
    generalize hL : z.natAbs.log2 = L at lg
    have hL52 : L < 53 := by rw [← hL, Nat.log2_lt zn]; exact hz
    have hk0 : 2 ^ 52 ≤ z.natAbs * 2 ^ (52 - L) := by
      have := Nat.mul_le_mul_right (2 ^ (52 - L)) (Nat.log2_self_le zn)
      rw [hL, ← Nat.pow_add, show L + (52 - L) = 52 from by omega] at this
      exact this
    have hk1 : z.natAbs * 2 ^ (52 - L) < 2 ^ 53 := by
      have := Nat.mul_lt_mul_of_pos_right (Nat.lt_log2_self (n := z.natAbs)) (Nat.two_pow_pos (52 - L))
      rw [hL, ← Nat.pow_add, show L + 1 + (52 - L) = 53 from by omega] at this
      exact this
    have last : max ((a : Int) - b + (m.log2 : Int) - double.fractionBits) double.leastPlace = (L : Int) - 52 := by
      rw [show double.leastPlace = -1074 from rfl, show ((double.fractionBits : Nat) : Int) = 52 from rfl]; omega
    simp only [last]
    have kept : Toward.even.cut s (m <<< ((a : Int) - b - ((L : Int) - 52)).toNat) ((L : Int) - 52 - ((a : Int) - b)).toNat = z.natAbs * 2 ^ (52 - L) := by
      by_cases hp : (L : Int) - 52 ≤ (a : Int) - b
      · rw [show ((L : Int) - 52 - ((a : Int) - b)).toNat = 0 from by omega, cut_none, Nat.shiftLeft_eq]
        apply Nat.eq_of_mul_eq_mul_right (Nat.two_pow_pos (b + L))
        rw [Nat.mul_assoc, Nat.mul_assoc, ← Nat.pow_add, ← Nat.pow_add, show ((a : Int) - b - ((L : Int) - 52)).toNat + (b + L) = a + 52 from by omega, show 52 - L + (b + L) = b + 52 from by omega, Nat.pow_add, Nat.pow_add, ← Nat.mul_assoc, ← Nat.mul_assoc, n]
      · rw [show ((a : Int) - b - ((L : Int) - 52)).toNat = 0 from by omega, Nat.shiftLeft_zero]
        have : m = z.natAbs * 2 ^ (52 - L) * 2 ^ ((L : Int) - 52 - ((a : Int) - b)).toNat := by
          apply Nat.eq_of_mul_eq_mul_right (Nat.two_pow_pos a)
          rw [n, Nat.mul_assoc, Nat.mul_assoc, ← Nat.pow_add, ← Nat.pow_add]
          congr 2; omega
        rw [this, cut_whole]
    rw [kept]
    rw [rung_ L _ (by omega) hk1, read_number s (L + 1022) _ (by omega) hk0 hk1]
    refine ⟨s, z.natAbs * 2 ^ (52 - L), L, 52, by rw [show ((L + 1022 : Nat) : Int) - 1074 = (L : Int) - (52 : Nat) from by omega], ?_⟩
    have : (z.natAbs * 2 ^ (52 - L) : Nat) * (2 : Int) ^ L = (z.natAbs : Int) * 2 ^ 52 := by
      rw [Int.natCast_mul, Int.natCast_pow, Int.mul_assoc, show ((2 : Nat) : Int) = 2 from rfl, ← Int.pow_add, show 52 - L + L = 52 from by omega]
    rw [← sg_mul, this, sg_mul, sgn _ rfl]
theorem Is.toInt {d : Datum} {z : Int} (h : Is d z) : d.toInt .zero = some z := by
  obtain ⟨s, m, a, b, rfl, e⟩ := h
  have n := Is.natAbs e
  have sgn := Is.sign e
  unfold Datum.toInt Datum.integral
  simp only
  have c : Toward.zero.cut s (m <<< ((a : Int) - b).toNat) (-((a : Int) - b)).toNat = z.natAbs := by
    by_cases hp : b ≤ a
    · rw [show (-((a : Int) - b)).toNat = 0 from by omega, cut_none, Nat.shiftLeft_eq]
      apply Nat.eq_of_mul_eq_mul_right (Nat.two_pow_pos b)
      rw [Nat.mul_assoc, ← Nat.pow_add, show ((a : Int) - b).toNat + b = a from by omega, n]
    · rw [show ((a : Int) - b).toNat = 0 from by omega, Nat.shiftLeft_zero]
      have : m = z.natAbs * 2 ^ (-((a : Int) - b)).toNat := by
        apply Nat.eq_of_mul_eq_mul_right (Nat.two_pow_pos a)
        rw [n, Nat.mul_assoc, ← Nat.pow_add]
        congr 2; omega
      rw [this, cut_whole]
  rw [c, signed_eq, sgn _ rfl, Int.pow_zero, Int.mul_one]
/-- The word of a double stands for the whole number z. -/
def Fl (b : Nat) (z : Int) : Prop := Is (double.read b) z
theorem map_write {o : Option Datum} {r : Datum} {z : Int} (ho : o = some r) (h : Is r z) (hz : z.natAbs < 2 ^ 53) : ∃ b, o.map double.write = some b ∧ Fl b z :=
  ⟨_, by rw [ho]; rfl, h.write hz⟩
theorem Fl.add {x y : Nat} {z u : Int} (h : Fl x z) (g : Fl y u) (hz : (z + u).natAbs < 2 ^ 53) : ∃ r, floatBits .add .f64 x y = some r ∧ Fl r (z + u) := by
  obtain ⟨r, e, k⟩ := Is.sum h g
  exact map_write (o := (double.read x).sum (double.read y)) e k hz
theorem Fl.sub {x y : Nat} {z u : Int} (h : Fl x z) (g : Fl y u) (hz : (z - u).natAbs < 2 ^ 53) : ∃ r, floatBits .sub .f64 x y = some r ∧ Fl r (z - u) := by
  obtain ⟨r, e, k⟩ := Is.sum h (Is.neg g)
  rw [show z + -u = z - u from by omega] at k
  exact map_write (o := (double.read x).sum (double.read y).opposite) e k hz
theorem Fl.mul {x y : Nat} {z u : Int} (h : Fl x z) (g : Fl y u) (hz : (z * u).natAbs < 2 ^ 53) : ∃ r, floatBits .mul .f64 x y = some r ∧ Fl r (z * u) := by
  obtain ⟨r, e, k⟩ := Is.product h g
  exact map_write (o := (double.read x).product (double.read y)) e k hz
theorem Fl.order {x y : Nat} {z u : Int} (h : Fl x z) (g : Fl y u) : double.order x y = some (compare z u) := Is.order h g
theorem Fl.int {n : Int} (hn : n.natAbs < 2 ^ 53) : Fl (FloatKind.f64.nearest n) n := by
  have : Is (.number (n < 0) n.natAbs 0) n := by
    refine ⟨decide (n < 0), n.natAbs, 0, 0, rfl, ?_⟩
    rw [Int.pow_zero, Int.mul_one, Int.mul_one]
    by_cases h : n < 0
    · rw [decide_eq_true h]; simp only [sg, if_true]; omega
    · rw [decide_eq_false h]; simp only [sg, Bool.false_eq_true, if_false]; omega
  exact Is.write this hn
theorem Fl.toInt {b : Nat} {z : Int} (h : Fl b z) (h0 : -9223372036854775808 ≤ z) (h1 : z ≤ 9223372036854775807) : floatToIntVal .f64 b .i64 = some z := by
  unfold floatToIntVal
  have e : (FloatKind.decode .f64 b).toInt .zero = some z := Is.toInt h
  rw [e]
  simp only
  rw [if_pos ⟨h0, h1⟩]
theorem Fl.zero : Fl 0 0 := ⟨false, 0, 0, 1074, by decide +kernel, by rw [Int.zero_mul]; rfl⟩
theorem Fl.one : Fl 0x3ff0000000000000 1 := ⟨false, 2 ^ 52, 0, 52, by decide +kernel, by decide +kernel⟩
theorem Fl.two : Fl 0x4000000000000000 2 := ⟨false, 2 ^ 52, 1, 52, by decide +kernel, by decide +kernel⟩
end Go.Proofs.Ytcbpocannmconaa
