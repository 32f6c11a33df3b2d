/- bits.Div64 gives the quotient and the rest, wherever the divisor is above the upper half. -/
import Derived.Test.YtfbkimhblfpibaaShelf
import Derived.Test.YtfbkimhblfpibaaNums
import Derived.WalkKit
import Derived.ProofKit
import Derived.OpenShut
import Derived.Below
import Derived.BigQuiet
import Derived.Deep.QuietTactic
import Derived.Lib.Hide
import Derived.LoopTactic
namespace Go.Proofs.Ytfbkimhblfpibaa
open Go.ChangeShapes Go.WideShapes Go.ChangeAt Go.RowKit
set_option maxHeartbeats 4000000 in
theorem div64_core (h l d : Int) (w : World) (h0 : 0 < h) (h1 : h < d) (d1 : d ≤ 18446744073709551615)
    (s P y y1 yl u un u1 u0 Q t Q2 R : Int) (hs : s = 64 - (Lib.bitLen d.toNat : Int)) (s0 : 0 ≤ s) (s1 : s ≤ 63) (hP : (2 : Int) ^ s.toNat = P)
    (hy : d * P = y) (b0 : 9223372036854775808 ≤ y) (b1 : y ≤ 18446744073709551615) (hhp0 : 0 ≤ h * P) (hhp1 : h * P ≤ 18446744073709551615)
    (hy1 : y / 4294967296 = y1) (hyl : bits BinOp.and IntKind.u64 y 4294967295 = yl) (c0 : 0 ≤ yl) (c1 : yl ≤ 4294967295) (c2 : y1 * 4294967296 + yl = y)
    (hu : bits BinOp.or IntKind.u64 (h * P) (l / 2 ^ (64 - s).toNat) = u) (e0 : 0 ≤ u) (e1 : u < y)
    (hun : IntKind.u64.wrap (l * P) = un) (hu1 : un / 4294967296 = u1) (hu0 : bits BinOp.and IntKind.u64 un 4294967295 = u0)
    (g0 : 0 ≤ u1) (g1 : u1 ≤ 4294967295) (g2 : 0 ≤ u0) (g3 : u0 ≤ 4294967295) 
    (st : u / y1 ≤ 4294967297 ∧ 0 ≤ u / y1 ∧ 0 ≤ u - u / y1 * y1 ∧ u - u / y1 * y1 < y1 ∧ Q ≤ u / y1)
    (kQ : Hid (Q = (u * 4294967296 + u1) / y)) (kQ0 : 0 ≤ Q) (kQ1 : Q ≤ 4294967295)
    (hT : IntKind.u64.wrap (IntKind.u64.wrap (IntKind.u64.wrap (u * 4294967296) + u1) - IntKind.u64.wrap (Q * y)) = t)
    (t0 : 0 ≤ t) (t1 : t < y) (st2 : t / y1 ≤ 4294967297 ∧ 0 ≤ t / y1 ∧ 0 ≤ t - t / y1 * y1 ∧ t - t / y1 * y1 < y1 ∧ Q2 ≤ t / y1)
    (kQ2 : Hid (Q2 = (t * 4294967296 + u0) / y)) (kQ20 : 0 ≤ Q2) (kQ21 : Q2 ≤ 4294967295)
    (hR : IntKind.u64.wrap (IntKind.u64.wrap (IntKind.u64.wrap (t * 4294967296) + u0) - IntKind.u64.wrap (Q2 * y)) = R)
    (fin : Hid ((h * 18446744073709551616 + l) / d = Q * 4294967296 + Q2 ∧ (h * 18446744073709551616 + l) % d = R / P)) :
    Calls Try.prog 50 #[.int .u64 h, .int .u64 l, .int .u64 d] w fun e w' => e = .returned (.tuple #[.int .u64 ((h * 18446744073709551616 + l) / d), .int .u64 ((h * 18446744073709551616 + l) % d)]) ∧ w = w' := by
  rw [fin.out.1, fin.out.2]
  clear fin
  have HS := Lib.hid hs; clear hs
  have f1 : 0 ≤ d * P := by omega
  have f2 : d * P ≤ 18446744073709551615 := by omega
  have y10 : 2147483648 ≤ y1 := by omega
  have y11 : y1 ≤ 4294967295 := by omega
  obtain ⟨st1, stb, st3, st4, st5⟩ := st
  obtain ⟨sv1, sv2, sv3, sv4, sv5⟩ := st2
  have m0 : 0 ≤ u / y1 * y1 := Int.mul_nonneg stb (by omega)
  have m1 : u / y1 * y1 ≤ 18446744073709551615 := by omega
  have n0 : 0 ≤ t / y1 * y1 := Int.mul_nonneg sv2 (by omega)
  have n1 : t / y1 * y1 ≤ 18446744073709551615 := by omega
  go_enter Try.func50, Try.ntmps50
  go_wp2_with (go_at_call 54; refine (Try.bits_LeadingZeros64 _ _ (by omega) (by omega)).mono ?_; rintro e w' ⟨rfl, rfl⟩; rw [← HS.out])
  go_loop [15, 16] (fun a b => ∃ q r : Int, a = .int .u64 q ∧ b = .int .u64 r ∧ 0 ≤ q ∧ q ≤ 4294967297 ∧ 0 ≤ r ∧ r ≤ 4294967295 ∧ q * y1 + r = u ∧ Q ≤ q) (fun a _ => (intOf a).toNat)
  case atStart => exact ⟨u / y1, u - u / y1 * y1, rfl, rfl, by omega, by omega, by omega, by omega, by omega, by omega⟩
  case round =>
    obtain ⟨q, r, rfl, rfl, q0, q1, r0, r1, eq1, leQ⟩ := hrel
    rcases Kn.round u u1 y1 yl y q r Q kQ.out c2.symm y10 c0 c1 e0 e1 g0 g1 q0 q1 eq1 leQ with ⟨hA, hQ, hr⟩ | ⟨hA, hq, hr, heq, hle⟩ | ⟨hA, hQ, hm0, hm1⟩
    · clear eq1
      rcases hA with hA | ⟨hA, hB, hm0, hm1⟩
      all_goals
        go_wp2
        clear hQ
        go_loop [18, 16] (fun a b => ∃ q r : Int, a = .int .u64 q ∧ b = .int .u64 r ∧ 0 ≤ q ∧ q ≤ 4294967297 ∧ 0 ≤ r ∧ r ≤ 4294967295 ∧ q * y1 + r = t ∧ Q2 ≤ q) (fun a _ => (intOf a).toNat)
        case atStart => exact ⟨t / y1, t - t / y1 * y1, rfl, rfl, by omega, by omega, by omega, by omega, by omega, by omega⟩
        case round =>
          obtain ⟨q, r, rfl, rfl, q0, q1, r0, r1, eq1, leQ⟩ := hrel
          rcases Kn.round t u0 y1 yl y q r Q2 kQ2.out c2.symm y10 c0 c1 t0 t1 g2 g3 q0 q1 eq1 leQ with ⟨hA, hQ, hr⟩ | ⟨hA, hq, hr, heq, hle⟩ | ⟨hA, hQ, hm0, hm1⟩
          · clear eq1
            rcases hA with hA | ⟨hA, hB, hm0, hm1⟩
            all_goals
              go_wp2
              go_ret2
              exact ⟨rfl, rfl⟩
          · have HEQ := Lib.hid heq; clear heq eq1
            rcases hA with hA | ⟨hA, hB, hm0, hm1⟩
            all_goals
              go_wp2
              go_round
              case rel => exact ⟨q - 1, r + y1, rfl, rfl, by omega, by omega, by omega, by omega, HEQ.out, hle⟩
              case measure => simp [intOf]; omega
          · clear eq1
            obtain rfl := hQ
            go_wp2
            go_ret2
            exact ⟨rfl, rfl⟩
    · have HEQ := Lib.hid heq; clear heq eq1
      rcases hA with hA | ⟨hA, hB, hm0, hm1⟩
      all_goals
        go_wp2
        go_round
        case rel => exact ⟨q - 1, r + y1, rfl, rfl, by omega, by omega, by omega, by omega, HEQ.out, hle⟩
        case measure => simp [intOf]; omega
    · clear eq1
      obtain rfl := hQ
      go_wp2
      go_loop [18, 16] (fun a b => ∃ q r : Int, a = .int .u64 q ∧ b = .int .u64 r ∧ 0 ≤ q ∧ q ≤ 4294967297 ∧ 0 ≤ r ∧ r ≤ 4294967295 ∧ q * y1 + r = t ∧ Q2 ≤ q) (fun a _ => (intOf a).toNat)
      case atStart => exact ⟨t / y1, t - t / y1 * y1, rfl, rfl, by omega, by omega, by omega, by omega, by omega, by omega⟩
      case round =>
        obtain ⟨q, r, rfl, rfl, q0, q1, r0, r1, eq1, leQ⟩ := hrel
        rcases Kn.round t u0 y1 yl y q r Q2 kQ2.out c2.symm y10 c0 c1 t0 t1 g2 g3 q0 q1 eq1 leQ with ⟨hA, hQ, hr⟩ | ⟨hA, hq, hr, heq, hle⟩ | ⟨hA, hQ, hm0, hm1⟩
        · clear eq1
          rcases hA with hA | ⟨hA, hB, hm0, hm1⟩
          all_goals
            go_wp2
            go_ret2
            exact ⟨rfl, rfl⟩
        · have HEQ := Lib.hid heq; clear heq eq1
          rcases hA with hA | ⟨hA, hB, hm0, hm1⟩
          all_goals
            go_wp2
            go_round
            case rel => exact ⟨q - 1, r + y1, rfl, rfl, by omega, by omega, by omega, by omega, HEQ.out, hle⟩
            case measure => simp [intOf]; omega
        · clear eq1
          obtain rfl := hQ
          go_wp2
          go_ret2
          exact ⟨rfl, rfl⟩
set_option maxHeartbeats 400000 in
theorem div64_low (l d : Int) (w : World) (h0 : 0 < d) (l0 : 0 ≤ l) (l1 : l ≤ 18446744073709551615) (d1 : d ≤ 18446744073709551615) :
    Calls Try.prog 50 #[.int .u64 0, .int .u64 l, .int .u64 d] w fun e w' => e = .returned (.tuple #[.int .u64 (l / d), .int .u64 (l % d)]) ∧ ∃ n, w' = w.drewN n := by
  have hd : ¬ d = 0 := by omega
  go_enter Try.func50, Try.ntmps50
  go_wp2
  go_quiet (fail)
  go_wp2
  go_ret2
  exact ⟨rfl, _, rfl⟩
theorem wrap_id (x : Int) (h0 : 0 ≤ x) (h1 : x ≤ 18446744073709551615) : IntKind.u64.wrap x = x := by rw [IntKind.wrap_u64]; omega
theorem wrapsub (a b t : Int) (h : a = b + t) (t0 : 0 ≤ t) (t1 : t ≤ 18446744073709551615) : IntKind.u64.wrap (IntKind.u64.wrap a - IntKind.u64.wrap b) = t := by
  simp only [IntKind.wrap_u64]; omega
theorem wrapadd (a b : Int) : IntKind.u64.wrap (IntKind.u64.wrap a + b) = IntKind.u64.wrap (a + b) := by
  simp only [IntKind.wrap_u64]; omega
theorem div64_high (h l d : Int) (w : World) (h0 : 0 < h) (h1 : h < d) (l0 : 0 ≤ l) (l1 : l ≤ 18446744073709551615) (d1 : d ≤ 18446744073709551615) :
    Calls Try.prog 50 #[.int .u64 h, .int .u64 l, .int .u64 d] w fun e w' => e = .returned (.tuple #[.int .u64 ((h * 18446744073709551616 + l) / d), .int .u64 ((h * 18446744073709551616 + l) % d)]) ∧ w = w' := by
  obtain ⟨n, hn, n1, n2, b0, b1, b2⟩ := Kn.bitlen d (by omega) d1
  have eP : (2 : Int) ^ (64 - (n : Int)).toNat = 2 ^ (64 - n) := by congr 1; omega
  have eK : (2 : Int) ^ (64 - (64 - (n : Int))).toNat = 2 ^ n := by congr 1; omega
  have p0 : (0 : Int) < 2 ^ (64 - n) := Int.pow_pos (by decide)
  have k0 : (0 : Int) < 2 ^ n := Int.pow_pos (by decide)
  have hl : l * 2 ^ (64 - n) / 18446744073709551616 = l / 2 ^ n := by rw [← b2]; exact Int.mul_ediv_mul_of_pos_left _ _ p0
  have hm : (h * 2 ^ (64 - n)) % 2 ^ (64 - n) = 0 := Int.mul_emod_left _ _
  have hlt : l / 2 ^ n < 2 ^ (64 - n) := by apply Int.ediv_lt_of_lt_mul k0; rw [Int.mul_comm, b2]; omega
  have hl0 : 0 ≤ l / 2 ^ n := Int.ediv_nonneg l0 (Int.le_of_lt k0)
  have hh : (h + 1) * 2 ^ (64 - n) ≤ d * 2 ^ (64 - n) := Int.mul_le_mul_of_nonneg_right (by omega) (Int.le_of_lt p0)
  have hh0 : 0 ≤ h * 2 ^ (64 - n) := Int.mul_nonneg (by omega) (Int.le_of_lt p0)
  rw [Int.add_mul] at hh
  have hor : bits .or .u64 (h * 2 ^ (64 - n)) (l / 2 ^ n) = h * 2 ^ (64 - n) + l / 2 ^ n :=
    bits_join .u64 64 (by decide) Kn.wraps64 (64 - n) _ _ hh0 hm (by omega) hl0 hlt (by omega)
  have hN : (h * 18446744073709551616 + l) * 2 ^ (64 - n) = (h * 2 ^ (64 - n) + l / 2 ^ n) * 18446744073709551616 + l * 2 ^ (64 - n) % 18446744073709551616 := by
    rw [Int.add_mul, Int.mul_right_comm]
    omega
  generalize (2 : Int) ^ (64 - n) = P at *
  generalize hKK : (2 : Int) ^ n = K at *
  obtain ⟨y, hy⟩ : ∃ y, y = d * P := ⟨_, rfl⟩
  obtain ⟨u, hu⟩ : ∃ u, u = h * P + l / K := ⟨_, rfl⟩
  obtain ⟨un, hun⟩ : ∃ un, un = l * P % 18446744073709551616 := ⟨_, rfl⟩
  rw [← hu, ← hun] at hN
  rw [← hy] at b0 b1 hh
  have un0 : 0 ≤ un := by omega
  have un1 : un ≤ 18446744073709551615 := by omega
  have u0 : 0 ≤ u := by omega
  have u1 : u < y := by omega
  have s1 := Kn.start u (un / 4294967296) (y / 4294967296) (y % 4294967296) y (by omega) (by omega) (by omega) (by omega) u0 u1 (by omega) (by omega)
  obtain ⟨Q, hQ⟩ : ∃ Q, Q = (u * 4294967296 + un / 4294967296) / y := ⟨_, rfl⟩
  have Q0 : 0 ≤ Q := by rw [hQ]; exact Int.ediv_nonneg (by omega) (by omega)
  have Q1 := Kn.top u (un / 4294967296) y u0 u1 (by omega)
  obtain ⟨t, ht⟩ : ∃ t, t = (u * 4294967296 + un / 4294967296) % y := ⟨_, rfl⟩
  have et := Int.mul_ediv_add_emod (u * 4294967296 + un / 4294967296) y
  have t0 : 0 ≤ t := by rw [ht]; exact Int.emod_nonneg _ (by omega)
  have t1 : t < y := by rw [ht]; exact Int.emod_lt_of_pos _ (by omega)
  rw [← ht, ← hQ, Int.mul_comm] at et
  rw [← hQ] at Q1 s1
  have s2 := Kn.start t (un % 4294967296) (y / 4294967296) (y % 4294967296) y (by omega) (by omega) (by omega) (by omega) t0 t1 (by omega) (by omega)
  obtain ⟨Q2, hQ2⟩ : ∃ Q2, Q2 = (t * 4294967296 + un % 4294967296) / y := ⟨_, rfl⟩
  have Q20 : 0 ≤ Q2 := by rw [hQ2]; exact Int.ediv_nonneg (by omega) (by omega)
  have Q21 := Kn.top t (un % 4294967296) y t0 t1 (by omega)
  obtain ⟨R, hR⟩ : ∃ R, R = (t * 4294967296 + un % 4294967296) % y := ⟨_, rfl⟩
  have eR := Int.mul_ediv_add_emod (t * 4294967296 + un % 4294967296) y
  have R0 : 0 ≤ R := by rw [hR]; exact Int.emod_nonneg _ (by omega)
  have R1 : R < y := by rw [hR]; exact Int.emod_lt_of_pos _ (by omega)
  rw [← hR, ← hQ2, Int.mul_comm] at eR
  rw [← hQ2] at Q21 s2
  have fin := Kn.both (h * 18446744073709551616 + l) d P y u (un / 4294967296) (un % 4294967296) Q t Q2 R p0 hy.symm (by omega) et.symm eR.symm R0 R1
  refine div64_core h l d w h0 h1 d1 (64 - n) P y (y / 4294967296) (y % 4294967296) u un (un / 4294967296) (un % 4294967296) Q t Q2 R (by rw [hn]) (by omega) (by omega) eP hy.symm b0 b1
    hh0 (by omega) rfl (Kn.and32 y (by omega) b1) (by omega) (by omega) (by omega) (by rw [eK, hor, hu]) u0 u1 (by rw [IntKind.wrap_u64, hun]) rfl (Kn.and32 un un0 un1) (by omega) (by omega) (by omega) (by omega)
    s1 hQ Q0 (by omega) ?_ t0 t1 s2 hQ2 Q20 (by omega) ?_ fin
  · rw [wrapadd]; exact wrapsub _ _ _ (by omega) t0 (by omega)
  · rw [wrapadd]; exact wrapsub _ _ _ (by omega) R0 (by omega)
theorem div64_any (h l d : Int) (w : World) (h0 : 0 ≤ h) (h1 : h < d) (l0 : 0 ≤ l) (l1 : l ≤ 18446744073709551615) (d1 : d ≤ 18446744073709551615) :
    Calls Try.prog 50 #[.int .u64 h, .int .u64 l, .int .u64 d] w fun e w' => e = .returned (.tuple #[.int .u64 ((h * 18446744073709551616 + l) / d), .int .u64 ((h * 18446744073709551616 + l) % d)]) ∧ ∃ n, w' = w.drewN n := by
  by_cases hz : h = 0
  · subst hz
    have := div64_low l d w h1 l0 l1 d1
    simpa using this
  · exact (div64_high h l d w (by omega) h1 l0 l1 d1).mono fun e w' ⟨a, b⟩ => ⟨a, 0, b.symm⟩
end Go.Proofs.Ytfbkimhblfpibaa
