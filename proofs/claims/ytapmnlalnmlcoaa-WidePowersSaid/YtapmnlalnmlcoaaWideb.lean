/- What the calls of package wide answer: differences, shifts down, bits. -/
import Derived.Test.YtapmnlalnmlcoaaWide
namespace Go.Proofs.Ytapmnlalnmlcoaa
open Go.ChangeShapes Go.WideShapes Go.ChangeAt Go.RowKit Kn
set_option linter.unusedVariables false
def bor (x y b : Int) : Int := if x < y + b then 1 else 0
theorem bor0 (x y b : Int) : 0 ≤ bor x y b := by unfold bor; split <;> omega
theorem bor1 (x y b : Int) : bor x y b ≤ 1 := by unfold bor; split <;> omega
theorem sub64 (x y b : Int) (hx : 0 ≤ x) (hy : 0 ≤ y) (hy' : y ≤ 18446744073709551615) (hb0 : 0 ≤ b) (hb : b ≤ 1) (w : World) : (callFunc 48 #[.int .u64 x, .int .u64 y, .int .u64 b]).run Try.prog w =
    .ok (.value (.tuple #[.int .u64 ((x - y - b) % 18446744073709551616), .int .u64 (bor x y b)])) w := by
  obtain ⟨x, rfl⟩ := Int.eq_ofNat_of_zero_le hx
  obtain ⟨y, rfl⟩ := Int.eq_ofNat_of_zero_le hy
  obtain ⟨b, rfl⟩ := Int.eq_ofNat_of_zero_le hb0
  have e1 : (((x + 18446744073709551616 - y - b) % 18446744073709551616 : Nat) : Int) = ((x : Int) - y - b) % 18446744073709551616 := by omega
  have e2 : ((if x < y + b then 1 else 0 : Nat) : Int) = bor x y b := by unfold bor; split <;> split <;> omega
  rw [← e1, ← e2]
  exact Any7.bits_Sub64 Try.lays26 x y b (by omega) w
theorem sub64_0 (x y : Int) (hx : 0 ≤ x) (hy : 0 ≤ y) (hy' : y ≤ 18446744073709551615) (w : World) : (callFunc 48 #[.int .u64 x, .int .u64 y, .int .u64 0]).run Try.prog w =
    .ok (.value (.tuple #[.int .u64 ((x - y) % 18446744073709551616), .int .u64 (bor x y 0)])) w := by
  simpa using sub64 x y 0 hx hy hy' (Int.le_refl 0) (by decide) w
set_option maxHeartbeats 400000 in
theorem wsub_any (ah al bh bl : Int) (w : World) (ah0 : 0 ≤ ah) (ah1 : ah ≤ 18446744073709551615) (al0 : 0 ≤ al) (al1 : al ≤ 18446744073709551615) (bh0 : 0 ≤ bh) (bh1 : bh ≤ 18446744073709551615) (bl0 : 0 ≤ bl) (bl1 : bl ≤ 18446744073709551615) :
    Calls Try.prog 18 #[.agg #[.int .u64 ah, .int .u64 al], .agg #[.int .u64 bh, .int .u64 bl]] w fun e w' => e = .returned (.tuple #[.agg #[.int .u64 (hi (subN (num ah al) (num bh bl))), .int .u64 (lo (subN (num ah al) (num bh bl)))], .bool (underB (num ah al) (num bh bl))]) ∧ Below w.heap.size w w' := by
  have k0 := bor0 al bl 0
  have k1 := bor1 al bl 0
  have e1 : (ah - bh - bor al bl 0) % 18446744073709551616 = hi (subN (num ah al) (num bh bl)) := by unfold bor hi subN num; split <;> omega
  have e2 : (al - bl) % 18446744073709551616 = lo (subN (num ah al) (num bh bl)) := by unfold lo subN num; omega
  have e3 : (!(bor ah bh (bor al bl 0) == 0)) = underB (num ah al) (num bh bl) := by
    unfold underB num bor
    by_cases h : ah * 18446744073709551616 + al < bh * 18446744073709551616 + bl
    · rw [decide_eq_true h]; simp; split <;> omega
    · rw [decide_eq_false h]; simp; split <;> omega
  rw [← e1, ← e2, ← e3]
  clear e1 e2 e3
  go_enter Try.func18, Try.ntmps18
  go_wp2_with (first | simp only [sub64_0 al bl al0 bl0 bl1] | simp only [sub64 ah bh _ ah0 bh0 bh1 k0 k1])
  refine bodyPost_ret (v := .tuple #[.agg #[.int .u64 _, .int .u64 _], .bool _]) (by simp [results, Try.results18, go_sem]; exact rfl) rfl ⟨rfl, ?_⟩
  exact ((((Below.refl _ _).alloc (Nat.le_refl _) _).alloc (by simp) _).alloc (by simp; omega) _)
theorem right_cap (h : Int) (m : Nat) (h0 : 0 ≤ h) (h1 : h ≤ 18446744073709551615) : h / 2 ^ min m 64 = h / 2 ^ m := by
  by_cases hm : m ≤ 64
  · rw [Nat.min_eq_left hm]
  · have e : (2 : Int) ^ m = 2 ^ 64 * 2 ^ (m - 64) := by rw [← Int.pow_add]; congr 1; omega
    have z : h / 2 ^ 64 = 0 := Int.ediv_eq_zero_of_lt h0 (by omega)
    rw [Nat.min_eq_right (by omega), e, ← Int.ediv_ediv_of_nonneg (by decide), z, Int.zero_ediv]
set_option maxHeartbeats 400000 in
theorem wright_any (h l k : Int) (w : World) (h0 : 0 ≤ h) (h1 : h ≤ 18446744073709551615) (l0 : 0 ≤ l) (l1 : l ≤ 18446744073709551615) (k1 : k ≤ 9223372036854775807) :
    Calls Try.prog 29 #[.agg #[.int .u64 h, .int .u64 l], .int .i64 k] w fun e w' => e = .returned (.agg #[.int .u64 (hi (rightN (num h l) k.toNat)), .int .u64 (lo (rightN (num h l) k.toNat))]) ∧ Below w.heap.size w w' := by
  obtain ⟨j, hj⟩ : ∃ j, max k 0 = j := ⟨_, rfl⟩
  have hjk : j.toNat = k.toNat := by omega
  have j0 : 0 ≤ j := by omega
  have j1 : j ≤ 9223372036854775807 := by omega
  rw [← hjk]
  clear hjk k1
  by_cases hk : 64 ≤ j
  · have e1 : h / 2 ^ min (j - 64).toNat 64 = lo (rightN (num h l) j.toNat) := by
      rw [right_cap _ _ h0 h1, ← (right_far h l j.toNat (by omega) h0 h1 l0 l1).1, show (j - 64).toNat = j.toNat - 64 by omega]
    rw [← (right_far h l j.toNat (by omega) h0 h1 l0 l1).2]
    go_enter Try.func29, Try.ntmps29
    go_wp2
    refine bodyPost_ret (v := .agg #[.int .u64 0, .int .u64 (lo (rightN (num h l) j.toNat))]) (by simp [results, Try.results29, go_sem]) rfl ⟨rfl, ((Below.refl _ _).alloc (Nat.le_refl _) _).alloc (by simp) _⟩
  · have e1 : bits .or .u64 (l / 2 ^ j.toNat) (IntKind.u64.wrap (h * 2 ^ (64 - j).toNat)) = lo (rightN (num h l) j.toNat) := by
      rw [wrapu, ← right_lo h l j.toNat (by omega) l0 l1, show (64 - j).toNat = 64 - j.toNat by omega]
    have e2 : h / 2 ^ j.toNat = hi (rightN (num h l) j.toNat) := right_hi h l j.toNat l0 l1
    go_enter Try.func29, Try.ntmps29
    go_wp2
    go_region
    go_wp2
    refine bodyPost_ret (v := .agg #[.int .u64 (hi (rightN (num h l) j.toNat)), .int .u64 (lo (rightN (num h l) j.toNat))]) (by simp [results, Try.results29, go_sem]) rfl ⟨rfl, (((Below.refl _ _).alloc (Nat.le_refl _) _).alloc (by simp) _).drew⟩
def bitsN (h l : Int) : Int := if h = 0 then (Lib.bitLen l.toNat : Int) else 64 + (Lib.bitLen h.toNat : Int)
set_option maxHeartbeats 400000 in
theorem wbits_any (h l : Int) (w : World) (h0 : 0 ≤ h) (h1 : h ≤ 18446744073709551615) (l0 : 0 ≤ l) (l1 : l ≤ 18446744073709551615) :
    Calls Try.prog 33 #[.agg #[.int .u64 h, .int .u64 l]] w fun e w' => e = .returned (.int .i64 (bitsN h l)) ∧ Below w.heap.size w w' := by
  have b1 := Lib.bitLen_le h.toNat 64 (Nat.le_refl _) (by omega)
  by_cases hz : h = 0
  · subst hz
    have e : bitsN 0 l = (Lib.bitLen l.toNat : Int) := rfl
    rw [e]; clear e
    go_enter Try.func33, Try.ntmps33
    go_wp2_with (go_at_call 56; refine (Try.bits_Len64 _ _ (by omega) (by omega)).mono ?_; rintro e w' ⟨rfl, rfl⟩)
    go_ret
    exact ⟨rfl, (Below.refl _ _).alloc (Nat.le_refl _) _⟩
  · have e : bitsN h l = 64 + (Lib.bitLen h.toNat : Int) := by unfold bitsN; rw [if_neg hz]
    rw [e]; clear e
    go_enter Try.func33, Try.ntmps33
    go_wp2_with (go_at_call 56; refine (Try.bits_Len64 _ _ (by omega) (by omega)).mono ?_; rintro e w' ⟨rfl, rfl⟩)
    go_ret
    exact ⟨rfl, (Below.refl _ _).alloc (Nat.le_refl _) _⟩
end Go.Proofs.Ytapmnlalnmlcoaa
