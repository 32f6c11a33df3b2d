/- The document's answers of layer 1: doubling, and a number's bits. -/
import Derived.Test.YtfbkimhblfpibaaRefc
namespace Go.Proofs.Ytfbkimhblfpibaa
open Go.ChangeShapes Go.WideShapes Go.ChangeAt Go.RowKit Kn
set_option linter.unusedVariables false
set_option maxHeartbeats 1000000 in
theorem rtwice_any (h l : Int) (w : World) (h0 : 0 ≤ h) (h1 : h ≤ 18446744073709551615) (l0 : 0 ≤ l) (l1 : l ≤ 18446744073709551615) :
    Calls Try.prog 40 #[.agg #[.int .u64 h, .int .u64 l]] w fun e w' => e = .returned (.agg #[.int .u64 (hi (addN (num h l) (num h l))), .int .u64 (lo (addN (num h l) (num h l)))]) ∧ Below w.heap.size w w' := by
  go_enter Try.func40, Try.ntmps40
  go_wp2_with (go_at_call 35; refine (radd_any _ _ _ _ _ h0 h1 l0 l1 h0 h1 l0 l1).mono ?_; rintro e w1 ⟨rfl, hb1⟩; obtain ⟨hc1, hf1⟩ := bcell hb1; have hz1 : w.heap.size + 1 < w1.heap.size := (by have := hb1.size; simp at this; omega))
  refine bodyPost_ret (v := .agg #[.int .u64 (hi (addN (num h l) (num h l))), .int .u64 (lo (addN (num h l) (num h l)))]) (by simp [results, Try.results40, go_sem, hc1, hz1]) rfl ⟨rfl, ?_⟩
  have hz := hb1.size
  simp at hz
  exact (((((((Below.refl _ _).alloc (Nat.le_refl _) _).alloc (by simp) _).trans (hb1.mono (by simp; omega))).setCell (p := ⟨w.heap.size + 1, 0, none⟩) (by show _ ≤ w.heap.size + 1; omega) _).setCell (p := ⟨w.heap.size + 1, 1, none⟩) (by show _ ≤ w.heap.size + 1; omega) _).alloc (by simp [World.setCell]; omega) _)
def bitN (n : Int) (i : Nat) : Int := n / 2 ^ i % 2
theorem bit_of (n : Int) (i : Nat) : dgN n (i / 16) / 2 ^ (i % 16) % 2 = bitN n i := by
  unfold dgN bitN
  have e : (2 : Int) ^ i = 65536 ^ (i / 16) * 2 ^ (i % 16) := by
    rw [show (65536 : Int) = 2 ^ 16 from rfl, ← Int.pow_mul, ← Int.pow_add]; congr 1; omega
  rw [e, ← Int.ediv_ediv_of_nonneg (Int.le_of_lt (pp _))]
  generalize n / 65536 ^ (i / 16) = x
  have hr : i % 16 < 16 := Nat.mod_lt _ (by decide)
  generalize i % 16 = r at hr
  have e2 : (65536 : Int) = 2 * 2 ^ (15 - r) * 2 ^ r := by rw [Int.mul_assoc, ← Int.pow_add, show 15 - r + r = 15 by omega]; rfl
  have p : (0 : Int) < 2 ^ r := Int.pow_pos (by decide)
  have h := Int.mul_ediv_add_emod x 65536
  have h3 : x / 2 ^ r = x % 65536 / 2 ^ r + x / 65536 * (2 * 2 ^ (15 - r)) := by
    have h4 : x = x % 65536 + x / 65536 * (2 * 2 ^ (15 - r)) * 2 ^ r := by rw [Int.mul_assoc, ← e2]; omega
    conv => lhs; rw [h4]
    rw [Int.add_mul_ediv_right _ _ (Int.ne_of_gt p)]
  rw [h3, Int.mul_comm 2, ← Int.mul_assoc]
  omega
set_option maxHeartbeats 1000000 in
theorem rbit_any (h l : Int) (i : Nat) (w : World) (h0 : 0 ≤ h) (h1 : h ≤ 18446744073709551615) (l0 : 0 ≤ l) (l1 : l ≤ 18446744073709551615) (hi : i < 128) :
    Calls Try.prog 41 #[.agg #[.int .u64 h, .int .u64 l], .int .i64 i] w fun e w' => e = .returned (.int .i64 (bitN (num h l) i)) ∧ Below w.heap.size w w' := by
  have e1 := bit_of (num h l) i
  have n0 := dgN0 (num h l) (i / 16)
  have n1 := dgN1 (num h l) (i / 16)
  have p : (0 : Int) < 2 ^ (i % 16) := Int.pow_pos (by decide)
  have n2 : 0 ≤ dgN (num h l) (i / 16) / 2 ^ (i % 16) := Int.ediv_nonneg n0 (Int.le_of_lt p)
  go_enter Try.func41, Try.ntmps41
  go_wp2_with (go_at_call 42; refine (digits_row _ _ _ h0 h1 l0 l1).mono ?_; rintro e w1 ⟨g, c, rfl, hg, r, hb1⟩; have m0 : w1.cell? ⟨g, i / 16, none⟩ = some (.int .i64 (dgN (num h l) (i / 16))) := (by rw [r.cell (by omega), dg_num h l _ (by omega) l0 l1]))
  go_ret
  exact ⟨ret_int e1, ((Below.refl _ _).alloc (Nat.le_refl _) _).trans (hb1.mono (by simp))⟩
end Go.Proofs.Ytfbkimhblfpibaa
