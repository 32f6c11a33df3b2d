/- A team opens: a ring that holds nothing, on both sides. -/
import Derived.Test.YtbenpnecjmpcbaaTh
import Derived.Test.YtbenpnecjmpcbaaRngj
import Derived.Test.YtbenpnecjmpcbaaRefu
namespace Go.Proofs.Ytbenpnecjmpcbaa
open Go.RowKit
set_option linter.unusedVariables false
set_option linter.unusedSimpArgs false
def rg0 (n : Nat) : Rg := ⟨0, 0, fun i => if i < n then i else 0, fun _ => 0⟩
theorem XAt.congr {w : World} {q b d n cb cd : Nat} {g g' : Rg} (h : XAt w q b d n cb cd g) (hT : g'.T = g.T) (hH : g'.H = g.H) (hS : ∀ i, i < n → g'.S i = g.S i) (hV : ∀ i, i < n → g'.V i = g.V i) : XAt w q b d n cb cd g' := by
  obtain ⟨a0, a1, a2, a3, a4, hd, ⟨cs, bc, bz, bb⟩, ⟨ds, dc, dz, dd⟩⟩ := h
  exact ⟨a0, a1, a2, a3, a4, by rw [hT, hH]; exact hd, ⟨cs, bc, bz, fun i hi => by rw [hS i hi]; exact bb i hi⟩, ⟨ds, dc, dz, fun i hi => by rw [hV i hi]; exact dd i hi⟩⟩
set_option maxRecDepth 20000 in
set_option maxHeartbeats 2000000 in
theorem rnewz (n : Nat) (w : World) (hn : n = 2 ∨ n = 4 ∨ n = 8) :
    Calls Try.prog 14 #[.int .i64 (n : Int)] w fun e w' => ∃ r s : Nat, e = .returned (.tuple #[.pointer (some ⟨r, 0, none⟩), .int .i64 0]) ∧ w.heap.size ≤ r ∧ w.heap.size ≤ s ∧ RingAt w' r s n (rg0 n) ∧ Below w.heap.size w w' := by
  have n2 : 2 ≤ n := by omega
  have n8 : n ≤ 8 := by omega
  have hm := run_slots n (by omega)
  have hand : bits BinOp.and IntKind.i64 (n : Int) ((n : Int) - 1) = 0 := by
    rcases hn with rfl | rfl | rfl <;> rfl
  clear hn
  go_enter Try.func14, Try.ntmps14
  go_wp2
  go_loopw [31] (fun s31 wr => ∃ k : Nat, k ≤ n ∧ s31 = .int .i64 k ∧ RingAt wr (w.heap.size + 1) w.heap.size n ⟨0, 0, fun i => if i < k then i else 0, fun _ => 0⟩ ∧ Below w.heap.size w wr) (fun s _ => n - (intOf s).toNat)
  case atStart =>
    refine ⟨0, Nat.zero_le _, rfl, ⟨by omega, by omega, ?_, ⟨_, (Blk.made w _ _).alloc_ _, made_size _ _, fun i hi => ⟨?_, ?_⟩⟩⟩, ?_⟩
    · exact Blk.new_ (by simp)
    · rw [made_at _ _ (by omega) (by decide)]; simp [show i * 2 % 2 = 0 by omega]
    · rw [made_at _ _ (by omega) (by decide)]; simp [show (i * 2 + 1) % 2 = 1 by omega]
    · exact ((Below.refl _ w).alloc (Nat.le_refl _) _).alloc (by simp) _
  case round =>
    obtain ⟨k, hk, rfl, hs, hbr⟩ := hrel
    clear hm hand
    have s0 := hs.s0
    by_cases hlt : k < n
    · have q1 := hs.sq hlt
      have z1 := hs.zs (k * 2)
      have hw : IntKind.u64.wrap (k : Int) = (k : Int) := IntWalk.u64_in _ (by omega)
      have H := Lib.hid hs
      clear hs
      go_wp2_with (go_at_call 26; refine (astore _ _ _ _ _ q1 z1).mono ?_; rintro e w2 ⟨⟨v, rfl⟩, rfl⟩)
      go_roundw
      case rel =>
        refine ⟨k + 1, by omega, by go_num, ?_, hbr.setCell (p := ⟨w.heap.size, k * 2, none⟩) (Nat.le_refl _) _⟩
        have h2 := H.out.setS hlt k
        have e : (fun i => if i < k + 1 then i else 0) = fun i => if i = k then k else (fun i => if i < k then i else 0) i := by funext i; exact up_at k i
        rw [e]
        exact h2
      case measure => simp [intOf]; omega
    · obtain rfl : k = n := by omega
      have H := Lib.hid hs
      clear hs
      go_wp2
      go_ret2
      exact ⟨_, _, rfl, by omega, Nat.le_refl _, H.out, hbr⟩
theorem ts0_ok {n : Nat} (hn : 1 ≤ n) (K : Nat → Int) : TsOk n 0 (ts0 (rg0 n) K) := by
  refine ⟨RInv.first hn rfl rfl (fun j hj => if_pos hj) (fun _ => rfl), ⟨Nat.le_refl _, Nat.le_refl _, fun i => ?_, fun j c h => (by cases h)⟩, fun j c h => (by cases h), fun j => ⟨Int.le_refl _, Int.le_refl _⟩, fun j c h => (by cases h), Nat.le_refl _⟩
  show (if i < n then i else 0) ≤ _
  split <;> omega
set_option maxRecDepth 100000 in
set_option maxHeartbeats 4000000 in
theorem topen {x : Int} (w : World) (x0 : 0 ≤ x) (x1 : x ≤ 255) :
    Calls Try.prog 8 #[.int .u8 x] w fun e w' => ∃ A, e = .returned (.pointer (some ⟨A.t, 0, none⟩)) ∧ TmAt w' w.heap.size (capE x) A (rg0 (capE x)) (fun _ => none) (fun _ => 0) ∧ Below w.heap.size w w' := by
  obtain ⟨n, hn⟩ : ∃ n, capE x = n := ⟨_, rfl⟩
  rw [hn]
  have hn8 : n = 2 ∨ n = 4 ∨ n = 8 := hn ▸ capE_cases x
  have HN := Lib.hid hn
  have HN8 := Lib.hid hn8
  have n2 : 2 ≤ n := by omega
  have n8 : n ≤ 8 := by omega
  clear hn hn8
  go_enter Try.func8, Try.ntmps8
  go_wp2_with (go_at_call 16; refine (rcapy _ _ x0 x1).mono ?_; rintro e wn ⟨rfl, rfl⟩; rw [HN.out])
  refine (rnewz n _ HN8.out).mono ?_
  rintro e w1 ⟨r, s, rfl, hr, hs, h1, b1⟩
  have H1 := Lib.hid h1
  have B1 := Lib.hid b1
  have hz1 := b1.size
  clear h1 b1
  go_wp2_with (go_at_call 16; refine (rcapy _ _ x0 x1).mono ?_; rintro e wn ⟨rfl, rfl⟩; rw [HN.out])
  refine (xnew n _ (by omega) (by omega)).mono ?_
  rintro e w2 ⟨q, b, d, cb, cd, rfl, hq, hb, hd, h2, b2⟩
  have H2 := Lib.hid h2
  have B2 := Lib.hid b2
  have hz2 := b2.size
  clear h2 b2
  go_wp2
  go_ret
  have h1 := (H1.out.below B2.out H1.out.lts.1 H1.out.lts.2)
  have h2 : XAt w2 q b d n cb cd (rg0 n) := H2.out.congr rfl rfl (fun i hi => if_pos hi) (fun i hi => rfl)
  refine ⟨⟨w2.heap.size, r, s, q, b, d, cb, cd, fun _ => 0, fun _ => 0⟩, rfl, ⟨⟨_, Blk.made _ _ _, rfl, rfl, fun j hj => ?_⟩, h1.alloc_ _, h2.alloc_ _, fun j c hj hc => (by cases hc), fun i j hi hj hn hc => absurd rfl hc, fun k hk => ?_⟩, (B1.out.trans (B2.out.mono hz1)).alloc (by omega) _⟩
  · match j, hj with
    | 0, _ | 1, _ | 2, _ | 3, _ | 4, _ | 5, _ => exact ⟨rfl, rfl⟩
  · rcases hk with e | e | e | e | e | e | ⟨i, hi, hx, e⟩
    · subst e; show w.heap.size ≤ w2.heap.size; omega
    · subst e; exact hr
    · subst e; exact hs
    · subst e; exact Nat.le_trans hz1 hq
    · subst e; exact Nat.le_trans hz1 hb
    · subst e; exact Nat.le_trans hz1 hd
    · exact absurd rfl hx
end Go.Proofs.Ytbenpnecjmpcbaa
