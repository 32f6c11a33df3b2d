/- The document's slab in memory: which cell a handle means. -/
import Derived.Test.YtjhcppiamkkdbaaSlo
import Derived.Test.YtjhcppiamkkdbaaSlabd
namespace Go.Proofs.Ytjhcppiamkkdbaa
open Go.RowKit
set_option linter.unusedVariables false
set_option linter.unusedSimpArgs false
/-- The document's slab behind q: n cells, their requests, taken or not, turns; the free ones. -/
structure RsB (w : World) (q g1 g2 g3 g4 o4 n c1 c2 c3 c4 : Nat) (Q : Nat → Rq) (T : Nat → Bool) (U : Nat → Int) (l : List Nat) : Prop where
  head : Blk w q 51 #[.slice (some ⟨g1, 0, none⟩) n c1, .slice (some ⟨g2, 0, none⟩) n c2, .slice (some ⟨g3, 0, none⟩) n c3, .slice (some ⟨g4, o4, none⟩) l.length c4]
  r1 : ∃ cs, Blk w g1 42 cs ∧ ∀ i, i < n → ∀ k, k < 5 → cs[i * 5 + k]? = (reqRow (Q i))[k]?
  r2 : ∃ cs, Blk w g2 4 cs ∧ ∀ i, i < n → cs[i]? = some (.bool (T i))
  r3 : ∃ cs, Blk w g3 31 cs ∧ ∀ i, i < n → cs[i]? = some (.int .u64 (U i))
  r4 : ∃ cs, Blk w g4 3 cs ∧ ∀ j (h : j < l.length), cs[o4 + j]? = some (.int .i64 ((l[j] : Nat) : Int))
  lc : l.length ≤ c4 ∧ c4 ≤ maxLen
section
variable {w w' : World} {q g1 g2 g3 g4 o4 n c1 c2 c3 c4 : Nat} {Q : Nat → Rq} {T : Nat → Bool} {U : Nat → Int} {l : List Nat}
theorem RsB.p0 (h : RsB w q g1 g2 g3 g4 o4 n c1 c2 c3 c4 Q T U l) : w.cell? ⟨q, 0, none⟩ = some (.slice (some ⟨g1, 0, none⟩) n c1) := h.head.val (i := 0) rfl
theorem RsB.p1 (h : RsB w q g1 g2 g3 g4 o4 n c1 c2 c3 c4 Q T U l) : w.cell? ⟨q, 1, none⟩ = some (.slice (some ⟨g2, 0, none⟩) n c2) := h.head.val (i := 1) rfl
theorem RsB.p2 (h : RsB w q g1 g2 g3 g4 o4 n c1 c2 c3 c4 Q T U l) : w.cell? ⟨q, 2, none⟩ = some (.slice (some ⟨g3, 0, none⟩) n c3) := h.head.val (i := 2) rfl
theorem RsB.p3 (h : RsB w q g1 g2 g3 g4 o4 n c1 c2 c3 c4 Q T U l) : w.cell? ⟨q, 3, none⟩ = some (.slice (some ⟨g4, o4, none⟩) l.length c4) := h.head.val (i := 3) rfl
theorem RsB.t0 (h : RsB w q g1 g2 g3 g4 o4 n c1 c2 c3 c4 Q T U l) {i : Nat} (hi : i < n) : w.cell? ⟨g2, i, none⟩ = some (.bool (T i)) := by obtain ⟨cs, bc, cc⟩ := h.r2; exact bc.val (cc i hi)
theorem RsB.u0 (h : RsB w q g1 g2 g3 g4 o4 n c1 c2 c3 c4 Q T U l) {i : Nat} (hi : i < n) : w.cell? ⟨g3, i, none⟩ = some (.int .u64 (U i)) := by obtain ⟨cs, bc, cc⟩ := h.r3; exact bc.val (cc i hi)
theorem RsB.f0 (h : RsB w q g1 g2 g3 g4 o4 n c1 c2 c3 c4 Q T U l) {j : Nat} (hj : j < l.length) : w.cell? ⟨g4, o4 + j, none⟩ = some (.int .i64 ((l[j] : Nat) : Int)) := by obtain ⟨cs, bc, cc⟩ := h.r4; exact bc.val (cc j hj)
theorem RsB.kept {own : Nat → Prop} (h : RsB w q g1 g2 g3 g4 o4 n c1 c2 c3 c4 Q T U l) (hk : Kept own w w') (oq : ¬ own q) (o1 : ¬ own g1) (o2 : ¬ own g2) (o3 : ¬ own g3) (o4' : ¬ own g4) : RsB w' q g1 g2 g3 g4 o4 n c1 c2 c3 c4 Q T U l := by
  obtain ⟨hd, ⟨a1, b1, d1⟩, ⟨a2, b2, d2⟩, ⟨a3, b3, d3⟩, ⟨a4, b4, d4⟩, e⟩ := h
  exact ⟨hd.kept hk oq, ⟨a1, b1.kept hk o1, d1⟩, ⟨a2, b2.kept hk o2, d2⟩, ⟨a3, b3.kept hk o3, d3⟩, ⟨a4, b4.kept hk o4', d4⟩, e⟩
theorem RsB.below (h : RsB w q g1 g2 g3 g4 o4 n c1 c2 c3 c4 Q T U l) (hb : Below w.heap.size w w') : RsB w' q g1 g2 g3 g4 o4 n c1 c2 c3 c4 Q T U l := h.kept (own := fun _ => False) (Kept.of_below hb) id id id id id
/-- The cell of a handle; below 0: it is stale. -/
def atE (n : Nat) (T : Nat → Bool) (U : Nat → Int) (h : Int) : Int := if (h % 4294967296).toNat < n ∧ T (h % 4294967296).toNat = true ∧ U (h % 4294967296).toNat = h / 4294967296 then h % 4294967296 else -1
set_option maxHeartbeats 1000000 in
theorem rat_any (h : Int) (w : World) (hs : RsB w q g1 g2 g3 g4 o4 n c1 c2 c3 c4 Q T U l) (h0 : 0 ≤ h) (h1 : h ≤ 18446744073709551615) (hn : n ≤ 1024) :
    Calls Try.prog 12 #[.pointer (some ⟨q, 0, none⟩), .int .u64 h] w fun e w' => e = .returned (.int .i64 (atE n T U h)) ∧ w = w' := by
  obtain ⟨i, hi⟩ : ∃ i : Nat, h % 4294967296 = (i : Int) := ⟨(h % 4294967296).toNat, by omega⟩
  have hi' : h.tmod 4294967296 = (i : Int) := by rw [Int.tmod_eq_emod_of_nonneg h0]; exact hi
  obtain ⟨u, hu⟩ : ∃ u : Int, h / 4294967296 = u := ⟨_, rfl⟩
  have hu' : h.tdiv 4294967296 = u := by rw [Int.tdiv_eq_ediv_of_nonneg h0]; exact hu
  have hat : atE n T U h = if i < n ∧ T i = true ∧ U i = u then (i : Int) else -1 := by unfold atE; rw [hi, hu, Int.toNat_natCast]
  rw [hat]
  clear hat
  have p0 := hs.p0
  have p1 := hs.p1
  have p2 := hs.p2
  have wn : IntKind.u64.wrap (n : Int) = (n : Int) := IntWalk.u64_in _ (by omega)
  have wi : IntKind.i64.wrap (i : Int) = (i : Int) := IntWalk.i64_in _ (by omega)
  have bi : i < 4294967296 := by omega
  by_cases c : i < n
  · have t0 := hs.t0 c
    have u0 := hs.u0 c
    have ci : (i : Int) < (n : Int) := by omega
    have ci0 : (0 : Int) ≤ (i : Int) := by omega
    have dc : decide ((i : Int) < (n : Int)) = true := by simp; omega
    clear hs
    cases hT : T i with
    | false =>
      rw [hT] at t0
      rw [if_neg (fun k => Bool.noConfusion k.2.1)]
      clear hT
      go_enter Try.func12, Try.ntmps12
      go_wp2_with fail
      go_ret
      exact ⟨rfl, rfl⟩
    | true =>
      rw [hT] at t0
      by_cases d : U i = u
      · have du : decide (U i = u) = true := by simp; exact d
        rw [if_pos ⟨c, rfl, d⟩]
        rw [d] at u0
        clear du d hT
        go_enter Try.func12, Try.ntmps12
        go_wp2_with fail
        go_ret
        exact ⟨rfl, rfl⟩
      · rw [if_neg (fun k => d k.2.2)]
        obtain ⟨z, hz⟩ : ∃ z, U i = z := ⟨_, rfl⟩
        rw [hz] at u0 d
        clear hz hT
        go_enter Try.func12, Try.ntmps12
        go_wp2_with fail
        go_ret
        exact ⟨rfl, rfl⟩
  · rw [if_neg (fun k => c k.1)]
    have dc : decide ((i : Int) < (n : Int)) = false := by simp; omega
    have ci : ¬ (i : Int) < (n : Int) := by omega
    clear hs
    go_enter Try.func12, Try.ntmps12
    go_wp2_with fail
    go_ret
    exact ⟨rfl, rfl⟩
theorem RsB.apart (h : RsB w q g1 g2 g3 g4 o4 n c1 c2 c3 c4 Q T U l) : q ≠ g1 ∧ q ≠ g2 ∧ q ≠ g3 ∧ q ≠ g4 ∧ g1 ≠ g2 ∧ g1 ≠ g3 ∧ g1 ≠ g4 ∧ g2 ≠ g3 ∧ g2 ≠ g4 ∧ g3 ≠ g4 := by
  obtain ⟨hd, ⟨a1, b1, d1⟩, ⟨a2, b2, d2⟩, ⟨a3, b3, d3⟩, ⟨a4, b4, d4⟩, e⟩ := h
  exact ⟨hd.other b1 (by decide), hd.other b2 (by decide), hd.other b3 (by decide), hd.other b4 (by decide), b1.other b2 (by decide), b1.other b3 (by decide), b1.other b4 (by decide), b2.other b3 (by decide), b2.other b4 (by decide), b3.other b4 (by decide)⟩
theorem RsB.setT (h : RsB w q g1 g2 g3 g4 o4 n c1 c2 c3 c4 Q T U l) {i : Nat} (hi : i < n) (v : Bool) : RsB (w.setCell ⟨g2, i, none⟩ (.bool v)) q g1 g2 g3 g4 o4 n c1 c2 c3 c4 Q (fun j => if j = i then v else T j) U l := by
  obtain ⟨x1, x2, x3, x4, x5, x6, x7, x8, x9, x10⟩ := h.apart
  obtain ⟨hd, ⟨a1, b1, d1⟩, ⟨a2, b2, d2⟩, ⟨a3, b3, d3⟩, ⟨a4, b4, d4⟩, e⟩ := h
  refine ⟨hd.far _ x2, ⟨a1, b1.far _ x5, d1⟩, ⟨_, b2.set_ _ _, fun j hj => ?_⟩, ⟨a3, b3.far _ (Ne.symm x8), d3⟩, ⟨a4, b4.far _ (Ne.symm x9), d4⟩, e⟩
  by_cases c : j = i
  · subst c
    have := d2 j hj
    rw [if_pos rfl]
    exact get_set_same (by
      rcases Nat.lt_or_ge j a2.size with k | k
      · exact k
      · rw [Array.getElem?_eq_none k] at this; cases this) _
  · rw [if_neg c, get_set_far (Ne.symm c)]; exact d2 j hj
theorem RsB.setU (h : RsB w q g1 g2 g3 g4 o4 n c1 c2 c3 c4 Q T U l) {i : Nat} (hi : i < n) (v : Int) : RsB (w.setCell ⟨g3, i, none⟩ (.int .u64 v)) q g1 g2 g3 g4 o4 n c1 c2 c3 c4 Q T (fun j => if j = i then v else U j) l := by
  obtain ⟨x1, x2, x3, x4, x5, x6, x7, x8, x9, x10⟩ := h.apart
  obtain ⟨hd, ⟨a1, b1, d1⟩, ⟨a2, b2, d2⟩, ⟨a3, b3, d3⟩, ⟨a4, b4, d4⟩, e⟩ := h
  refine ⟨hd.far _ x3, ⟨a1, b1.far _ x6, d1⟩, ⟨a2, b2.far _ x8, d2⟩, ⟨_, b3.set_ _ _, fun j hj => ?_⟩, ⟨a4, b4.far _ (Ne.symm x10), d4⟩, e⟩
  by_cases c : j = i
  · subst c
    have := d3 j hj
    rw [if_pos rfl]
    exact get_set_same (by
      rcases Nat.lt_or_ge j a3.size with k | k
      · exact k
      · rw [Array.getElem?_eq_none k] at this; cases this) _
  · rw [if_neg c, get_set_far (Ne.symm c)]; exact d3 j hj
/-- The free ones begin one further on. -/
theorem RsB.pop {i : Nat} {c5 : Nat} (h : RsB w q g1 g2 g3 g4 o4 n c1 c2 c3 c4 Q T U (i :: l)) (hc : l.length ≤ c5) (hc2 : c5 ≤ maxLen) (o5 : Nat) (ho : l ≠ [] → o5 = o4 + 1) : RsB (w.setCell ⟨q, 3, none⟩ (.slice (some ⟨g4, o5, none⟩) l.length c5)) q g1 g2 g3 g4 o5 n c1 c2 c3 c5 Q T U l := by
  obtain ⟨x1, x2, x3, x4, x5, x6, x7, x8, x9, x10⟩ := h.apart
  obtain ⟨hd, ⟨a1, b1, d1⟩, ⟨a2, b2, d2⟩, ⟨a3, b3, d3⟩, ⟨a4, b4, d4⟩, e⟩ := h
  refine ⟨hd.set_ 3 _, ⟨a1, b1.far _ (Ne.symm x1), d1⟩, ⟨a2, b2.far _ (Ne.symm x2), d2⟩, ⟨a3, b3.far _ (Ne.symm x3), d3⟩, ⟨a4, b4.far _ (Ne.symm x4), fun j hj => ?_⟩, hc, hc2⟩
  have hl : l ≠ [] := fun c => by subst c; simp at hj
  rw [ho hl]
  have := d4 (j + 1) (by simp; omega)
  rw [List.getElem_cons_succ] at this
  rw [← this]; congr 1; omega
end
end Go.Proofs.Ytjhcppiamkkdbaa
