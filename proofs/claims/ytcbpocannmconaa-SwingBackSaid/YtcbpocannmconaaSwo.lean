/- Rows that are our own: a store elsewhere; an append as one operation; a row's part. -/
import Derived.Test.YtcbpocannmconaaSwn
namespace Go.Proofs.Ytcbpocannmconaa
open Go.RowKit
set_option linter.unusedVariables false
set_option linter.unusedSimpArgs false
theorem OwI.far {w : World} {base n : Nat} {v : Value} {K : Nat → Int} (h : OwI w base v n K) {p : Addr} (hp : p.block < base) (u : Value) : OwI (w.setCell p u) base v n K := by
  refine ⟨h.1, ?_⟩
  rcases h.2 with h0 | ⟨g, cap, cur, hv, hb, hg, h1, h2, h3, h4⟩
  · exact .inl h0
  · exact .inr ⟨g, cap, cur, hv, hb, Blk.far (cs := cur) hg u (by omega), h1, h2, h3, h4⟩
theorem OwI.other_ {w : World} {base n c : Nat} {A : Option Addr} {K : Nat → Int} {p : Addr} (h : OwI w base (.slice A n c) n K) (hp : A ≠ some ⟨p.block, 0, none⟩) (u : Value) : OwI (w.setCell p u) base (.slice A n c) n K := by
  refine ⟨h.1, ?_⟩
  rcases h.2 with h0 | ⟨g, cap, cur, hv, hb, hg, h1, h2, h3, h4⟩
  · exact .inl h0
  · refine .inr ⟨g, cap, cur, hv, hb, Blk.far (cs := cur) hg u ?_, h1, h2, h3, h4⟩
    injection hv with hA
    exact fun e => hp (by rw [hA, e])
theorem own_lt {w : World} {b s n : Nat} {e : TypeId} {v : Value} {xs : List Value} (h : w.ownsRow b e s v n xs) {g : Nat} (hg : v.ownBlock = some g) : g < w.heap.size := by
  rcases h.2 with ⟨rfl, _⟩ | ⟨g', cap, cur, rfl, hb, hh, _⟩
  · simp [Value.ownBlock] at hg
  · have : g' = g := by simpa [Value.ownBlock] using hg
    subst this
    exact Blk.size (cs := cur) hh
theorem wp_app {w : World} {o : Oper} {ac : Act} {K : Act → World → Prop} {Q : Exit → Act → World → Prop} (s x : Operand)
    (ho : o.op = .call { callee := .builtin .append, args := #[s, x], argTypes := #[24, 24] })
    {base n m c B : Nat} {v : Value} {A : Option Addr} {a b a' b' : Nat → Int} (hs : ac.eval s = v) (hx : ac.eval x = .slice A m c) (hown : OwP w base v n a b) (hp : Pts w B A m a' b') (hA : A = none ∧ m = 0 ∧ c = 0 ∨ ∃ ad, A = some ad) (hm : n + m ≤ 100000) (hb : base ≤ w.heap.size)
    (h : ∀ v' w', OwP w' base v' (n + m) (jn n a a') (jn n b b') → w.grownBy w' v.ownBlock → K (ac.put o.dst v') w') : o.wp Try.prog ac w K Q := by
  obtain ⟨v', w', hr, h2, h3⟩ := run_app hown hp hA hm hb o.type
  unfold Oper.wp execOp
  simp only [ho, resolve, invoke, builtin, Sem.run_bind, Sem.run_pure, Result.andThen_ok, List.map_toArray, List.map_cons, List.map_nil, hs, hx, hr]
  exact h v' w' h2 h3
theorem Pts.one {w : World} {x y : Nat} {a b : Int} (hx : Fl x a) (hy : Fl y b) (ha : a.natAbs ≤ 1048576) (hb : b.natAbs ≤ 1048576) : Pts (w.alloc (.cells #[.complex .f64 x y] 28)) (w.heap.size + 1) (some ⟨w.heap.size, 0, none⟩) 1 (fun _ => a) (fun _ => b) :=
  fun _ => ⟨w.heap.size, 0, fun _ => x, fun _ => y, rfl, Nat.lt_succ_self _, fun i hi => ⟨by
    obtain rfl : i = 0 := by omega
    exact (Blk.made w 28 #[.complex .f64 x y]).val rfl, hx, hy, ha, hb⟩⟩
/-- A row's end. -/
theorem Pts.drop_ {w : World} {B g n k : Nat} {a b : Nat → Int} (h : Pts w B (some ⟨g, 0, none⟩) n a b) (hk : k ≤ n) : Pts w B (some ⟨g, k, none⟩) (n - k) (fun i => a (k + i)) (fun i => b (k + i)) := fun h0 => by
  obtain ⟨kb, ko, X, Y, e, hb, hc⟩ := h (by omega)
  cases e
  exact ⟨g, k, fun i => X (k + i), fun i => Y (k + i), rfl, hb, fun i hi => by have := hc (k + i) (by omega); rw [Nat.zero_add] at this; exact this⟩
theorem Pts.take_ {w : World} {B n k : Nat} {A : Option Addr} {a b : Nat → Int} (h : Pts w B A n a b) (hk : k ≤ n) : Pts w B A k a b := fun h0 => by
  obtain ⟨kb, ko, X, Y, e, hb, hc⟩ := h (by omega)
  exact ⟨kb, ko, X, Y, e, hb, fun i hi => hc i (by omega)⟩
theorem Pts.congr_ {w : World} {B n : Nat} {A : Option Addr} {a b a' b' : Nat → Int} (h : Pts w B A n a b) (hc : ∀ i, i < n → a i = a' i ∧ b i = b' i) : Pts w B A n a' b' := fun h0 => by
  obtain ⟨kb, ko, X, Y, e, hb, hd⟩ := h h0
  refine ⟨kb, ko, X, Y, e, hb, fun i hi => ?_⟩
  obtain ⟨h1, h2, h3, h4, h5⟩ := hd i hi
  obtain ⟨c1, c2⟩ := hc i hi
  exact ⟨h1, c1 ▸ h2, c2 ▸ h3, c1 ▸ h4, c2 ▸ h5⟩
theorem Pts.up {w w' : World} {B B' n : Nat} {A : Option Addr} {a b : Nat → Int} (h : Pts w B A n a b) (hb : Below B w w') (hB : B ≤ B') : Pts w' B' A n a b := fun h0 => by
  obtain ⟨kb, ko, X, Y, e, hk, hc⟩ := h.below hb h0
  exact ⟨kb, ko, X, Y, e, Nat.lt_of_lt_of_le hk hB, hc⟩
theorem OwP.cap {w : World} {base n c : Nat} {A : Option Addr} {a b : Nat → Int} (h : OwP w base (.slice A n c) n a b) : n ≤ c ∧ c ≤ maxLen := by
  obtain ⟨xs, ho, hx⟩ := h
  rcases ho.2 with ⟨e, rfl⟩ | ⟨g, cap, cur, e, hb, hg, h1, h2, _⟩
  · injection e with _ _ e; exact ⟨Nat.zero_le _, by rw [e]; decide⟩
  · injection e with _ _ e; subst e; exact ⟨h1, h2⟩
theorem OwP.one_ {w : World} {base x y : Nat} {a b : Int} (hb : base ≤ w.heap.size) (hx : Fl x a) (hy : Fl y b) (ha : a.natAbs ≤ 1048576) (hbb : b.natAbs ≤ 1048576) : OwP (w.alloc (.cells #[.complex .f64 x y] 28)) base (.slice (some ⟨w.heap.size, 0, none⟩) 1 1) 1 (fun _ => a) (fun _ => b) :=
  ⟨_, World.ownsRow_lit w #[.complex .f64 x y] 1 hb (by decide) rfl, fun i hi => by
    obtain rfl : i = 0 := by omega
    exact ⟨_, _, rfl, hx, hy, ha, hbb⟩⟩
end Go.Proofs.Ytcbpocannmconaa
