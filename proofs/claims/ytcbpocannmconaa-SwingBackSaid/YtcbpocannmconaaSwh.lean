/- Package swing: rows of points that are our own; joined, begun elsewhere, gone through from behind. -/
import Derived.Test.YtcbpocannmconaaSwg
namespace Go.Proofs.Ytcbpocannmconaa
open Go.RowKit
set_option linter.unusedVariables false
set_option linter.unusedSimpArgs false
/-- A row of points of our own. -/
def OwP (w : World) (base : Nat) (v : Value) (n : Nat) (a b : Nat → Int) : Prop :=
  ∃ xs, w.ownsRow base 28 1 v n xs ∧ ∀ i, i < n → ∃ x y, xs[i]? = some (.complex .f64 x y) ∧ Fl x (a i) ∧ Fl y (b i) ∧ (a i).natAbs ≤ 1048576 ∧ (b i).natAbs ≤ 1048576
theorem OwP.of {w : World} {base n : Nat} {v : Value} {U L : Nat → Int} (h : w.ownsRow base 28 1 v n (ptsL U L n)) : OwP w base v n (fun i => clampZ (U i)) (fun i => clampZ (L i)) :=
  ⟨_, h, fun i hi => ⟨wd (U i), wd (L i), ptsL_get U L i n hi, wd_fl _, wd_fl _, clampZ_abs _, clampZ_abs _⟩⟩
theorem OwP.below {w w' : World} {base n : Nat} {v : Value} {a b : Nat → Int} (h : OwP w base v n a b) (hb : Below w.heap.size w w') : OwP w' base v n a b := by
  obtain ⟨xs, ho, hx⟩ := h
  exact ⟨xs, own_kept ho (Kept.of_below (own := fun _ => False) hb) (fun _ _ _ h => h), hx⟩
theorem OwP.kept {w w' : World} {base n : Nat} {v : Value} {a b : Nat → Int} {row : Option Nat} (h : OwP w base v n a b) (hg : w.grownBy w' row) (hne : v.ownBlock = none ∨ v.ownBlock ≠ row) : OwP w' base v n a b := by
  obtain ⟨xs, ho, hx⟩ := h
  exact ⟨xs, ho.kept hg hne, hx⟩
theorem OwP.alloc {w : World} {base n : Nat} {v : Value} {a b : Nat → Int} (h : OwP w base v n a b) (o : Obj) : OwP (w.alloc o) base v n a b := by
  obtain ⟨xs, ho, hx⟩ := h
  exact ⟨xs, ho.alloc o, hx⟩
theorem OwP.form {w : World} {base n : Nat} {v : Value} {a b : Nat → Int} (h : OwP w base v n a b) : ∃ A c, v = .slice A n c ∧ Pts w w.heap.size A n a b ∧ (A = none ∧ n = 0 ∧ c = 0 ∨ ∃ g, base ≤ g ∧ g < w.heap.size ∧ A = some ⟨g, 0, none⟩) := by
  obtain ⟨xs, ho, hx⟩ := h
  rcases ho.2 with ⟨rfl, rfl⟩ | ⟨g, cap, cur, rfl, hb, hg, _⟩
  · exact ⟨none, 0, rfl, fun c => absurd c (by omega), .inl ⟨rfl, rfl, rfl⟩⟩
  · have hs : g < w.heap.size := Blk.size (cs := cur) hg
    refine ⟨_, cap, rfl, fun h0 => ?_, .inr ⟨g, hb, hs, rfl⟩⟩
    refine ⟨g, 0, fun i => if h : i < n then (hx i h).choose else 0, fun i => if h : i < n then (hx i h).choose_spec.choose else 0, rfl, hs, fun i hi => ?_⟩
    have k := (hx i hi).choose_spec.choose_spec
    simp only [hi, dif_pos]
    refine ⟨?_, k.2⟩
    rw [Nat.zero_add, ho.cellAt i (by omega)]
    exact k.1
/-- Two functions, one behind the other. -/
def jn (n : Nat) (a a' : Nat → Int) (i : Nat) : Int := if i < n then a i else a' (i - n)
theorem run_app {w : World} {base n m c B : Nat} {v : Value} {A : Option Addr} {a b a' b' : Nat → Int} (h : OwP w base v n a b) (hp : Pts w B A m a' b') (hA : A = none ∧ m = 0 ∧ c = 0 ∨ ∃ ad, A = some ad) (hm : n + m ≤ 100000) (hb : base ≤ w.heap.size) (ty : TypeId) :
    ∃ v' w', (Builtin.append_ #[24, 24] ty #[v, .slice A m c]).run Try.prog w = .ok v' w' ∧ OwP w' base v' (n + m) (jn n a a') (jn n b b') ∧ w.grownBy w' v.ownBlock := by
  obtain ⟨xs, ho, hx⟩ := h
  obtain ⟨i0, hi0, hz0, hz1, hz2⟩ := info_of cinfo
  have hxl := ho.1
  rw [Nat.mul_one] at hxl
  rcases hA with ⟨rfl, rfl, rfl⟩ | ⟨ad, rfl⟩
  · refine ⟨v, w, run_append_owned_none w base 24 ty 28 i0 1 Try.underlying24 hi0 v n xs ho, ⟨xs, ho, fun i hi => ?_⟩, ⟨rfl, rfl, rfl, Nat.le_refl _, fun _ _ _ => rfl⟩⟩
    obtain ⟨x, y, h1⟩ := hx i hi
    exact ⟨x, y, by simpa [jn, show i < n from hi] using h1⟩
  · by_cases h0 : 0 < m
    · obtain ⟨kb, ko, X, Y, e, hk, hc⟩ := hp h0
      injection e with e
      subst e
      obtain ⟨v', w', hr, h1, h2, h3⟩ := run_append_own (P := Try.prog) w base 24 ty 28 i0 (.complex .f64 0 0) 1 16 Try.underlying24 hi0 hz0 hz1 hz2 rfl (by decide) v n xs ho ⟨kb, ko, none⟩ m c ((List.range m).map fun i => .complex .f64 (X i) (Y i)) (by simp)
        (fun j u hj => by
          by_cases hjm : j < m
          · rw [List.getElem?_map, List.getElem?_range hjm] at hj
            have hj' : Value.complex .f64 (X j) (Y j) = u := by simpa using hj
            rw [← hj', ← (hc j hjm).1]
            unfold Addr.add
            simp only
            split
            · next e => rw [e]; rfl
            · rfl
          · rw [List.getElem?_eq_none (by simp; omega)] at hj; cases hj)
        (fun u hu => by obtain ⟨i, _, rfl⟩ := List.mem_map.1 hu; rfl) (by unfold maxLen; omega) (by omega) hb
      refine ⟨v', w', hr, ⟨_, h1, fun i hi => ?_⟩, h2⟩
      by_cases hin : i < n
      · obtain ⟨x, y, k⟩ := hx i hin
        refine ⟨x, y, ?_⟩
        rw [List.getElem?_append_left (by omega)]
        simpa [jn, hin] using k
      · refine ⟨X (i - n), Y (i - n), ?_, ?_⟩
        · rw [List.getElem?_append_right (by omega), hxl]
          simp [show i - n < m by omega]
        · simpa [jn, hin] using (hc (i - n) (by omega)).2
    · obtain rfl : m = 0 := by omega
      obtain ⟨v', w', hr, h1, h2, h3⟩ := run_append_own (P := Try.prog) w base 24 ty 28 i0 (.complex .f64 0 0) 1 16 Try.underlying24 hi0 hz0 hz1 hz2 rfl (by decide) v n xs ho ad 0 c [] (by simp) (fun j u hj => by simp at hj) (fun u hu => by simp at hu) (by unfold maxLen; omega) (by omega) hb
      refine ⟨v', w', hr, ⟨_, h1, fun i hi => ?_⟩, h2⟩
      obtain ⟨x, y, k⟩ := hx i hi
      exact ⟨x, y, by rw [List.append_nil]; simpa [jn, show i < n from hi] using k⟩
theorem wpList_app {w : World} {ops : Array Oper} {rest : List Oper} {o : Oper} {ac : Act} {Q : Exit → Act → World → Prop} (hgd : o.guard = none) (s x : Operand)
    (ho : o.op = .call { callee := .builtin .append, args := #[s, x], argTypes := #[24, 24] })
    {base n m c B : Nat} {v : Value} {A : Option Addr} {a b a' b' : Nat → Int} (hs : ac.eval s = v) (hx : ac.eval x = .slice A m c) (hown : OwP w base v n a b) (hp : Pts w B A m a' b') (hA : A = none ∧ m = 0 ∧ c = 0 ∨ ∃ ad, A = some ad) (hm : n + m ≤ 100000) (hb : base ≤ w.heap.size)
    (h : ∀ v' w', OwP w' base v' (n + m) (jn n a a') (jn n b b') → w.grownBy w' v.ownBlock → wpList Try.prog ops Q rest (ac.put o.dst v') w') : wpList Try.prog ops Q (o :: rest) ac w := by
  refine wpList_plain hgd fun K hK => ?_
  obtain ⟨v', w', hr, h2, h3⟩ := run_app hown hp hA hm hb o.type
  unfold Oper.wp execOp
  simp only [ho, resolve, invoke, builtin, Sem.run_bind, Sem.run_pure, Result.andThen_ok, List.map_toArray, List.map_cons, List.map_nil, hs, hx, hr]
  exact hK _ _ (h v' w' h2 h3)
end Go.Proofs.Ytcbpocannmconaa
