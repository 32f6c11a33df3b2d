/- A set of numbers in a map of the call's own. -/
import Derived.Test.YtmnkmnnngfgbgaaBlk
import Derived.Test.YtmnkmnnngfgbgaaProg
import Derived.Maps.OwnSet
import Derived.Maps.OwnOps
import Derived.WalkKit
namespace Go.Proofs.Ytmnkmnnngfgbgaa
open Go.RowKit Go.Maps
set_option linter.unusedVariables false
theorem zeroB (w : World) : (zeroValue 4).run Try.prog w = .ok (.bool false) w := by
  obtain ⟨i0, h1, h2, h3, h4⟩ := info_parts (show (Try.prog.info? 4).map (fun i => (i.zero, i.size, i.bytes)) = some (some (.bool false), 1, 1) by kernel_rfl)
  simp [zeroValue, typeInfo, h1, h2]
theorem lawH : Keyed Try.prog 3 := int_keyed Try.underlying3
/-- Block b is a map in which the handles of L are, each once. -/
def MapAt (w : World) (b : Nat) (L : List Int) : Prop := ∃ D : DataW Unit, w.ownsMap Try.prog 3 (plainElem Try.prog 4) b L.length D ∧ (∀ h, D.atKey (.int .i64 h) (.lit (.bool false)) = .lit (.bool (decide (h ∈ L)))) ∧ (∀ h, Maps.has D (.int .i64 h) = decide (h ∈ L)) ∧ Maps.size D = L.length
theorem plainElem_bool_inv {H : Type} {P : Program} {e : TypeId} (he : P.underlying e = some .bool) {v : Value} {z : DataW H × List MemPlace} (h : plainElem P e v = some z) : ∃ b, v = .bool b ∧ z = (.lit (.bool b), []) := by
  unfold plainElem at h
  rw [he] at h
  cases v <;> simp at h
  exact ⟨_, rfl, h.symm⟩
section
variable {w w' : World} {b : Nat} {L : List Int}
theorem i64_wf {h : Int} (h0 : -9223372036854775808 ≤ h) (h1 : h ≤ 9223372036854775807) : (Lit.int .i64 h).wf = true := by
  have a : IntKind.i64.min = -9223372036854775808 := rfl
  have b : IntKind.i64.max = 9223372036854775807 := rfl
  simp only [Lit.wf, Bool.and_eq_true, decide_eq_true_eq]
  omega
theorem keyH {h : Int} (h0 : -9223372036854775808 ≤ h) (h1 : h ≤ 9223372036854775807) : keyOf Try.prog 3 (.int .i64 h) = some (.int .i64 h) := keyOf_int_mk Try.underlying3 (i64_wf h0 h1)
theorem MapAt.made (w : World) : MapAt (w.alloc (.map #[] 0)) w.heap.size [] := ⟨.map [], World.ownsMap_made _ _ _ _, fun h => by simp [DataW.atKey], fun h => by simp [Maps.has], rfl⟩
theorem MapAt.lt (h : MapAt w b L) : b < w.heap.size := by obtain ⟨D, h1, _⟩ := h; exact h1.lt
theorem MapAt.kept {own : Nat → Prop} (h : MapAt w b L) (hk : Kept own w w') (hb : ¬ own b) : MapAt w' b L := by
  obtain ⟨D, ⟨es, clock, h1, F, hs, hD⟩, h2⟩ := h
  have hlt : b < w.heap.size := (Array.getElem?_eq_some_iff.1 h1).1
  exact ⟨D, ⟨es, clock, (hk.block b hlt hb).trans h1, F, hs, hD⟩, h2⟩
theorem MapAt.below {B : Nat} (h : MapAt w b L) (hk : Below B w w') (hb : b < B) : MapAt w' b L := by
  obtain ⟨D, ⟨es, clock, h1, F, hs, hD⟩, h2⟩ := h
  exact ⟨D, ⟨es, clock, (hk.block b hb).trans h1, F, hs, hD⟩, h2⟩
theorem MapAt.noBlk (h : MapAt w b L) {t : TypeId} {cs : Array Value} (hb : Blk w b t cs) : False := by
  obtain ⟨D, ⟨es, clock, h1, F, hs, hD⟩, h2⟩ := h
  unfold Blk at hb
  rw [h1] at hb
  cases hb
theorem MapAt.grown {base size n : Nat} {e : TypeId} {v : Value} {xs : List Value} (h : MapAt w b L) (hg : w.grownBy w' v.ownBlock) (ho : w.ownsRow base e size v n xs) : MapAt w' b L := by
  obtain ⟨D, h1, h2⟩ := id h
  refine ⟨D, h1.kept hg (fun hc => ?_), h2⟩
  rcases ho.2 with ⟨rfl, _⟩ | ⟨g', cap, cur, rfl, _, hh, _⟩
  · simp [Value.ownBlock] at hc
  · have : b = g' := by simpa [Value.ownBlock] using hc
    subst this
    exact h.noBlk (cs := cur) hh
theorem MapAt.look (h : MapAt w b L) {k : Int} (h0 : -9223372036854775808 ≤ k) (h1 : k ≤ 9223372036854775807) : (Instr.lookup 51 (.map (some b)) (.int .i64 k) false).run Try.prog w = .ok (.bool (decide (k ∈ L))) w := by
  obtain ⟨D, h2, h3, h5, h4⟩ := h
  obtain ⟨v, ps, hrun, hv⟩ := h2.lookup lawH Try.underlying51 (zeroB w) (plainElem_bool Try.underlying4 false) (keyH h0 h1)
  obtain ⟨c, rfl, hc⟩ := plainElem_bool_inv Try.underlying4 hv
  rw [h3] at hc
  simp only [Prod.mk.injEq, DataW.lit.injEq, Lit.bool.injEq] at hc
  rw [hrun, hc.1]
theorem MapAt.len (h : MapAt w b L) (ty : TypeId) : (Builtin.len_ #[51] ty #[.map (some b)]).run Try.prog w = .ok (.int .i64 (L.length : Int)) w := by
  obtain ⟨D, h2, h3, h5, h4⟩ := h
  rw [h2.len Try.underlying51 ty, h4]
theorem MapAt.drewN (h : MapAt w b L) (k : Nat) : MapAt (w.drewN k) b L := h.kept (own := fun _ => False) ((Kept.refl _ _).drewN_ k) id
theorem MapAt.alloc (h : MapAt w b L) (o : Obj) : MapAt (w.alloc o) b L := h.kept (own := fun _ => False) ((Kept.refl _ _).alloc_ o) id
theorem MapAt.lenN (h : MapAt w b L) (k : Nat) : ∀ ty, (Builtin.len_ #[51] ty #[.map (some b)]).run Try.prog (w.drewN k) = .ok (.int .i64 (L.length : Int)) (w.drewN k) := fun ty => (h.drewN k).len ty
theorem put_fresh {D : DataW Unit} {k : Int} (hk : k ∉ L) (h2 : w.ownsMap Try.prog 3 (plainElem Try.prog 4) b L.length D) (h3 : ∀ h, D.atKey (.int .i64 h) (.lit (.bool false)) = .lit (.bool (decide (h ∈ L)))) (h5 : ∀ h, Maps.has D (.int .i64 h) = decide (h ∈ L)) (h4 : Maps.size D = L.length)
    (h6 : w'.ownsMap Try.prog 3 (plainElem Try.prog 4) b (L.length + 1) (D.put (.int .i64 k) (.lit (.bool true)))) : MapAt w' b (k :: L) := by
  have hT := h2.tidy lawH
  refine ⟨_, h6, fun h => ?_, fun h => ?_, ?_⟩
  · by_cases e : h = k
    · subst e; rw [atKey_put_same hT.isMap (by trivial)]; simp
    · rw [atKey_put_other (by simpa using e), h3]; simp [e]
  · by_cases e : h = k
    · subst e; rw [has_put_same hT.isMap (by trivial)]; simp
    · rw [has_put_other (by simpa using e), h5]; simp [e]
  · rw [size_put hT, h5, h4]; simp [hk]
/-- A handle that isn't there yet is laid in. -/
theorem wpList_put {ops : Array Oper} {rest : List Oper} {o : Oper} {a : Act} {Q : Exit → Act → World → Prop} (hg : o.guard = none) (m x v : Operand) (hop : o.op = Op.mapUpdate 51 m x v) (h : MapAt w b L) (hL : L.length ≤ 4096) {k : Int} (hk : k ∉ L) (h0 : -9223372036854775808 ≤ k) (h1 : k ≤ 9223372036854775807)
    (hm : a.eval m = .map (some b)) (hx : a.eval x = .int .i64 k) (hv : a.eval v = .bool true) (hK : ∀ w', MapAt w' b (k :: L) → w.grownBy w' (some b) → wpList Try.prog ops Q rest (a.put o.dst undef) w') : wpList Try.prog ops Q (o :: rest) a w := by
  obtain ⟨D, h2, h3, h5, h4⟩ := h
  exact wpList_mapUpdate_own w hg m x v _ hop _ _ lawH Try.underlying51 _ b _ D hm h2 (by unfold maxLen; omega) _ _ _ hx hv (keyH h0 h1) _ [] (plainElem_bool Try.underlying4 true) fun w' h6 hgr => hK w' (put_fresh hk h2 h3 h5 h4 h6) hgr
/-- The first number is laid in, where the map is written out. -/
theorem wpList_ins {ops : Array Oper} {rest : List Oper} {o : Oper} {a : Act} {Q : Exit → Act → World → Prop} (hg : o.guard = none) (m x v : Operand) (hop : o.op = Op.insert 51 m x v) (h : MapAt w b L) (hL : L.length ≤ 4096) {k : Int} (hk : k ∉ L) (h0 : -9223372036854775808 ≤ k) (h1 : k ≤ 9223372036854775807)
    (hm : a.eval m = .map (some b)) (hx : a.eval x = .int .i64 k) (hv : a.eval v = .bool true) (hK : ∀ w', MapAt w' b (k :: L) → w.grownBy w' (some b) → wpList Try.prog ops Q rest (a.put o.dst undef) w') : wpList Try.prog ops Q (o :: rest) a w := by
  obtain ⟨D, h2, h3, h5, h4⟩ := h
  refine wpList_plain hg fun K' hK' => ?_
  obtain ⟨w', hrun, r1, r2⟩ := h2.update lawH Try.underlying51 (by unfold maxLen; omega) (keyH h0 h1) (plainElem_bool Try.underlying4 true)
  unfold Oper.wp
  simp [execOp, hop, hm, hx, hv, hrun, Result.andThen]
  exact hK' _ _ (hK w' (put_fresh hk h2 h3 h5 h4 r1) r2)
end
end Go.Proofs.Ytmnkmnnngfgbgaa
