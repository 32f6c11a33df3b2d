/- Rows of picks of the law's own; a map of the pops that ended. -/
import Derived.Test.YtbenpnecjmpcbaaTlv
import Derived.Maps.OwnSet
import Derived.Maps.OwnOps
namespace Go.Proofs.Ytbenpnecjmpcbaa
open Go.RowKit Go.ChangeShapes Go.WideShapes Go.Deep Go.Maps
set_option linter.unusedVariables false
set_option linter.unusedSimpArgs false
instance : Inhabited Pk := ⟨⟨0, 0, 0⟩⟩
def flatK (L : List Pk) : List Value := L.flatMap pkRow
theorem flatK_len (L : List Pk) : (flatK L).length = L.length * 3 := by
  unfold flatK
  induction L with
  | nil => rfl
  | cons a l ih => rw [List.flatMap_cons, List.length_append, ih, List.length_cons, show (pkRow a).length = 3 from rfl]; omega
theorem flatK_get : ∀ (L : List Pk) (i j : Nat), i < L.length → j < 3 → (flatK L)[i * 3 + j]? = (pkRow L[i]!)[j]?
  | [], i, j, hi, _ => by simp at hi
  | a :: L, 0, j, _, hj => by
    unfold flatK
    rw [List.flatMap_cons, List.getElem?_append_left (by rw [show (pkRow a).length = 3 from rfl]; omega)]
    simp
  | a :: L, i + 1, j, hi, hj => by
    have h := flatK_get L i j (by simpa using hi) hj
    unfold flatK at h ⊢
    rw [List.flatMap_cons, List.getElem?_append_right (by rw [show (pkRow a).length = 3 from rfl]; omega)]
    rw [show (i + 1) * 3 + j - (pkRow a).length = i * 3 + j from by rw [show (pkRow a).length = 3 from rfl]; omega, h]
    simp
abbrev pkT : TypeId := 35
abbrev OwK (w : World) (base : Nat) (v : Value) (L : List Pk) : Prop := w.ownsRow base pkT 3 v L.length (flatK L)
section
variable {w w' : World} {base : Nat} {v : Value} {L : List Pk}
theorem OwK.nil_ (w : World) (base : Nat) : OwK w base (.slice none 0 0) [] := World.ownsRow_nil _ _ _ _
theorem OwK.rd (h : OwK w base v L) : ∃ A c, v = .slice A L.length c ∧ (L.length ≤ c ∧ c ≤ maxLen) ∧ SeqAt w w.heap.size A L.length 3 (fun i => pkRow L[i]!) ∧ (v.ownBlock = none ∨ ∃ g, v.ownBlock = some g ∧ base ≤ g ∧ ∃ cs, Blk w g pkT cs) := by
  rcases h.2 with ⟨rfl, h0⟩ | ⟨g, cap, cur, rfl, hb, hg, h1, h2, h3, h4⟩
  · exact ⟨none, 0, by rw [h0], ⟨by omega, Nat.zero_le _⟩, fun c => absurd c (by omega), .inl rfl⟩
  · have hb' : Blk w g pkT cur := hg
    have hx : ∀ j, j < L.length * 3 → cur[j]? = (flatK L)[j]? := fun j hj => by
      rw [← h4, List.getElem?_take_of_lt hj, Array.getElem?_toList]
    exact ⟨_, cap, rfl, ⟨h1, h2⟩, fun _ => ⟨g, 0, rfl, hb'.size, fun i hi k hk => by rw [Nat.zero_add, hb'.at_, hx _ (by omega), flatK_get L i k hi hk]⟩, .inr ⟨g, rfl, hb, cur, hb'⟩⟩
theorem OwK.kept {own : Nat → Prop} (h : OwK w base v L) (hk : Kept own w w') (hn : ∀ g, v.ownBlock = some g → ¬ own g) : OwK w' base v L := by
  refine ⟨h.1, ?_⟩
  rcases h.2 with h0 | ⟨g, cap, cur, rfl, hb, hg, h1⟩
  · exact .inl h0
  · exact .inr ⟨g, cap, cur, rfl, hb, Blk.kept (cs := cur) hg hk (hn g rfl), h1⟩
theorem OwK.below (h : OwK w base v L) (hb : Below w.heap.size w w') : OwK w' base v L := h.kept (own := fun _ => False) (Kept.of_below hb) fun _ _ => id
theorem OwK.own_lt (h : OwK w base v L) {g : Nat} (hg : v.ownBlock = some g) : base ≤ g ∧ ∃ cs, Blk w g pkT cs := by
  obtain ⟨A, c, e, _, _, (e1 | ⟨g', e1, hb, cs, hc⟩)⟩ := h.rd
  · rw [hg] at e1; cases e1
  · rw [hg] at e1; injection e1 with e1; subst e1; exact ⟨hb, cs, hc⟩
end
theorem pkinfo : (Try.prog.info? pkT).map (fun i => (i.zero, i.size, i.bytes)) = some (some (.agg #[.int .u8 0, .int .u8 0, .int .u64 0]), 3, 16) := by kernel_rfl
section
variable {w : World} {ops : Array Oper} {rest : List Oper} {o : Oper} {ac : Act} {Q : Exit → Act → World → Prop}
theorem wpList_pk {st : TypeId} (hun : Try.prog.underlying st = some (.slice pkT)) (hgd : o.guard = none) (s x : Operand)
    (ho : o.op = .call { callee := .builtin .append, args := #[s, x], argTypes := #[st, st] })
    {base g : Nat} {v : Value} {L : List Pk} {z : Pk} (hs : ac.eval s = v) (hx : ac.eval x = .slice (some ⟨g, 0, none⟩) 1 1) (hown : OwK w base v L) (hg : Blk w g pkT (pkRow z).toArray) (hl : (L.length + 1) * 16 ≤ 140737488355328) (hb : base ≤ w.heap.size)
    (h : ∀ v' w', OwK w' base v' (L ++ [z]) → w.grownBy w' v.ownBlock → wpList Try.prog ops Q rest (ac.put o.dst v') w') : wpList Try.prog ops Q (o :: rest) ac w := by
  obtain ⟨i, hi, hz⟩ := Option.map_eq_some_iff.1 pkinfo
  simp only [Prod.mk.injEq] at hz
  obtain ⟨hz0, hz1, hz2⟩ := hz
  refine wpList_append_own_at w hgd s x st ho base pkT i _ 3 16 hun hi hz0 hz1 hz2 rfl (by decide) v L.length (flatK L) hs hown ⟨g, 0, none⟩ 1 1 (pkRow z) hx rfl (fun j u hj => ?_) (fun u hu => ?_) (by unfold maxLen; omega) hl hb ?_
  · have e : (⟨g, 0, none⟩ : Addr).add j = ⟨g, j, none⟩ := by
      unfold Addr.add
      split
      · next h => rw [h]
      · simp
    rw [e, hg.at_, List.getElem?_toArray, hj]
  · unfold pkRow at hu
    simp only [List.mem_cons, List.not_mem_nil, or_false] at hu
    rcases hu with rfl | rfl | rfl <;> rfl
  · intro v' w' h1 h2 _ h3
    refine h v' w' ?_ h2
    show w'.ownsRow base pkT 3 v' (L ++ [z]).length (flatK (L ++ [z]))
    rw [show flatK (L ++ [z]) = flatK L ++ pkRow z from by unfold flatK; simp, List.length_append]
    exact h1
end
def encD (d : Dn) : DataW Unit := .agg [.lit (.int .i64 d.kind), .lit (.int .u64 d.v), .lit (.int .i64 d.b), .lit (.int .i64 d.e), .lit (.bool d.well), .lit (.int .i64 d.re)]
def doneElem : Value → Option (DataW Unit × List MemPlace)
  | .agg ⟨[.int .i64 a, .int .u64 b, .int .i64 c, .int .i64 d, .bool e, .int .i64 f]⟩ => some (encD ⟨a, b, c, d, e, f⟩, [])
  | _ => none
theorem doneElem_mk (d : Dn) : doneElem d.val = some (encD d, []) := rfl
theorem encD_inj {d d' : Dn} (h : encD d = encD d') : d = d' := by
  obtain ⟨a, b, c, e, f, g⟩ := d
  obtain ⟨a', b', c', e', f', g'⟩ := d'
  unfold encD at h
  simp at h
  obtain ⟨rfl, rfl, rfl, rfl, rfl, rfl⟩ := h
  rfl
theorem doneElem_inv {v : Value} {z : DataW Unit × List MemPlace} (h : doneElem v = some z) : ∃ d : Dn, v = d.val ∧ z = (encD d, []) := by
  unfold doneElem at h
  split at h
  · next a b c d e f => exact ⟨⟨a, b, c, d, e, f⟩, rfl, (Option.some.inj h).symm⟩
  · cases h
/-- Block b is a map of numbers to acts that ended. -/
def PopAt (w : World) (b : Nat) (f : Int → Option Dn) (m : Nat) : Prop := ∃ D : DataW Unit, w.ownsMap Try.prog 33 doneElem b m D ∧ (∀ h, D.atKey (.int .u64 h) (encD dn0) = encD ((f h).getD dn0)) ∧ ∀ h, Maps.has D (.int .u64 h) = (f h).isSome
theorem lawU : Keyed Try.prog 33 := int_keyed Try.underlying33
theorem zeroD (w : World) : (zeroValue dnT).run Try.prog w = .ok dn0.val w := by
  obtain ⟨i0, h1, h2, h3, h4⟩ := info_parts dninfo
  simp [zeroValue, typeInfo, h1, h2]
theorem u64wf {h : Int} (h0 : 0 ≤ h) (h1 : h ≤ 18446744073709551615) : (Lit.int .u64 h).wf = true := by
  have a : IntKind.u64.min = 0 := rfl
  have b : IntKind.u64.max = 18446744073709551615 := rfl
  simp only [Lit.wf, Bool.and_eq_true, decide_eq_true_eq]
  omega
theorem keyU {h : Int} (h0 : 0 ≤ h) (h1 : h ≤ 18446744073709551615) : keyOf Try.prog 33 (.int .u64 h) = some (.int .u64 h) := keyOf_int_mk Try.underlying33 (u64wf h0 h1)
section
variable {w w' : World} {b m : Nat} {f : Int → Option Dn}
theorem PopAt.made (w : World) : PopAt (w.alloc (.map #[] 0)) w.heap.size (fun _ => none) 0 := ⟨.map [], World.ownsMap_made _ _ _ _, fun h => by simp [DataW.atKey], fun h => by simp [Maps.has]⟩
theorem PopAt.lt (h : PopAt w b f m) : b < w.heap.size := by obtain ⟨D, h1, _⟩ := h; exact h1.lt
theorem PopAt.below (h : PopAt w b f m) (hk : Below w.heap.size w w') : PopAt w' b f m := by
  have hlt := h.lt
  obtain ⟨D, ⟨es, clock, h1, F, hs, hD⟩, h2⟩ := h
  exact ⟨D, ⟨es, clock, (hk.block b hlt).trans h1, F, hs, hD⟩, h2⟩
theorem PopAt.look (h : PopAt w b f m) {k : Int} (h0 : 0 ≤ k) (h1 : k ≤ 18446744073709551615) : (Instr.lookup 50 (.map (some b)) (.int .u64 k) true).run Try.prog w = .ok (.tuple #[((f k).getD dn0).val, .bool (f k).isSome]) w := by
  obtain ⟨D, h2, h3, h4⟩ := h
  obtain ⟨v, ps, hrun, hv⟩ := h2.look_ok lawU Try.underlying50 (zeroD w) (doneElem_mk dn0) (keyU h0 h1)
  obtain ⟨d, rfl, hd⟩ := doneElem_inv hv
  rw [h3] at hd
  have hd' := encD_inj (congrArg Prod.fst hd)
  rw [hrun, h4, ← hd']
theorem wpList_pop {ops : Array Oper} {rest : List Oper} {o : Oper} {a : Act} {Q : Exit → Act → World → Prop} (hg : o.guard = none) (mm x v : Operand) (hop : o.op = Op.mapUpdate 50 mm x v) (h : PopAt w b f m) (hm' : m ≤ 100000) {d : Dn} (h0 : 0 ≤ d.v) (h1 : d.v ≤ 18446744073709551615)
    (hm : a.eval mm = .map (some b)) (hx : a.eval x = .int .u64 d.v) (hv : a.eval v = d.val) (hK : ∀ w', PopAt w' b (fun y => if y = d.v then some d else f y) (m + 1) → w.grownBy w' (some b) → wpList Try.prog ops Q rest (a.put o.dst undef) w') : wpList Try.prog ops Q (o :: rest) a w := by
  obtain ⟨D, h2, h3, h4⟩ := h
  refine wpList_mapUpdate_own w hg mm x v _ hop _ _ lawU Try.underlying50 _ b _ D hm h2 (by unfold maxLen; omega) _ _ _ hx hv (keyU h0 h1) _ [] (doneElem_mk d) fun w' h6 hgr => hK w' ⟨_, h6, fun y => ?_, fun y => ?_⟩ hgr
  · have hT := h2.tidy lawU
    show _ = encD ((if y = d.v then some d else f y).getD dn0)
    by_cases e : y = d.v
    · rw [e, atKey_put_same hT.isMap (by trivial), if_pos rfl]; rfl
    · rw [atKey_put_other (by simpa using e), h3, if_neg e]
  · have hT := h2.tidy lawU
    show _ = (if y = d.v then some d else f y).isSome
    by_cases e : y = d.v
    · rw [e, has_put_same hT.isMap (by trivial), if_pos rfl]; rfl
    · rw [has_put_other (by simpa using e), h4, if_neg e]
end
end Go.Proofs.Ytbenpnecjmpcbaa
