/- Outcomes: rows of six cells; lists of them in memory, of our own or come in. -/
import Derived.Test.YtidkemgibehpcaaSeq
import Derived.Test.YtidkemgibehpcaaRow
import Derived.Test.YtidkemgibehpcaaRowb
import Derived.Test.YtidkemgibehpcaaHelpb
import Derived.Test.YtidkemgibehpcaaHelpc
import Derived.Test.YtidkemgibehpcaaBxs
import Derived.Test.YtidkemgibehpcaaChecked
import Derived.Maps.AppendAt
import Derived.OwnWalkIn
import Derived.Lib.SmallJoins
import Derived.Lib.Hide
import Derived.ChangeArms
namespace Go.Proofs.Ytidkemgibehpcaa
open Go.RowKit Go.ChangeShapes Go.WideShapes Go.Deep
set_option linter.unusedVariables false
set_option linter.unusedSimpArgs false
/-- What became of one. -/
structure Oc where
  a : Int
  b : Int
  c : Int
  d : Int
  e : Int
  f : Int
def oc0 : Oc := ⟨0, 0, 0, 0, 0, 0⟩
instance : Inhabited Oc := ⟨oc0⟩
def ocRow (o : Oc) : List Value := [.int .u64 o.a, .int .i64 o.b, .int .i64 o.c, .int .u8 o.d, .int .i64 o.e, .int .i64 o.f]
abbrev Oc.v (o : Oc) : Value := .agg #[.int .u64 o.a, .int .i64 o.b, .int .i64 o.c, .int .u8 o.d, .int .i64 o.e, .int .i64 o.f]
def Oc.ok (q : Oc) : Prop := (0 ≤ q.a ∧ q.a ≤ 18446744073709551615) ∧ (-9223372036854775808 ≤ q.b ∧ q.b ≤ 9223372036854775807) ∧ (-9223372036854775808 ≤ q.c ∧ q.c ≤ 9223372036854775807) ∧ (0 ≤ q.d ∧ q.d ≤ 255) ∧ (-9223372036854775808 ≤ q.e ∧ q.e ≤ 9223372036854775807) ∧ (-9223372036854775808 ≤ q.f ∧ q.f ≤ 9223372036854775807)
theorem oc0_ok : oc0.ok := by unfold Oc.ok oc0; simp
/-- All outcomes of a list fit. -/
def OkL (L : List Oc) : Prop := ∀ o ∈ L, o.ok
theorem OkL.get {L : List Oc} (h : OkL L) (i : Nat) : (L[i]!).ok := by
  by_cases hi : i < L.length
  · rw [getElem!_pos L i hi]; exact h _ (List.getElem_mem hi)
  · rw [getElem!_neg L i hi]; exact oc0_ok
def flatO (L : List Oc) : List Value := L.flatMap ocRow
theorem ocRow_len (o : Oc) : (ocRow o).length = 6 := rfl
theorem flatO_len (L : List Oc) : (flatO L).length = L.length * 6 := by
  unfold flatO
  induction L with
  | nil => rfl
  | cons a l ih => rw [List.flatMap_cons, List.length_append, ih, List.length_cons, ocRow_len]; omega
theorem flatO_get : ∀ (L : List Oc) (i j : Nat), i < L.length → j < 6 → (flatO L)[i * 6 + j]? = (ocRow L[i]!)[j]?
  | [], i, j, hi, _ => by simp at hi
  | a :: L, 0, j, _, hj => by
    unfold flatO
    rw [List.flatMap_cons, List.getElem?_append_left (by rw [ocRow_len]; omega)]
    simp
  | a :: L, i + 1, j, hi, hj => by
    have h := flatO_get L i j (by simpa using hi) hj
    unfold flatO at h ⊢
    rw [List.flatMap_cons, List.getElem?_append_right (by rw [ocRow_len]; omega)]
    rw [show (i + 1) * 6 + j - (ocRow a).length = i * 6 + j from by rw [ocRow_len]; omega, h]
    simp
theorem flatO_one (e : Oc) : flatO [e] = ocRow e := by unfold flatO; simp
theorem flatO_append (l l' : List Oc) : flatO (l ++ l') = flatO l ++ flatO l' := by unfold flatO; simp
theorem oc_one {o : Oc} : ∀ u ∈ ocRow o, u.oneCell' = true := by
  intro u hu
  unfold ocRow at hu
  simp only [List.mem_cons, List.not_mem_nil, or_false] at hu
  rcases hu with rfl | rfl | rfl | rfl | rfl | rfl <;> rfl
theorem flatO_one' (L : List Oc) : ∀ u ∈ flatO L, u.oneCell' = true := by
  intro u hu
  unfold flatO at hu
  obtain ⟨o, _, ho⟩ := List.mem_flatMap.1 hu
  exact oc_one u ho
/-- A list of outcomes of our own, of type t. -/
abbrev OwO (t : TypeId) (w : World) (base : Nat) (v : Value) (L : List Oc) : Prop := w.ownsRow base t 6 v L.length (flatO L)
/-- A list of outcomes that can be read, in blocks below B. -/
abbrev RdO (w : World) (B : Nat) (A : Option Addr) (L : List Oc) : Prop := SeqAt w B A L.length 6 fun i => ocRow L[i]!
section
variable {t : TypeId} {w w' : World} {base B : Nat} {v : Value} {L L' : List Oc}
theorem OwO.nil_ (t : TypeId) (w : World) (base : Nat) : OwO t w base (.slice none 0 0) [] := World.ownsRow_nil _ _ _ _
theorem OwO.below (h : OwO t w base v L) (hb : Below w.heap.size w w') : OwO t w' base v L :=
  own_kept h (Kept.of_below (own := fun _ => False) hb) (fun _ _ _ h => h)
theorem OwO.rd (h : OwO t w base v L) : ∃ A c, v = .slice A L.length c ∧ RdO w w.heap.size A L ∧ (v.ownBlock = none ∧ A = none ∧ L.length = 0 ∧ c = 0 ∨ ∃ g, v.ownBlock = some g ∧ A = some ⟨g, 0, none⟩ ∧ base ≤ g ∧ g < w.heap.size ∧ ∃ cs, Blk w g t cs ∧ cs.size = c * 6 ∧ L.length ≤ c ∧ ∀ j, j < L.length * 6 → cs[j]? = (flatO L)[j]?) := by
  rcases h.2 with ⟨rfl, h0⟩ | ⟨g, cap, cur, rfl, hb, hg, h1, h2, h3, h4⟩
  · exact ⟨none, 0, by rw [h0], fun c => absurd c (by omega), .inl ⟨rfl, rfl, h0, rfl⟩⟩
  · have hb' : Blk w g t cur := hg
    have hx : ∀ j, j < L.length * 6 → cur[j]? = (flatO L)[j]? := fun j hj => by
      rw [← h4, List.getElem?_take_of_lt hj, Array.getElem?_toList]
    exact ⟨_, cap, rfl, fun _ => ⟨g, 0, rfl, hb'.size, fun i hi k hk => by rw [Nat.zero_add, hb'.at_, hx _ (by omega), flatO_get L i k hi hk]⟩, .inr ⟨g, rfl, rfl, hb, hb'.size, cur, hb', h3, h1, hx⟩⟩
theorem OwO.own_lt (h : OwO t w base v L) {g : Nat} (hg : v.ownBlock = some g) : base ≤ g ∧ ∃ cs, Blk w g t cs := by
  obtain ⟨A, c, e, _, (⟨e1, _⟩ | ⟨g', e1, _, hb, _, cs, hc, _⟩)⟩ := h.rd
  · rw [hg] at e1; cases e1
  · rw [hg] at e1; injection e1 with e1; subst e1; exact ⟨hb, cs, hc⟩
theorem OwO.kept {own : Nat → Prop} (h : OwO t w base v L) (hk : Kept own w w') (hn : ∀ g, v.ownBlock = some g → ¬ own g) : OwO t w' base v L := by
  refine ⟨h.1, ?_⟩
  rcases h.2 with h0 | ⟨g, cap, cur, rfl, hb, hg, h1⟩
  · exact .inl h0
  · exact .inr ⟨g, cap, cur, rfl, hb, Blk.kept (cs := cur) hg hk (hn g rfl), h1⟩
theorem RdO.cells {A : Option Addr} (h : RdO w B A L) {i : Nat} (hi : i < L.length) : ∃ b off, A = some ⟨b, off, none⟩ ∧ b < B ∧
    w.cell? ⟨b, off + i * 6, none⟩ = some (.int .u64 (L[i]!).a) ∧ w.cell? ⟨b, off + i * 6 + 1, none⟩ = some (.int .i64 (L[i]!).b) ∧ w.cell? ⟨b, off + i * 6 + 2, none⟩ = some (.int .i64 (L[i]!).c) ∧
    w.cell? ⟨b, off + i * 6 + 3, none⟩ = some (.int .u8 (L[i]!).d) ∧ w.cell? ⟨b, off + i * 6 + 4, none⟩ = some (.int .i64 (L[i]!).e) ∧ w.cell? ⟨b, off + i * 6 + 5, none⟩ = some (.int .i64 (L[i]!).f) := by
  obtain ⟨b, off, e, hb, hc⟩ := h (by omega)
  have := hc i hi
  exact ⟨b, off, e, hb, this 0 (by omega), this 1 (by omega), this 2 (by omega), this 3 (by omega), this 4 (by omega), this 5 (by omega)⟩
end
/-- The cells of the first n outcomes that can be read. -/
theorem RdO.news {w : World} {B : Nat} {A : Option Addr} {L : List Oc} (h : RdO w B A L) {ad : Addr} (hA : A = some ad) : ∀ j u, (flatO L)[j]? = some u → w.cell? (ad.add j) = some u := by
  intro j u hj
  have hl : j < L.length * 6 := by
    rcases Nat.lt_or_ge j (L.length * 6) with h1 | h1
    · exact h1
    · rw [List.getElem?_eq_none (by rw [flatO_len]; exact h1)] at hj; cases hj
  obtain ⟨b, off, e, hb, hc⟩ := h (by omega)
  rw [e] at hA
  injection hA with hA
  subst hA
  have hi : j / 6 < L.length := by omega
  have hk : j % 6 < 6 := by omega
  have h2 := hc (j / 6) hi (j % 6) hk
  have h3 := flatO_get L (j / 6) (j % 6) hi hk
  have hd : j / 6 * 6 + j % 6 = j := by omega
  rw [hd] at h3
  rw [← h3, hj] at h2
  rw [← h2]
  have e2 : (⟨b, off, none⟩ : Addr).add j = ⟨b, off + j / 6 * 6 + j % 6, none⟩ := by
    unfold Addr.add
    split
    · (try simp); (try omega)
    · (try simp); (try omega)
  rw [e2]
section
variable {H : Type} {enc : TypeId × Value → H} {w : World}
theorem oc_row_ {P : Program} {t : TypeId} {f0 f1 f2 f3 f4 f5 : Field} {spare : Nat → Bool} {held : Bool} {fuel : Nat} {cs : List Value} {x : DataW H × List MemPlace} (hs : P.underlying t = some (.struct #[f0, f1, f2, f3, f4, f5])) (hone : oneCellFields P #[f0, f1, f2, f3, f4, f5] = true)
    (hu : P.underlying f0.type = some (.int .u64)) (h1 : P.underlying f1.type = some (.int .i64)) (h2 : P.underlying f2.type = some (.int .i64)) (h3 : P.underlying f3.type = some (.int .u8)) (h4 : P.underlying f4.type = some (.int .i64)) (h5 : P.underlying f5.type = some (.int .i64)) (h : DataW.trod enc P w 0 spare held fuel t cs = some x) :
    ∃ q : Oc, q.ok ∧ ∀ k, k < 6 → cs[k]? = (ocRow q)[k]? := by
  obtain ⟨xs, n, _, rfl, hl, hlen, hf⟩ := DataW.trod_struct hs h
  have cut1 : ∀ {cs : List Value} {o : Nat} {v : Value}, (cs.drop o).take 1 = [v] → cs[o]? = some v := by
    intro cs o v h
    have := congrArg (·[0]?) h
    simpa using this
  match xs, hlen with
  | [y0, y1, y2, y3, y4, y5], _ =>
    obtain ⟨o0, k0⟩ := hone_of hone 0 f0 rfl
    obtain ⟨a, ea, -, wa⟩ := DataW.trod_int hu (hf 0 _ rfl)
    rw [o0, k0] at ea
    obtain ⟨o1, k1⟩ := hone_of hone 1 f1 rfl
    obtain ⟨b, eb, -, wb⟩ := DataW.trod_int h1 (hf 1 _ rfl)
    rw [o1, k1] at eb
    obtain ⟨o2, k2⟩ := hone_of hone 2 f2 rfl
    obtain ⟨c, ec, -, wc⟩ := DataW.trod_int h2 (hf 2 _ rfl)
    rw [o2, k2] at ec
    obtain ⟨o3, k3⟩ := hone_of hone 3 f3 rfl
    obtain ⟨d, ed, -, wd⟩ := DataW.trod_int h3 (hf 3 _ rfl)
    rw [o3, k3] at ed
    obtain ⟨o4, k4⟩ := hone_of hone 4 f4 rfl
    obtain ⟨e, ee, -, we⟩ := DataW.trod_int h4 (hf 4 _ rfl)
    rw [o4, k4] at ee
    obtain ⟨o5, k5⟩ := hone_of hone 5 f5 rfl
    obtain ⟨f, ef, -, wf⟩ := DataW.trod_int h5 (hf 5 _ rfl)
    rw [o5, k5] at ef
    refine ⟨⟨a, b, c, d, e, f⟩, ⟨wf_u64 wa, wf_i64 wb, wf_i64 wc, wf_u8 wd, wf_i64 we, wf_i64 wf⟩, fun k hk => ?_⟩
    match k, hk with
    | 0, _ => exact cut1 ea
    | 1, _ => exact cut1 eb
    | 2, _ => exact cut1 ec
    | 3, _ => exact cut1 ed
    | 4, _ => exact cut1 ee
    | 5, _ => exact cut1 ef
theorem oc_row {spare : Nat → Bool} {held : Bool} {fuel : Nat} {cs : List Value} {x : DataW H × List MemPlace} (h : DataW.trod enc Try.prog w 0 spare held fuel 45 cs = some x) :
    ∃ q : Oc, q.ok ∧ ∀ k, k < 6 → cs[k]? = (ocRow q)[k]? := by
  exact oc_row_ Try.underlying45 (by kernel_rfl) Try.underlying31 Try.underlying3 Try.underlying3 Try.underlying5 Try.underlying2 Try.underlying2 h
theorem oc_cells : Try.prog.cellsOf 45 = 6 := by kernel_rfl
/-- The first k of those that come in. -/
def takeF (Q : Nat → Oc) (k : Nat) : List Oc := (List.range k).map Q
theorem takeF_len (Q : Nat → Oc) (k : Nat) : (takeF Q k).length = k := by simp [takeF]
theorem takeF_get (Q : Nat → Oc) {k i : Nat} (h : i < k) : (takeF Q k)[i]! = Q i := by
  rw [getElem!_pos _ i (by rw [takeF_len]; exact h)]
  simp [takeF]
theorem takeF_take (Q : Nat → Oc) (k n : Nat) : (takeF Q k).take n = takeF Q (min n k) := by
  unfold takeF
  rw [← List.map_take, List.take_range]
theorem open_ocs {fuel : Nat} {A : Option Addr} {len cap : Nat} {x : DataW H × List MemPlace} (h : DataW.trod enc Try.prog w 0 (fun _ => true) true fuel 22 [.slice A len cap] = some x) :
    len ≤ cap ∧ cap ≤ maxLen ∧ ∃ Q : Nat → Oc, SeqAt w w.heap.size A len 6 (fun i => ocRow (Q i)) ∧ ∀ i, (Q i).ok := by
  obtain ⟨h1, h2, row, hs, hr⟩ := open_seq Try.underlying22 oc_cells (by omega) h
  have hq : ∀ i, ∃ q : Oc, q.ok ∧ (i < len → ∀ k, k < 6 → (row i)[k]? = (ocRow q)[k]?) := by
    intro i
    by_cases hi : i < len
    · obtain ⟨_, n, y, hy⟩ := hr i hi
      obtain ⟨q, hq⟩ := oc_row hy
      exact ⟨q, hq.1, fun _ => hq.2⟩
    · exact ⟨oc0, oc0_ok, fun h => absurd h hi⟩
  refine ⟨h1, h2, fun i => (hq i).choose, fun h0 => ?_, fun i => (hq i).choose_spec.1⟩
  obtain ⟨b, off, e, hb, hc⟩ := hs h0
  exact ⟨b, off, e, hb, fun i hi k hk => (hc i hi k hk).trans ((hq i).choose_spec.2 hi k hk)⟩
end
theorem rd_takeF {w : World} {B len k : Nat} {A : Option Addr} {Q : Nat → Oc} (h : SeqAt w B A len 6 fun i => ocRow (Q i)) (hk : k ≤ len) : RdO w B A (takeF Q k) := by
  intro h0
  rw [takeF_len] at h0
  obtain ⟨b, off, e, hb, hc⟩ := h (by omega)
  refine ⟨b, off, e, hb, fun i hi j hj => ?_⟩
  rw [takeF_len] at hi
  show _ = (ocRow (takeF Q k)[i]!)[j]?
  rw [hc i (by omega) j hj, takeF_get Q hi]
theorem okL_takeF {Q : Nat → Oc} (h : ∀ i, (Q i).ok) (k : Nat) : OkL (takeF Q k) := by
  intro o ho
  unfold takeF at ho
  obtain ⟨i, _, rfl⟩ := List.mem_map.1 ho
  exact h i
theorem tlinfo : (Try.prog.info? 45).map (fun i => (i.zero, i.size, i.bytes)) = some (some oc0.v, 6, 48) := by kernel_rfl
theorem rlinfo : (Try.prog.info? 33).map (fun i => (i.zero, i.size, i.bytes)) = some (some oc0.v, 6, 48) := by kernel_rfl
theorem inf_of {t : TypeId} {z : Option Value} {s b : Nat} (h : (Try.prog.info? t).map (fun i => (i.zero, i.size, i.bytes)) = some (z, s, b)) : ∃ i, Try.prog.info? t = some i ∧ i.zero = z ∧ i.size = s ∧ i.bytes = b := by
  obtain ⟨i, hi, hz⟩ := Option.map_eq_some_iff.1 h
  simp only [Prod.mk.injEq] at hz
  exact ⟨i, hi, hz.1, hz.2.1, hz.2.2⟩
theorem maxbig : 100000 ≤ maxLen := by unfold maxLen; omega
section
variable {w : World} {ops : Array Oper} {rest : List Oper} {o : Oper} {ac : Act} {Q : Exit → Act → World → Prop}
/-- One outcome more, in a walk: of the type t, of slice type s. -/
theorem wpList_oc {t st : TypeId} (hinf : (Try.prog.info? t).map (fun i => (i.zero, i.size, i.bytes)) = some (some oc0.v, 6, 48)) (hun : Try.prog.underlying st = some (.slice t)) (hgd : o.guard = none) (s x : Operand)
    (ho : o.op = .call { callee := .builtin .append, args := #[s, x], argTypes := #[st, st] })
    {base g : Nat} {v : Value} {L : List Oc} {z : Oc} (hs : ac.eval s = v) (hx : ac.eval x = .slice (some ⟨g, 0, none⟩) 1 1) (hown : OwO t w base v L) (hg : Blk w g t (ocRow z).toArray) (hl : L.length ≤ 10000) (hb : base ≤ w.heap.size)
    (h : ∀ v' w', OwO t w' base v' (L ++ [z]) → w.grownBy w' v.ownBlock → (v'.ownBlock = v.ownBlock ∨ v'.ownBlock = some w.heap.size) → wpList Try.prog ops Q rest (ac.put o.dst v') w') : wpList Try.prog ops Q (o :: rest) ac w := by
  obtain ⟨i, hi, hz0, hz1, hz2⟩ := inf_of hinf
  refine wpList_append_own_at w hgd s x st ho base t i oc0.v 6 48 hun hi hz0 hz1 hz2 rfl (by decide) v L.length (flatO L) hs hown ⟨g, 0, none⟩ 1 1 (ocRow z) hx rfl (fun j u hj => ?_) oc_one (by have := maxbig; omega) (by omega) hb ?_
  · have e : (⟨g, 0, none⟩ : Addr).add j = ⟨g, j, none⟩ := by
      unfold Addr.add
      split
      · next h => rw [h]
      · simp
    rw [e, hg.at_, List.getElem?_toArray, hj]
  · intro v' w' h1 h2 _ h3
    refine h v' w' ?_ h2 h3
    show w'.ownsRow base t 6 v' (L ++ [z]).length (flatO (L ++ [z]))
    rw [flatO_append, flatO_one, List.length_append]
    exact h1
theorem wpListIn_oc {F : Fence} {n : Nat} {t st : TypeId} (hinf : (Try.prog.info? t).map (fun i => (i.zero, i.size, i.bytes)) = some (some oc0.v, 6, 48)) (hun : Try.prog.underlying st = some (.slice t)) (hgd : o.guard = none) (s x : Operand)
    (ho : o.op = .call { callee := .builtin .append, args := #[s, x], argTypes := #[st, st] })
    {base g : Nat} {v : Value} {L : List Oc} {z : Oc} (hs : ac.eval s = v) (hx : ac.eval x = .slice (some ⟨g, 0, none⟩) 1 1) (hown : OwO t w base v L) (hg : Blk w g t (ocRow z).toArray) (hl : L.length ≤ 10000) (hb : base ≤ w.heap.size)
    (h : ∀ v' w', OwO t w' base v' (L ++ [z]) → w.grownBy w' v.ownBlock → wpListIn F n Try.prog ops Q rest (ac.put o.dst v') w') : wpListIn F n Try.prog ops Q (o :: rest) ac w := by
  obtain ⟨i, hi, hz0, hz1, hz2⟩ := inf_of hinf
  refine wpListIn_append_own w hgd s x st ho base t i oc0.v 6 48 hun hi hz0 hz1 hz2 rfl (by decide) v L.length (flatO L) hs hown ⟨g, 0, none⟩ 1 1 (ocRow z) hx rfl (fun j u hj => ?_) oc_one (by have := maxbig; omega) (by omega) hb ?_
  · have e : (⟨g, 0, none⟩ : Addr).add j = ⟨g, j, none⟩ := by
      unfold Addr.add
      split
      · next h => rw [h]
      · simp
    rw [e, hg.at_, List.getElem?_toArray, hj]
  · intro v' w' h1 h2 _
    refine h v' w' ?_ h2
    show w'.ownsRow base t 6 v' (L ++ [z]).length (flatO (L ++ [z]))
    rw [flatO_append, flatO_one, List.length_append]
    exact h1
/-- A whole list more, in a walk. -/
theorem wpList_ocs {t st : TypeId} (hinf : (Try.prog.info? t).map (fun i => (i.zero, i.size, i.bytes)) = some (some oc0.v, 6, 48)) (hun : Try.prog.underlying st = some (.slice t)) (hgd : o.guard = none) (s x : Operand)
    (ho : o.op = .call { callee := .builtin .append, args := #[s, x], argTypes := #[st, st] })
    {base B c : Nat} {v : Value} {L M : List Oc} {ad : Addr} (hs : ac.eval s = v) (hx : ac.eval x = .slice (some ad) M.length c) (hown : OwO t w base v L) (hr : RdO w B (some ad) M) (hl : L.length + M.length ≤ 10000) (hb : base ≤ w.heap.size)
    (h : ∀ v' w', OwO t w' base v' (L ++ M) → w.grownBy w' v.ownBlock → (v'.ownBlock = v.ownBlock ∨ v'.ownBlock = some w.heap.size) → wpList Try.prog ops Q rest (ac.put o.dst v') w') : wpList Try.prog ops Q (o :: rest) ac w := by
  obtain ⟨i, hi, hz0, hz1, hz2⟩ := inf_of hinf
  refine wpList_append_own_at w hgd s x st ho base t i oc0.v 6 48 hun hi hz0 hz1 hz2 rfl (by decide) v L.length (flatO L) hs hown ad M.length c (flatO M) hx (flatO_len M) (hr.news rfl) (flatO_one' M) (by have := maxbig; omega) (by omega) hb ?_
  intro v' w' h1 h2 _ h3
  refine h v' w' ?_ h2 h3
  show w'.ownsRow base t 6 v' (L ++ M).length (flatO (L ++ M))
  rw [flatO_append, List.length_append]
  exact h1
end
end Go.Proofs.Ytidkemgibehpcaa
