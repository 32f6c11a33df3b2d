/- What the law notes of the acts that ended; a team's run, as plain data. -/
import Derived.Test.YtbenpnecjmpcbaaTd
import Derived.Test.YtbenpnecjmpcbaaRact
import Derived.Maps.AppendAt
import Derived.Lib.SmallJoins
namespace Go.Proofs.Ytbenpnecjmpcbaa
open Go.RowKit Go.ChangeShapes Go.WideShapes Go.Deep
set_option linter.unusedVariables false
set_option linter.unusedSimpArgs false
def dn0 : Dn := ⟨0, 0, 0, 0, false, 0⟩
instance : Inhabited Dn := ⟨dn0⟩
abbrev Dn.val (x : Dn) : Value := .agg #[.int .i64 x.kind, .int .u64 x.v, .int .i64 x.b, .int .i64 x.e, .bool x.well, .int .i64 x.re]
def flatD (L : List Dn) : List Value := L.flatMap dnRow
theorem dnRow_len (x : Dn) : (dnRow x).length = 6 := rfl
theorem flatD_len (L : List Dn) : (flatD L).length = L.length * 6 := by
  unfold flatD
  induction L with
  | nil => rfl
  | cons a l ih => rw [List.flatMap_cons, List.length_append, ih, List.length_cons, dnRow_len]; omega
theorem flatD_get : ∀ (L : List Dn) (i j : Nat), i < L.length → j < 6 → (flatD L)[i * 6 + j]? = (dnRow L[i]!)[j]?
  | [], i, j, hi, _ => by simp at hi
  | a :: L, 0, j, _, hj => by
    unfold flatD
    rw [List.flatMap_cons, List.getElem?_append_left (by rw [dnRow_len]; omega)]
    simp
  | a :: L, i + 1, j, hi, hj => by
    have h := flatD_get L i j (by simpa using hi) hj
    unfold flatD at h ⊢
    rw [List.flatMap_cons, List.getElem?_append_right (by rw [dnRow_len]; omega)]
    rw [show (i + 1) * 6 + j - (dnRow a).length = i * 6 + j from by rw [dnRow_len]; omega, h]
    simp
theorem flatD_one (e : Dn) : flatD [e] = dnRow e := by unfold flatD; simp
theorem flatD_append (l l' : List Dn) : flatD (l ++ l') = flatD l ++ flatD l' := by unfold flatD; simp
theorem dn_one {o : Dn} : ∀ u ∈ dnRow o, u.oneCell' = true := by
  intro u hu
  unfold dnRow at hu
  simp only [List.mem_cons, List.not_mem_nil, or_false] at hu
  rcases hu with rfl | rfl | rfl | rfl | rfl | rfl <;> rfl
abbrev dnT : TypeId := 47
/-- The list of the acts that ended. -/
abbrev OwD (w : World) (base : Nat) (v : Value) (L : List Dn) : Prop := w.ownsRow base dnT 6 v L.length (flatD L)
section
variable {w w' : World} {base : Nat} {v : Value} {L : List Dn}
theorem OwD.nil_ (w : World) (base : Nat) : OwD w base (.slice none 0 0) [] := World.ownsRow_nil _ _ _ _
theorem OwD.rd (h : OwD w base v L) : ∃ A c, v = .slice A L.length c ∧ SeqAt w w.heap.size A L.length 6 (fun i => dnRow L[i]!) ∧ (v.ownBlock = none ∨ ∃ g, v.ownBlock = some g ∧ base ≤ g ∧ ∃ cs, Blk w g dnT cs) := by
  rcases h.2 with ⟨rfl, h0⟩ | ⟨g, cap, cur, rfl, hb, hg, h1, h2, h3, h4⟩
  · exact ⟨none, 0, by rw [h0], fun c => absurd c (by omega), .inl rfl⟩
  · have hb' : Blk w g dnT cur := hg
    have hx : ∀ j, j < L.length * 6 → cur[j]? = (flatD L)[j]? := fun j hj => by
      rw [← h4, List.getElem?_take_of_lt hj, Array.getElem?_toList]
    exact ⟨_, cap, rfl, fun _ => ⟨g, 0, rfl, hb'.size, fun i hi k hk => by rw [Nat.zero_add, hb'.at_, hx _ (by omega), flatD_get L i k hi hk]⟩, .inr ⟨g, rfl, hb, cur, hb'⟩⟩
theorem OwD.own_lt (h : OwD w base v L) {g : Nat} (hg : v.ownBlock = some g) : base ≤ g ∧ ∃ cs, Blk w g dnT cs := by
  obtain ⟨A, c, e, _, (e1 | ⟨g', e1, hb, cs, hc⟩)⟩ := h.rd
  · rw [hg] at e1; cases e1
  · rw [hg] at e1; injection e1 with e1; subst e1; exact ⟨hb, cs, hc⟩
theorem OwD.kept {own : Nat → Prop} (h : OwD w base v L) (hk : Kept own w w') (hn : ∀ g, v.ownBlock = some g → ¬ own g) : OwD w' base v L := by
  refine ⟨h.1, ?_⟩
  rcases h.2 with h0 | ⟨g, cap, cur, rfl, hb, hg, h1⟩
  · exact .inl h0
  · exact .inr ⟨g, cap, cur, rfl, hb, Blk.kept (cs := cur) hg hk (hn g rfl), h1⟩
theorem OwD.below (h : OwD w base v L) (hb : Below w.heap.size w w') : OwD w' base v L := h.kept (own := fun _ => False) (Kept.of_below hb) fun _ _ => id
end
theorem dninfo : (Try.prog.info? dnT).map (fun i => (i.zero, i.size, i.bytes)) = some (some dn0.val, 6, 48) := by kernel_rfl
section
variable {w : World} {ops : Array Oper} {rest : List Oper} {o : Oper} {ac : Act} {Q : Exit → Act → World → Prop}
/-- One more. -/
theorem wpList_dn {st : TypeId} (hun : Try.prog.underlying st = some (.slice dnT)) (hgd : o.guard = none) (s x : Operand)
    (ho : o.op = .call { callee := .builtin .append, args := #[s, x], argTypes := #[st, st] })
    {base g : Nat} {v : Value} {L : List Dn} {z : Dn} (hs : ac.eval s = v) (hx : ac.eval x = .slice (some ⟨g, 0, none⟩) 1 1) (hown : OwD w base v L) (hg : Blk w g dnT (dnRow z).toArray) (hl : L.length ≤ 10000) (hb : base ≤ w.heap.size)
    (h : ∀ v' w', OwD w' base v' (L ++ [z]) → w.grownBy w' v.ownBlock → wpList Try.prog ops Q rest (ac.put o.dst v') w') : wpList Try.prog ops Q (o :: rest) ac w := by
  obtain ⟨i, hi, hz⟩ := Option.map_eq_some_iff.1 dninfo
  simp only [Prod.mk.injEq] at hz
  obtain ⟨hz0, hz1, hz2⟩ := hz
  refine wpList_append_own_at w hgd s x st ho base dnT i dn0.val 6 48 hun hi hz0 hz1 hz2 rfl (by decide) v L.length (flatD L) hs hown ⟨g, 0, none⟩ 1 1 (dnRow z) hx rfl (fun j u hj => ?_) dn_one (by have : 100000 ≤ maxLen := by { unfold maxLen; omega }; omega) (by omega) hb ?_
  · have e : (⟨g, 0, none⟩ : Addr).add j = ⟨g, j, none⟩ := by
      unfold Addr.add
      split
      · next h => rw [h]
      · simp
    rw [e, hg.at_, List.getElem?_toArray, hj]
  · intro v' w' h1 h2 _ h3
    refine h v' w' ?_ h2
    show w'.ownsRow base dnT 6 v' (L ++ [z]).length (flatD (L ++ [z]))
    rw [flatD_append, flatD_one, List.length_append]
    exact h1
end
/-- A team's run, as plain data. -/
structure Ts where
  g : Rg
  ac : Nat → Option Ac
  K : Nat → Int
  now : Nat → Dn
  out : List Dn
def dnRe (c c' : Ac) (x : Dn) : Dn := if 1 < dnx c.nx ∧ dnx c'.nx = 1 then { x with re := x.re + 1 } else x
def dnEnd (i : Nat) (c' : Ac) (x : Dn) : Dn := { x with e := i, well := decide (c'.nx = 1), v := if x.kind = 2 then c'.pp else x.v }
def tsBegin (s : Ts) (i j : Nat) (d v : Int) : Ts := { s with ac := upd s.ac j (some (tc0 d v)), K := upd s.K j (tk0 d), now := upd s.now j ⟨tk0 d, v, i, 0, false, 0⟩ }
def tsStep (n : Nat) (s : Ts) (i j : Nat) (c : Ac) : Ts :=
  if endE (acS n s.g c).nx = true then ⟨rgS n s.g c, upd s.ac j none, s.K, upd s.now j (dnEnd i (acS n s.g c) (s.now j)), s.out ++ [dnEnd i (acS n s.g c) (s.now j)]⟩
  else ⟨rgS n s.g c, upd s.ac j (some (acS n s.g c)), s.K, upd s.now j (dnRe c (acS n s.g c) (s.now j)), s.out⟩
def tsPick (n : Nat) (s : Ts) (i j : Nat) (d v : Int) : Ts :=
  match s.ac j with
  | none => tsBegin s i j d v
  | some c => tsStep n s i j c
/-- What holds of it, after k picks. -/
structure TsOk (n k : Nat) (s : Ts) : Prop where
  inv : RInv n s.g s.ac
  bd : TBd k n s.g s.ac
  ne : ∀ j c, s.ac j = some c → 2 ≤ c.nx ∧ endE c.nx = false
  re : ∀ j, 0 ≤ (s.now j).re ∧ (s.now j).re ≤ k
  kd : ∀ j c, s.ac j = some c → (s.now j).kind = s.K j ∧ AcK (s.K j) c
  len : s.out.length ≤ k
theorem endE_of {x : Int} (h : endE x = false) (h0 : 0 ≤ x) : 2 ≤ x := by
  unfold endE at h
  simp at h
  omega
theorem TsOk.begin_ {n k : Nat} {s : Ts} (h : TsOk n k s) (i j : Nat) (d v : Int) : TsOk n (k + 1) (tsBegin s i j d v) := by
  refine ⟨h.inv.put j _ (fun a e => ?_), (h.bd.put j (fun a e => ?_)).more (by omega), fun l c hc => ?_, fun l => ?_, fun l c hc => ?_, Nat.le_succ_of_le h.len⟩
  · cases e
    rcases tc0_nx d v with e | e
    · exact .inr (.inr (.inl e))
    · exact .inr (.inr (.inr (.inl e)))
  · cases e
    obtain ⟨e1, e2⟩ := tc0_po d v
    omega
  · rcases upd_some hc with ⟨-, e⟩ | ⟨-, e⟩
    · cases e
      rcases tc0_nx d v with e | e <;> rw [e] <;> decide
    · exact h.ne l c e
  · show 0 ≤ (upd s.now j _ l).re ∧ (upd s.now j _ l).re ≤ _
    by_cases e : l = j
    · subst e
      rw [upd_at]
      exact ⟨Int.le_refl _, by show (0 : Int) ≤ _; omega⟩
    · rw [upd_ne _ _ e]
      have := h.re l
      omega
  · show (upd s.now j _ l).kind = upd s.K j _ l ∧ AcK (upd s.K j _ l) c
    rcases upd_some hc with ⟨rfl, e⟩ | ⟨e, e'⟩
    · cases e
      rw [upd_at, upd_at]
      exact ⟨rfl, tc0_K d v⟩
    · rw [upd_ne _ _ e, upd_ne _ _ e]
      exact h.kd l c e'
theorem dnRe_re (c c' : Ac) (x : Dn) : (dnRe c c' x).re = x.re ∨ (dnRe c c' x).re = x.re + 1 := by
  unfold dnRe
  split
  · exact .inr rfl
  · exact .inl rfl
theorem dnRe_kind (c c' : Ac) (x : Dn) : (dnRe c c' x).kind = x.kind := by
  unfold dnRe
  split <;> rfl
theorem TsOk.step_ {n k : Nat} {s : Ts} (h : TsOk n k s) (hn : 2 ≤ n) (i : Nat) {j : Nat} {c : Ac} (hc : s.ac j = some c) : TsOk n (k + 1) (tsStep n s i j c) := by
  have hi := h.inv.step hn hc
  have hb := h.bd.step hc
  have hK := acS_K (n := n) (g := s.g) (h.kd j c hc).2
  unfold tsStep
  by_cases he : endE (acS n s.g c).nx = true
  · rw [if_pos he]
    have e0 : ∀ x : Option Ac, upd (upd s.ac j x) j none = upd s.ac j none := fun x => upd_upd' _ _ _ _
    refine ⟨?_, ?_, fun l a ha => ?_, fun l => ?_, fun l a ha => ?_, ?_⟩
    · have := hi.put j none (fun a e => by cases e)
      rw [e0] at this
      exact this
    · have := hb.put j (x := none) (fun a e => by cases e)
      rw [e0] at this
      exact this
    · rcases upd_some ha with ⟨-, e⟩ | ⟨-, e⟩
      · cases e
      · exact h.ne l a e
    · show 0 ≤ (upd s.now j _ l).re ∧ (upd s.now j _ l).re ≤ _
      by_cases e : l = j
      · subst e
        rw [upd_at]
        have := h.re l
        show 0 ≤ (s.now l).re ∧ (s.now l).re ≤ _
        omega
      · rw [upd_ne _ _ e]
        have := h.re l
        omega
    · show (upd s.now j _ l).kind = s.K l ∧ AcK (s.K l) a
      rcases upd_some ha with ⟨-, e⟩ | ⟨e, e'⟩
      · cases e
      · rw [upd_ne _ _ e]
        exact h.kd l a e'
    · show (s.out ++ [_]).length ≤ _
      rw [List.length_append]
      have := h.len
      simp
      omega
  · rw [if_neg he]
    refine ⟨hi, hb, fun l a ha => ?_, fun l => ?_, fun l a ha => ?_, Nat.le_succ_of_le h.len⟩
    · rcases upd_some ha with ⟨-, e⟩ | ⟨-, e⟩
      · cases e
        have he' : endE (acS n s.g c).nx = false := by simpa using he
        exact ⟨endE_of he' hK.top.2, he'⟩
      · exact h.ne l a e
    · show 0 ≤ (upd s.now j _ l).re ∧ (upd s.now j _ l).re ≤ _
      by_cases e : l = j
      · subst e
        rw [upd_at]
        have := h.re l
        rcases dnRe_re c (acS n s.g c) (s.now l) with e | e <;> rw [e] <;> omega
      · rw [upd_ne _ _ e]
        have := h.re l
        omega
    · show (upd s.now j _ l).kind = s.K l ∧ AcK (s.K l) a
      rcases upd_some ha with ⟨rfl, e⟩ | ⟨e, e'⟩
      · cases e
        rw [upd_at, dnRe_kind]
        exact ⟨(h.kd l c hc).1, hK⟩
      · rw [upd_ne _ _ e]
        exact h.kd l a e'
theorem TsOk.pick_ {n k : Nat} {s : Ts} (h : TsOk n k s) (hn : 2 ≤ n) (i j : Nat) (d v : Int) : TsOk n (k + 1) (tsPick n s i j d v) := by
  unfold tsPick
  cases hc : s.ac j with
  | none => exact h.begin_ i j d v
  | some c => exact h.step_ hn i hc
/-- The picks' run. -/
def tsRun (n : Nat) (Q : Nat → Pk) : Nat → Ts → Ts
  | 0, s => s
  | k + 1, s => tsPick n (tsRun n Q k s) k ((Q k).t.toNat % 6) (Q k).d (Q k).v
end Go.Proofs.Ytbenpnecjmpcbaa
