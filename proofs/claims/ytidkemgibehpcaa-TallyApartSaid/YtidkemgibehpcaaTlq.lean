/- Counts that add up; outcomes made small. -/
import Derived.Test.YtidkemgibehpcaaTlp
import Derived.Laws.BitsLemmas
import Derived.SizedLaws
namespace Go.Proofs.Ytidkemgibehpcaa
open Go.RowKit Go.ChangeShapes Go.WideShapes Go.Deep
set_option linter.unusedVariables false
set_option linter.unusedSimpArgs false
/-- The arguments' reach: a slice that is read takes at most 2^47 bytes. -/
theorem sized_len {H : Type} {enc : TypeId × Value → H} {P : Program} {w : World} {fuel : Nat} {t e : TypeId} {A : Option Addr} {len cap : Nat} {d : DataW H} {p : List MemPlace} {ts : List TypeId} {ds : List (DataW H)} {j : Nat} (ht : P.underlying t = some (.slice e)) (h : DataW.trod enc P w 0 (fun _ => true) true fuel t [.slice A len cap] = some (d, p))
    (hs : (DataW.weightsEach P ts ds).all (· ≤ reachBytes) = true) (hj : ts[j]? = some t) (hd : ds[j]? = some d) : len * P.bytesOf e ≤ 140737488351232 := by
  rcases Go.Deep.open_slice ht h with ⟨hc, _⟩ | ⟨a, len', cap', m, n, D, Pl, hc, _, hl, _, hm, hx, _⟩
  · simp only [List.cons.injEq, Value.slice.injEq, and_true] at hc
    obtain ⟨rfl, rfl, rfl⟩ := hc
    omega
  · simp only [List.cons.injEq, Value.slice.injEq, and_true] at hc
    obtain ⟨rfl, rfl, rfl⟩ := hc
    simp only [Prod.mk.injEq] at hx
    obtain ⟨rfl, rfl⟩ := hx
    have h1 := sized_slice hs hj hd ht
    simp only [List.length_map, List.length_range, reachBytes] at h1
    have : len * P.bytesOf e ≤ (len + (m - len)) * P.bytesOf e := Nat.mul_le_mul_right _ (by omega)
    omega
theorem and7 (x : Int) : 0 ≤ bits BinOp.and IntKind.i64 x 7 ∧ bits BinOp.and IntKind.i64 x 7 ≤ 7 := by
  have h : ∀ n : Nat, n ≤ 7 → 0 ≤ IntKind.i64.wrap (n : Int) ∧ IntKind.i64.wrap (n : Int) ≤ 7 := fun n hn => by
    rw [IntWalk.i64_in _ (by omega)]; omega
  unfold bits
  simp only [BitVec.toNat_and]
  exact h _ (Nat.le_trans Nat.and_le_right (by decide))
/-- An outcome made small. -/
def smallO (o : Oc) : Oc := ⟨o.a, bits BinOp.and IntKind.i64 o.b 7, o.c, 1 + o.d % 6, o.e, o.f⟩
theorem small_ok {o : Oc} (h : o.ok) : (smallO o).ok := by
  have := and7 o.b
  unfold Oc.ok smallO at *
  simp only
  omega
def cS (L : List Oc) (t why : Int) : Nat := (L.filter (someB t why)).length
def cB (L : List Oc) (t : Nat) : Nat := (L.filter fun o => decide (o.b < (t : Int))).length
def cD (L : List Oc) (t : Nat) (y : Nat) : Nat := (L.filter fun o => decide (o.b = (t : Int)) && decide (o.d ≤ (y : Int))).length
def cK (D : List Oc) (k : Nat) : Nat := (D.filter fun o => decide (clsE o.f < k)).length
theorem filter_two (L : List Oc) (p q r : Oc → Bool) (h : ∀ o ∈ L, p o = (q o || r o) ∧ (q o && r o) = false) : (L.filter p).length = (L.filter q).length + (L.filter r).length := by
  induction L with
  | nil => rfl
  | cons a l ih =>
    have h1 := h a (List.mem_cons_self ..)
    have h2 := ih fun o ho => h o (List.mem_cons_of_mem _ ho)
    rw [List.filter_cons, List.filter_cons, List.filter_cons]
    cases hq : q a <;> cases hr : r a <;> simp [hq, hr] at h1 <;> simp [h1] <;> omega
/-- Outcomes of tiers from 0 to 7, of whys from 1 to 6. -/
def Smalls (L : List Oc) : Prop := ∀ o ∈ L, 0 ≤ o.b ∧ o.b ≤ 7 ∧ 1 ≤ o.d ∧ o.d ≤ 6
section
variable {L D : List Oc}
theorem cD_zero (h : Smalls L) (t : Nat) : cD L t 0 = 0 := by
  unfold cD
  rw [List.length_eq_zero_iff, List.filter_eq_nil_iff]
  intro o ho
  have := h o ho
  simp; omega
theorem cD_succ (h : Smalls L) (t y : Nat) : cD L t (y + 1) = cD L t y + cS L (t : Int) ((y : Int) + 1) := by
  unfold cD cS
  refine filter_two L _ _ _ fun o ho => ?_
  have hs := h o ho
  unfold someB isOfB whyB
  by_cases hb : o.b = (t : Int)
  · by_cases hd : o.d ≤ (y : Int)
    · have e1 : ¬ o.d = (y : Int) + 1 := by omega
      have e2 : o.d ≤ ((y + 1 : Nat) : Int) := by omega
      have e3 : ¬ ((y : Int) + 1 = 0) := by omega
      have e4 : ¬ ((t : Int) < 0) := by omega
      simp [hb, hd, e1, e2, e3, e4]; omega
    · by_cases he : o.d = (y : Int) + 1
      · have e2 : o.d ≤ ((y + 1 : Nat) : Int) := by omega
        simp [hb, hd, he]; omega
      · have e2 : ¬ o.d ≤ ((y + 1 : Nat) : Int) := by omega
        have e3 : ¬ ((y : Int) + 1 = 0) := by omega
        have e4 : ¬ o.d ≤ (y : Int) + 1 := by omega
        simp [hb, hd, he, e2, e3, e4]
  · have e4 : ¬ ((t : Int) < 0) := by omega
    simp [hb, e4]
theorem cD_six (h : Smalls L) (t : Nat) : cD L t 6 = cS L (t : Int) 0 := by
  unfold cD cS
  congr 1
  refine List.filter_congr fun o ho => ?_
  have hs := h o ho
  unfold someB isOfB whyB
  have e1 : o.d ≤ ((6 : Nat) : Int) := by omega
  have e4 : ¬ ((t : Int) < 0) := by omega
  have e5 : decide (o.b = (t : Int)) = (o.b == (t : Int)) := Bool.eq_iff_iff.2 (by simp)
  have e6 : decide (o.d ≤ ((6 : Nat) : Int)) = true := decide_eq_true e1
  have e7 : decide ((t : Int) < 0) = false := decide_eq_false e4
  rw [e5, e6, e7]
  simp
theorem cB_zero (h : Smalls L) : cB L 0 = 0 := by
  unfold cB
  rw [List.length_eq_zero_iff, List.filter_eq_nil_iff]
  intro o ho
  have := h o ho
  simp; omega
theorem cB_succ (h : Smalls L) (t : Nat) : cB L (t + 1) = cB L t + cS L (t : Int) 0 := by
  unfold cB cS
  refine filter_two L _ _ _ fun o ho => ?_
  have hs := h o ho
  unfold someB isOfB whyB
  have e7 : decide ((t : Int) < 0) = false := decide_eq_false (by omega)
  rw [e7]
  by_cases h1 : o.b < (t : Int)
  · have e1 : o.b < ((t + 1 : Nat) : Int) := by omega
    have e2 : ¬ o.b = (t : Int) := by omega
    simp [h1, e1, e2]
    omega
  · by_cases h2 : o.b = (t : Int)
    · have e1 : o.b < ((t + 1 : Nat) : Int) := by omega
      simp [h2]; omega
    · have e1 : ¬ o.b < ((t + 1 : Nat) : Int) := by omega
      have e3 : (o.b == (t : Int)) = false := by simpa using h2
      rw [decide_eq_false h1, decide_eq_false e1, e3]
      simp
theorem cB_eight (h : Smalls L) : cB L 8 = L.length := by
  unfold cB
  rw [List.filter_eq_self.2]
  intro o ho
  have := h o ho
  simp; omega
theorem cS_all : cS L (-1) 0 = L.length := by
  unfold cS
  rw [List.filter_eq_self.2]
  intro o _
  unfold someB isOfB whyB
  simp
theorem cK_zero : cK D 0 = 0 := by unfold cK; simp
theorem cK_succ (k : Nat) : cK D (k + 1) = cK D k + cntK D k := by
  unfold cK cntK
  refine filter_two D _ _ _ fun o ho => ?_
  by_cases h1 : clsE o.f < k
  · have e1 : clsE o.f < k + 1 := by omega
    have e2 : ¬ clsE o.f = k := by omega
    simp [h1, e1, e2]
  · by_cases h2 : clsE o.f = k
    · simp [h2]
    · have e1 : ¬ clsE o.f < k + 1 := by omega
      simp [h1, h2, e1]
theorem cK_top : cK D (topK D) = D.length := by
  unfold cK
  rw [List.filter_eq_self.2]
  intro o ho
  have := topK_ge ho
  simp; omega
theorem cD_le (t y : Nat) : cD L t y ≤ L.length := List.length_filter_le _ _
theorem cB_le (t : Nat) : cB L t ≤ L.length := List.length_filter_le _ _
theorem cS_le (t why : Int) : cS L t why ≤ L.length := List.length_filter_le _ _
theorem cK_le (k : Nat) : cK D k ≤ D.length := List.length_filter_le _ _
end
/-- A row whose tickets can be read and written. -/
def TickAt (W : World) (B : Nat) (A : Option Addr) (n : Nat) : Prop := 0 < n → ∃ g, A = some ⟨g, 0, none⟩ ∧ B ≤ g ∧ ∃ cs, Blk W g tT cs ∧ ∀ i, i < n → ∃ z, cs[i * 6]? = some (.int .u64 z)
theorem tick_of {W : World} {b n c : Nat} {A : Option Addr} {L : List Oc} (h : OwO tT W b (.slice A n c) L) : TickAt W b A L.length := by
  intro h0
  obtain ⟨A', c', hv, hd, hc⟩ := OwO.rd h
  injection hv with h1 h2 h3
  subst h1
  rcases hc with ⟨_, _, h4, _⟩ | ⟨g, _, h5, hb, _, cs, hcs, _, _, hx⟩
  · omega
  · refine ⟨g, h5, hb, cs, hcs, fun i hi => ⟨(L[i]!).a, ?_⟩⟩
    have := hx (i * 6) (by omega)
    rw [this]
    have h6 := flatO_get L i 0 hi (by omega)
    rw [Nat.add_zero] at h6
    rw [h6]; rfl
theorem Fil.cnt_ {w W : World} {b0 p n : Nat} {r : Option Nat} {A : Option Addr} {c : Nat} {L : List Oc} (h : Fil w b0 W p r A c L n) (tier why : Int) : Calls Try.prog 12 #[.pointer (some ⟨p, 0, none⟩), .int .i64 tier, .int .u8 why] W fun e w' => e = .returned (.int .i64 (cS L tier why : Int)) ∧ Below W.heap.size W w' := h.count_ tier why rfl
section
variable {w : World} {ops : Array Oper} {rest : List Oper} {o : Oper} {ac : Act} {Q : Exit → Act → World → Prop}
/-- One outcome more, in a walk, however many there are. -/
theorem wpList_ocb {t st : TypeId} (hinf : (Try.prog.info? t).map (fun i => (i.zero, i.size, i.bytes)) = some (some oc0.v, 6, 48)) (hun : Try.prog.underlying st = some (.slice t)) (hgd : o.guard = none) (s x : Operand)
    (ho : o.op = .call { callee := .builtin .append, args := #[s, x], argTypes := #[st, st] })
    {base g n : Nat} {v : Value} {F : Nat → Oc} {z : Oc} (hs : ac.eval s = v) (hx : ac.eval x = .slice (some ⟨g, 0, none⟩) 1 1) (hown : OwO t w base v (takeF F n)) (hz : F n = z) (hg : Blk w g t (ocRow z).toArray) (hl : (n + 1) * 48 ≤ 140737488355328) (hb : base ≤ w.heap.size)
    (h : ∀ A' c' w', OwO t w' base (.slice A' (n + 1) c') (takeF F (n + 1)) → w.grownBy w' v.ownBlock → wpList Try.prog ops Q rest (ac.put o.dst (.slice A' (n + 1) c')) w') : wpList Try.prog ops Q (o :: rest) ac w := by
  obtain ⟨i, hi, hz0, hz1, hz2⟩ := inf_of hinf
  refine wpList_append_own_at w hgd s x st ho base t i oc0.v 6 48 hun hi hz0 hz1 hz2 rfl (by decide) v (takeF F n).length (flatO (takeF F n)) hs hown ⟨g, 0, none⟩ 1 1 (ocRow z) hx rfl (fun j u hj => ?_) oc_one (by rw [takeF_len]; unfold maxLen; omega) (by rw [takeF_len]; exact hl) hb ?_
  · have e : (⟨g, 0, none⟩ : Addr).add j = ⟨g, j, none⟩ := by
      unfold Addr.add
      split
      · next h => rw [h]
      · simp
    rw [e, hg.at_, List.getElem?_toArray, hj]
  · intro v' w' h1 h2 _ h3
    have e : takeF F (n + 1) = takeF F n ++ [z] := by unfold takeF; rw [List.range_succ, List.map_append, ← hz]; rfl
    have h4 : OwO t w' base v' (takeF F (n + 1)) := by
      show w'.ownsRow base t 6 v' (takeF F (n + 1)).length (flatO (takeF F (n + 1)))
      rw [e, flatO_append, flatO_one, List.length_append]
      exact h1
    obtain ⟨A', c', hv, -, -⟩ := h4.rd
    rw [takeF_len] at hv
    subst hv
    exact h A' c' w' h4 h2
end
end Go.Proofs.Ytidkemgibehpcaa
