/- A region that draws its order, whose operations all leave what S alone decides, and keep S: each is looked at ONCE, with all slots as they are at the end. -/
import Derived.Test.YtbenpnecjmpcbaaUnj
namespace Go.Proofs.Ytbenpnecjmpcbaa
open Go Go.RowKit
set_option linter.unusedVariables false
set_option linter.unusedSimpArgs false
/-- Each operation waits for all whose slots it looks at; and for none behind it. -/
def fitsB (md : Region.Mode) (ops : Array Oper) : Bool :=
  Region.noSelect ops && (List.range ops.size).all fun j => match ops[j]? with
    | none => true
    | some oj => oj.dst.isSome && (oj.after.all fun e => !Region.binds md e || decide (e.on < j)) && (List.range ops.size).all fun i => match ops[i]? with
        | none => true
        | some oi => (match oi.dst with | none => true | some d => !(oj.looksAt ops).contains d) || oj.after.any (fun e => Region.binds md e && e.on == i)
theorem fitsB_spec {md : Region.Mode} {ops : Array Oper} (h : fitsB md ops = true) : Region.noSelect ops = true ∧ ∀ j oj, ops[j]? = some oj → (∃ d, oj.dst = some d) ∧ (∀ e ∈ oj.after, Region.binds md e = true → e.on < j) ∧
    ∀ i oi d, ops[i]? = some oi → oi.dst = some d → d ∈ oj.looksAt ops → ∃ e ∈ oj.after, Region.binds md e = true ∧ e.on = i := by
  unfold fitsB at h
  rw [Bool.and_eq_true] at h
  refine ⟨h.1, fun j oj hj => ?_⟩
  have hlt : j < ops.size := (Array.getElem?_eq_some_iff.1 hj).1
  have h2 := List.all_eq_true.1 h.2 j (List.mem_range.2 hlt)
  rw [hj] at h2
  simp only [Bool.and_eq_true] at h2
  obtain ⟨⟨h3, h4⟩, h5⟩ := h2
  refine ⟨Option.isSome_iff_exists.1 h3, fun e he hb => ?_, fun i oi d hi hd hm => ?_⟩
  · have := Array.all_eq_true_iff_forall_mem.1 h4 e he
    simp only [hb, Bool.not_true, Bool.false_or, decide_eq_true_eq] at this
    exact this
  · have hil : i < ops.size := (Array.getElem?_eq_some_iff.1 hi).1
    have h6 := List.all_eq_true.1 h5 i (List.mem_range.2 hil)
    rw [hi] at h6
    simp only [hd, Bool.or_eq_true] at h6
    rcases h6 with h6 | h6
    · simp at h6
      exact absurd hm h6
    · rw [← Array.any_toList, List.any_eq_true] at h6
      obtain ⟨e, he, h7⟩ := h6
      simp only [Bool.and_eq_true, beq_iff_eq] at h7
      exact ⟨e, by simpa using he, h7.1, h7.2⟩
def cntF (l : Array Bool) : Nat → Nat
  | 0 => 0
  | n + 1 => cntF l n + (if l.getD n true = true then 0 else 1)
theorem getD_set_true (l : Array Bool) (j i : Nat) : (l.setIfInBounds j true).getD i true = if i = j then true else l.getD i true := by
  by_cases e : i = j
  · subst e
    rw [if_pos rfl]
    rcases Nat.lt_or_ge i l.size with d | d
    · simp [d]
    · simp [Array.getElem?_eq_none, d]
  · rw [if_neg e]
    exact getD_set_ne true (fun c => e c.symm)
theorem cntF_set {l : Array Bool} {j : Nat} (hj : l.getD j true = false) : ∀ n, (n ≤ j → cntF (l.setIfInBounds j true) n = cntF l n) ∧ (j < n → cntF (l.setIfInBounds j true) n + 1 = cntF l n)
  | 0 => ⟨fun _ => rfl, fun h => absurd h (by omega)⟩
  | n + 1 => by
    have ih := cntF_set hj n
    refine ⟨fun h => ?_, fun h => ?_⟩
    · show cntF _ n + _ = cntF l n + _
      rw [ih.1 (by omega), getD_set_true, if_neg (show ¬ n = j by omega)]
    · show cntF _ n + _ + 1 = cntF l n + _
      rw [getD_set_true]
      by_cases e : n = j
      · rw [if_pos e, ih.1 (by omega), e, hj]
        simp
      · rw [if_neg e]
        have := ih.2 (by omega)
        omega
theorem cntF_zero {l : Array Bool} : ∀ n, cntF l n = 0 → ∀ i, i < n → l.getD i true = true
  | 0, _, i, h => absurd h (by omega)
  | n + 1, h, i, hi => by
    have h' : cntF l n + (if l.getD n true = true then 0 else 1) = 0 := h
    by_cases e : i = n
    · subst e
      by_cases c : l.getD i true = true
      · exact c
      · rw [if_neg c] at h'
        omega
    · exact cntF_zero n (by omega) i (by omega)
section
variable {P : Program} {ops : Array Oper} {Q : Exit → Act → World → Prop} {md : Region.Mode} {S : World → Prop} {F : Act}
/-- So far: all that is listed lies as it will at the end. -/
structure SoFar (ops : Array Oper) (F : Act) (l : Array Bool) (a : Act) : Prop where
  d : a.defers = F.defers
  s : a.tmps.size = F.tmps.size
  v : ∀ t, (∀ i o, ops[i]? = some o → l.getD i true = false → o.dst ≠ some t) → a.tmps[t]? = F.tmps[t]?
theorem SoFar.exec {l : Array Bool} {a : Act} (h : SoFar ops F l a) {o : Oper} (hs : ∀ cs b, o.op ≠ .select cs b) (hl : ∀ i oi d, ops[i]? = some oi → oi.dst = some d → d ∈ o.looksAt ops → l.getD i true = true) :
    execOp a.eval o = execOp F.eval o ∧ Region.wanted o (yielded ops a.tmps) = Region.wanted o (yielded ops F.tmps) := by
  have e : ∀ t, t ∈ o.looksAt ops → a.tmps[t]? = F.tmps[t]? := fun t ht => h.v t fun i oi hi h0 hd => by
    rw [hl i oi t hi hd ht] at h0
    cases h0
  refine ⟨execOp_congr o hs fun x hx => ?_, ?_⟩
  · cases x with
    | tmp t =>
      have := e t (List.mem_append_left _ (List.mem_filterMap.2 ⟨.tmp t, by simpa using hx, rfl⟩))
      show a.tmps.getD t undef = F.tmps.getD t undef
      rw [Array.getD_eq_getD_getElem?, Array.getD_eq_getD_getElem?, this]
    | const _ => rfl
    | global _ => rfl
    | func _ => rfl
  · unfold Region.wanted
    cases hg : o.guard with
    | none => rfl
    | some gw =>
      obtain ⟨g, want⟩ := gw
      have hy : yielded ops a.tmps g = yielded ops F.tmps g := by
        unfold yielded
        cases ht : (ops[g]?).bind (·.dst) with
        | none => rfl
        | some t =>
          have := e t (by simp [Oper.looksAt, hg, ht])
          show (match a.tmps[t]? with | some (.bool b) => some b | _ => none) = (match F.tmps[t]? with | some (.bool b) => some b | _ => none)
          rw [this]
      simp only [hy]
theorem SoFar.put {l : Array Bool} {a : Act} (h : SoFar ops F l a) {j d : Nat} {o : Oper} (hj : ops[j]? = some o) (hd : o.dst = some d) {v : Value} (hv : F.tmps[d]? = some v) : SoFar ops F (l.setIfInBounds j true) (a.put o.dst v) := by
  rw [hd]
  refine ⟨h.d, by show (a.tmps.setIfInBounds d v).size = _; rw [Array.size_setIfInBounds]; exact h.s, fun t ht => ?_⟩
  show (a.tmps.setIfInBounds d v)[t]? = _
  by_cases e : d = t
  · subst e
    have : d < a.tmps.size := by rw [h.s]; exact (Array.getElem?_eq_some_iff.1 hv).1
    rw [hv]
    simp [this]
  · rw [Array.getElem?_setIfInBounds_ne e]
    refine h.v t fun i oi hi h0 hdi => ?_
    by_cases c : i = j
    · subst c
      rw [hj] at hi
      cases hi
      rw [hd] at hdi
      exact e (Option.some.inj hdi)
    · refine ht i oi hi ?_ hdi
      rw [getD_set_true, if_neg c]
      exact h0
theorem SoFar.done {l : Array Bool} {a : Act} (h : SoFar ops F l a) (hl : ∀ i, i < ops.size → l.getD i true = true) : a = F := by
  have e : a.tmps = F.tmps := by
    refine Array.ext h.s fun t h1 h2 => ?_
    have := h.v t fun i o hi h0 => by
      rw [hl i (Array.getElem?_eq_some_iff.1 hi).1] at h0
      cases h0
    rw [Array.getElem?_eq_getElem h1, Array.getElem?_eq_getElem h2] at this
    exact Option.some.inj this
  obtain ⟨t1, d1⟩ := a
  obtain ⟨t2, d2⟩ := F
  have e' : t1 = t2 := e
  have d' : d1 = d2 := h.d
  subst e' d'
  rfl
/-- Every operation of a list, at the end's slots. -/
def AllY (P : Program) (ops : Array Oper) (S : World → Prop) (F : Act) : List Oper → Prop
  | [] => True
  | o :: os => YieldsS P ops S o (F.tmps.getD (o.dst.getD 0) undef) F ∧ AllY P ops S F os
theorem AllY.get {os : List Oper} (h : AllY P ops S F os) {o : Oper} (hm : o ∈ os) : YieldsS P ops S o (F.tmps.getD (o.dst.getD 0) undef) F := by
  induction os with
  | nil => cases hm
  | cons x os ih =>
    have h1 : YieldsS P ops S x (F.tmps.getD (x.dst.getD 0) undef) F := h.1
    have h2 : AllY P ops S F os := h.2
    cases hm with
    | head => exact h1
    | tail _ hm => exact ih h2 hm
theorem any_all (hfit : fitsB md ops = true) (hin : ∀ (i : Nat) (o : Oper) (d : Nat), ops[i]? = some o → o.dst = some d → d < F.tmps.size) (hy : AllY P ops S F ops.toList) (hQ : ∀ w, S w → Q .normal F w) :
    ∀ (f : Nat) (l : Array Bool) (a : Act) (w : World), l.size = ops.size → cntF l ops.size ≤ f → SoFar ops F l a → S w → wpAny P md ops Q f l a w := by
  obtain ⟨hsel, hops⟩ := fitsB_spec hfit
  have full : ∀ (l : Array Bool), l.size = ops.size → Region.ready md ops l = [] → ∀ i, i < ops.size → l.getD i true = true := by
    intro l hsz hr i
    induction i using Nat.strongRecOn with
    | _ i ih =>
      intro hi
      rcases hb : l.getD i true with _ | _
      · exfalso
        obtain ⟨o, ho⟩ : ∃ o, ops[i]? = some o := ⟨_, Array.getElem?_eq_getElem hi⟩
        obtain ⟨-, h2, -⟩ := hops i o ho
        have hm : i ∈ Region.ready md ops l := mem_ready.2 ⟨hb, o, ho, fun e he hbe => by
          have h3 := h2 e he hbe
          have h4 := ih e.on h3 (by omega)
          rw [Array.getD_eq_getD_getElem?, Array.getElem?_eq_getElem (by omega)] at h4 ⊢
          exact h4⟩
        rw [hr] at hm
        cases hm
      · rfl
  intro f
  induction f with
  | zero =>
    intro l a w hsz hc h hS
    have hall := cntF_zero ops.size (Nat.le_zero.1 hc)
    have : Region.ready md ops l = [] := by
      rcases hR : Region.ready md ops l with _ | ⟨i, r⟩
      · rfl
      · exfalso
        have hm : i ∈ Region.ready md ops l := by rw [hR]; exact List.mem_cons_self
        obtain ⟨h0, o, ho, -⟩ := mem_ready.1 hm
        rw [hall i (Array.getElem?_eq_some_iff.1 ho).1] at h0
        cases h0
    rw [h.done hall]
    exact ⟨this, hQ w hS⟩
  | succ f ih =>
    intro l a w hsz hc h hS
    refine ⟨fun hr => ?_, fun i hi => ?_⟩
    · rw [h.done (full l hsz hr)]
      exact hQ w hS
    · obtain ⟨h0, o, ho, hall⟩ := mem_ready.1 hi
      obtain ⟨⟨d, hd⟩, h2, h3⟩ := hops i o ho
      have hil := (Array.getElem?_eq_some_iff.1 ho).1
      have hse := Region.noSelect_spec hsel
      obtain ⟨x1, x2⟩ := h.exec (o := o) (fun cs b => hse i o cs b ho) (fun k ok dk hk hdk hm => by
        obtain ⟨e, he, hbe, hon⟩ := h3 k ok dk hk hdk hm
        have h4 := hall e he hbe
        rw [hon] at h4
        have hkl := (Array.getElem?_eq_some_iff.1 hk).1
        rw [Array.getD_eq_getD_getElem?, Array.getElem?_eq_getElem (by omega)] at h4 ⊢
        exact h4)
      have hyo := hy.get (o := o) (by
        have := Array.getElem?_eq_some_iff.1 ho
        obtain ⟨hlt, hg⟩ := this
        rw [← hg, ← Array.getElem_toList]
        exact List.getElem_mem _)
      rw [hd] at hyo
      have hdl := hin i o d ho hd
      have hv : F.tmps[d]? = some (F.tmps.getD d undef) := by
        rw [Array.getElem?_eq_getElem hdl, Array.getD_eq_getD_getElem?, Array.getElem?_eq_getElem hdl]
        rfl
      refine (hyo.same x1 x2).wpOp ho hS fun w' hS' _ => ?_
      exact ih _ _ w' (by rw [Array.size_setIfInBounds]; exact hsz) (by have := (cntF_set h0 ops.size).2 hil; omega) (h.put ho hd hv) hS'
/-- The slots at the end: what is new, slot by slot. -/
def overL : List (Option Value) → List Value → List Value
  | some v :: os, _ :: xs => v :: overL os xs
  | none :: os, x :: xs => x :: overL os xs
  | [], xs => xs
  | _ :: _, [] => []
theorem overL_len : ∀ (os : List (Option Value)) (xs : List Value), (overL os xs).length = xs.length
  | some _ :: os, _ :: xs => by show (_ :: overL os xs).length = _; rw [List.length_cons, overL_len os xs, List.length_cons]
  | none :: os, _ :: xs => by show (_ :: overL os xs).length = _; rw [List.length_cons, overL_len os xs, List.length_cons]
  | [], _ => rfl
  | some _ :: _, [] => rfl
  | none :: _, [] => rfl
theorem overL_far : ∀ (os : List (Option Value)) (xs : List Value) (k : Nat), (∀ v, os[k]? ≠ some (some v)) → (overL os xs)[k]? = xs[k]?
  | some v :: os, x :: xs, k, h => by
    show (v :: overL os xs)[k]? = _
    cases k with
    | zero => exact absurd rfl (h v)
    | succ k =>
      rw [List.getElem?_cons_succ, List.getElem?_cons_succ]
      exact overL_far os xs k fun u hu => h u (by rw [List.getElem?_cons_succ]; exact hu)
  | none :: os, x :: xs, k, h => by
    show (x :: overL os xs)[k]? = _
    cases k with
    | zero => rfl
    | succ k =>
      rw [List.getElem?_cons_succ, List.getElem?_cons_succ]
      exact overL_far os xs k fun u hu => h u (by rw [List.getElem?_cons_succ]; exact hu)
  | [], _, _, _ => rfl
  | some _ :: _, [], _, _ => rfl
  | none :: _, [], _, _ => rfl
/-- Each new slot is an operation's. -/
def newB (ops : Array Oper) : List (Option Value) → Nat → Bool
  | [], _ => true
  | none :: os, n => newB ops os (n + 1)
  | some _ :: os, n => (ops.toList.any fun o => o.dst == some n) && newB ops os (n + 1)
theorem newB_spec {ops : Array Oper} : ∀ (os : List (Option Value)) (n : Nat), newB ops os n = true → ∀ k v, os[k]? = some (some v) → ∃ o ∈ ops.toList, o.dst = some (n + k)
  | [], _, _, k, v, h => by cases h
  | none :: os, n, hb, k, v, h => by
    cases k with
    | zero => cases h
    | succ k =>
      obtain ⟨o, h1, h2⟩ := newB_spec os (n + 1) hb k v (by rw [List.getElem?_cons_succ] at h; exact h)
      exact ⟨o, h1, by rw [h2]; congr 1; omega⟩
  | some u :: os, n, hb, k, v, h => by
    have hb' : ((ops.toList.any fun o => o.dst == some n) && newB ops os (n + 1)) = true := hb
    rw [Bool.and_eq_true] at hb'
    cases k with
    | zero =>
      obtain ⟨o, ho, hd⟩ := List.any_eq_true.1 hb'.1
      exact ⟨o, ho, by simpa using hd⟩
    | succ k =>
      obtain ⟨o, h1, h2⟩ := newB_spec os (n + 1) hb'.2 k v (by rw [List.getElem?_cons_succ] at h; exact h)
      exact ⟨o, h1, by rw [h2]; congr 1; omega⟩
/-- The region at once. -/
theorem wp_region_all (ps : List (Option Value)) (S : World → Prop) {id : Nat} {tm : List Value} {df : List Deferred} {w : World} (hm : P.follows .mixedOrders = true) (hfit : fitsB .any ops = true)
    (hps : newB ops ps 0 = true) (hin : (ops.toList.all fun o => match o.dst with | some d => decide (d < tm.length) | none => true) = true) (hS : S w.drew)
    (F : List Value) (hF : overL ps tm = F)
    (h : AllY P ops S ⟨F.toArray, df⟩ ops.toList ∧ ∀ w', S w' → Q .normal ⟨F.toArray, df⟩ w') : (Code.region id ops true).wp P Q ⟨tm.toArray, df⟩ w := by
  have hlen : F.length = tm.length := by rw [← hF]; exact overL_len _ _
  refine wp_region_any hm (any_all (S := S) (F := ⟨F.toArray, df⟩) hfit (fun i o d hi hd => ?_) h.1 h.2 ops.size _ _ _ (by simp) ?_ ⟨rfl, by simp [hlen], fun t ht => ?_⟩ hS)
  · have hmem : o ∈ ops.toList := by
      obtain ⟨hlt, hg⟩ := Array.getElem?_eq_some_iff.1 hi
      rw [← hg, ← Array.getElem_toList]
      exact List.getElem_mem _
    have := List.all_eq_true.1 hin o hmem
    rw [hd] at this
    simp only [decide_eq_true_eq] at this
    simpa [hlen] using this
  · have : ∀ n, n ≤ ops.size → cntF (Array.replicate ops.size false) n = n := by
      intro n
      induction n with
      | zero => intro _; rfl
      | succ n ih =>
        intro hn
        show cntF _ n + _ = _
        rw [ih (by omega), Array.getD_eq_getD_getElem?, Array.getElem?_eq_getElem (by simp; omega)]
        simp
    rw [this _ (Nat.le_refl _)]
    exact Nat.le_refl _
  · show tm.toArray[t]? = F.toArray[t]?
    rw [List.getElem?_toArray, List.getElem?_toArray, ← hF, overL_far ps tm t fun v hv => ?_]
    obtain ⟨o, ho, hd⟩ := newB_spec ps 0 hps t v hv
    obtain ⟨i, hlt, hg⟩ := List.mem_iff_getElem.1 ho
    refine ht i o ?_ ?_ (by rw [hd, Nat.zero_add])
    · rw [Array.getElem?_eq_getElem (by simpa using hlt), ← hg, Array.getElem_toList]
    · rw [Array.getD_eq_getD_getElem?, Array.getElem?_eq_getElem (by simpa using hlt)]
      simp
end
end Go.Proofs.Ytbenpnecjmpcbaa
