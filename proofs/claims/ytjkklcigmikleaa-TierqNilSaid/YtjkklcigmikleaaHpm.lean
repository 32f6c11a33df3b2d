/- The order of a heap's entries, and what rising and sinking keep of it; a heap's members. No program. -/
import Derived.Test.YtjkklcigmikleaaHpa
namespace Go.Proofs.Ytjkklcigmikleaa
set_option linter.unusedVariables false
/-- Does one come ahead of another? -/
def ltE (a b : En) : Prop := a.k < b.k ∨ (a.k = b.k ∧ (a.t < b.t ∨ (a.t = b.t ∧ a.m < b.m)))
theorem cmpE_neg (a b : En) : cmpE a b < 0 ↔ ltE a b := by
  unfold cmpE ltE or3 cmp3
  repeat' split
  all_goals omega
theorem ltE_irrefl (a : En) : ¬ ltE a a := by unfold ltE; omega
theorem ltE_trans {a b c : En} (h : ltE a b) (k : ltE b c) : ltE a c := by unfold ltE at *; omega
theorem ltE_asymm {a b : En} (h : ltE a b) : ¬ ltE b a := by unfold ltE at *; omega
theorem nlt_trans {a b c : En} (h : ¬ ltE a b) (k : ¬ ltE b c) : ¬ ltE a c := by unfold ltE at *; omega
theorem lt_nlt {a b c : En} (h : ¬ ltE a c) (k : ltE b c) : ¬ ltE a b := by unfold ltE at *; omega
theorem ltE_total {a b : En} (h : a.m ≠ b.m) (k : ¬ ltE a b) : ltE b a := by unfold ltE at *; omega
/-- Two have changed places. -/
def swE (E : Nat → En) (i j : Nat) : Nat → En := fun x => if x = j then E i else if x = i then E j else E x
theorem swE_i (E : Nat → En) (i j : Nat) : swE E i j i = E j := by unfold swE; split; rename_i h; rw [h]; simp
theorem swE_j (E : Nat → En) (i j : Nat) : swE E i j j = E i := by unfold swE; simp
theorem swE_x (E : Nat → En) {i j x : Nat} (h : x ≠ i) (k : x ≠ j) : swE E i j x = E x := by unfold swE; rw [if_neg k, if_neg h]
section
variable {m n : Nat} {E : Nat → En}
def Ord (m : Nat) (E : Nat → En) : Prop := ∀ k, 0 < k → k < m → ¬ ltE (E k) (E ((k - 1) / 2))
/-- The children of q don't come ahead of q's parent. -/
def OrdPast (m : Nat) (E : Nat → En) (q : Nat) : Prop := ∀ k, 0 < k → k < m → (k - 1) / 2 = q → 0 < q → ¬ ltE (E k) (E ((q - 1) / 2))
structure OrdBut (m : Nat) (E : Nat → En) (q : Nat) : Prop where
  a : ∀ k, 0 < k → k < m → k ≠ q → ¬ ltE (E k) (E ((k - 1) / 2))
  b : OrdPast m E q
structure OrdTwo (m : Nat) (E : Nat → En) (q : Nat) : Prop where
  a : ∀ k, 0 < k → k < m → k ≠ q → (k - 1) / 2 ≠ q → ¬ ltE (E k) (E ((k - 1) / 2))
  b : OrdPast m E q
structure OrdDown (m : Nat) (E : Nat → En) (q : Nat) : Prop where
  a : ∀ k, 0 < k → k < m → (k - 1) / 2 ≠ q → ¬ ltE (E k) (E ((k - 1) / 2))
  b : OrdPast m E q
theorem OrdTwo.but {q : Nat} (h : OrdTwo m E q) (hq : 0 < q) (hl : ltE (E q) (E ((q - 1) / 2))) : OrdBut m E q :=
  ⟨fun k h0 hk hne => by
    by_cases hp : (k - 1) / 2 = q
    · rw [hp]; exact lt_nlt (h.b k h0 hk hp hq) hl
    · exact h.a k h0 hk hne hp, h.b⟩
theorem OrdBut.step {q : Nat} (h : OrdBut m E q) (hq : 0 < q) (hm : q < m) (hl : ltE (E q) (E ((q - 1) / 2))) : OrdBut m (swE E q ((q - 1) / 2)) ((q - 1) / 2) := by
  obtain ⟨r, hr⟩ : ∃ r, (q - 1) / 2 = r := ⟨_, rfl⟩
  have hrq : r < q := by omega
  rw [hr] at hl ⊢
  constructor
  · intro k h0 hk hne
    by_cases hkq : k = q
    · subst hkq
      rw [swE_i, hr, swE_j]
      exact ltE_asymm hl
    · rw [swE_x E hkq hne]
      by_cases hp : (k - 1) / 2 = q
      · rw [hp, swE_i]
        have := h.b k h0 hk hp hq
        rw [hr] at this
        exact this
      · by_cases hp2 : (k - 1) / 2 = r
        · rw [hp2, swE_j]
          have := h.a k h0 hk hkq
          rw [hp2] at this
          exact lt_nlt this hl
        · rw [swE_x E hp hp2]
          exact h.a k h0 hk hkq
  · intro k h0 hk hp hr0
    have hrr : (r - 1) / 2 ≠ q := by omega
    have hrr2 : (r - 1) / 2 ≠ r := by omega
    rw [swE_x E hrr hrr2]
    have hR := h.a r hr0 (by omega) (by omega)
    by_cases hkq : k = q
    · subst hkq; rw [swE_i]; exact hR
    · have hkr : k ≠ r := by omega
      rw [swE_x E hkq hkr]
      have := h.a k h0 hk hkq
      rw [hp] at this
      exact nlt_trans this hR
theorem OrdBut.ord {q : Nat} (h : OrdBut m E q) (hl : q = 0 ∨ ¬ ltE (E q) (E ((q - 1) / 2))) : Ord m E := by
  intro k h0 hk
  by_cases hkq : k = q
  · subst hkq; rcases hl with hl | hl; omega; exact hl
  · exact h.a k h0 hk hkq
theorem OrdTwo.down {q : Nat} (h : OrdTwo m E q) (hl : q = 0 ∨ ¬ ltE (E q) (E ((q - 1) / 2))) : OrdDown m E q :=
  ⟨fun k h0 hk hne => by
    by_cases hkq : k = q
    · subst hkq; rcases hl with hl | hl; omega; exact hl
    · exact h.a k h0 hk hkq hne, h.b⟩
theorem Ord.down (h : Ord m E) (q : Nat) : OrdDown m E q :=
  ⟨fun k h0 hk _ => h k h0 hk, fun k h0 hk hp hq => by
    have h1 := h k h0 hk
    rw [hp] at h1
    exact nlt_trans h1 (h q hq (by omega))⟩
theorem OrdDown.ord {q : Nat} (h : OrdDown m E q) (hl : ∀ k, 0 < k → k < m → (k - 1) / 2 = q → ¬ ltE (E k) (E q)) : Ord m E := by
  intro k h0 hk
  by_cases hp : (k - 1) / 2 = q
  · rw [hp]; exact hl k h0 hk hp
  · exact h.a k h0 hk hp
theorem OrdDown.step {q f : Nat} (h : OrdDown m E q) (hf : f < m) (hf0 : 0 < f) (hfp : (f - 1) / 2 = q) (hl : ltE (E f) (E q)) (hb : ∀ k, 0 < k → k < m → (k - 1) / 2 = q → ¬ ltE (E k) (E f)) : OrdDown m (swE E q f) f := by
  have hqf : q < f := by omega
  constructor
  · intro k h0 hk hne
    by_cases hkf : k = f
    · subst hkf; rw [swE_j, hfp, swE_i]; exact ltE_asymm hl
    · by_cases hkq : k = q
      · subst hkq
        rw [swE_i, swE_x E (by omega) (by omega)]
        exact h.b f hf0 hf hfp h0
      · rw [swE_x E hkq hkf]
        by_cases hp : (k - 1) / 2 = q
        · rw [hp, swE_i]; exact hb k h0 hk hp
        · rw [swE_x E hp hne]; exact h.a k h0 hk hp
  · intro k h0 hk hp hf0'
    rw [hfp, swE_i, swE_x E (by omega) (by omega)]
    have := h.a k h0 hk (by omega)
    rw [hp] at this
    exact this
theorem OrdDown.all {q : Nat} (h : OrdDown m E q) (hq : m ≤ 2 * q + 1) : Ord m E := h.ord fun k h0 hk hp => by omega
/-- One who comes in as the last. -/
theorem Ord.push (h : Ord m E) (e : En) : OrdTwo (m + 1) (fun x => if x = m then e else E x) m :=
  ⟨fun k h0 hk hne hp => by
    show ¬ ltE (if k = m then e else E k) (if (k - 1) / 2 = m then e else E ((k - 1) / 2))
    rw [if_neg hne, if_neg (by omega)]; exact h k h0 (by omega), fun k h0 hk hp hm => by omega⟩
/-- The last one in the place of one who goes. -/
theorem Ord.gap {q : Nat} (h : Ord (m + 1) E) (hq : q < m) : OrdTwo m (swE E q m) q :=
  ⟨fun k h0 hk hne hp => by rw [swE_x E hne (by omega), swE_x E hp (by omega)]; exact h k h0 (by omega), fun k h0 hk hp hq0 => by
    rw [swE_x E (by omega) (by omega), swE_x E (by omega) (by omega)]
    have h1 := h k h0 (by omega)
    rw [hp] at h1
    exact nlt_trans h1 (h q hq0 (by omega))⟩
theorem Ord.cut (h : Ord (m + 1) E) : Ord m E := fun k h0 hk => h k h0 (by omega)
theorem Ord.same {E' : Nat → En} (h : Ord m E) (he : ∀ k, k < m → E' k = E k) : Ord m E' := fun k h0 hk => by rw [he k hk, he _ (by omega)]; exact h k h0 hk
/-- The first one comes behind none. -/
theorem Ord.first (h : Ord m E) : ∀ k, k < m → ¬ ltE (E k) (E 0) := by
  intro k
  induction k using Nat.strongRecOn with
  | ind k ih =>
    intro hk
    by_cases h0 : k = 0
    · subst h0; exact ltE_irrefl _
    · exact nlt_trans (h k (by omega) hk) (ih ((k - 1) / 2) (by omega) (by omega))
/-- Who is in a heap of room n: the tree's entries, their members' places, the members' keys and ties. -/
structure Links (n m : Nat) (E : Nat → En) (P : Nat → Int) (F : Nat → Option (Int × Int)) : Prop where
  tom : ∀ k, k < m → ∃ i : Nat, i < n ∧ (E k).m = i ∧ P i = (k : Int) ∧ F i = some ((E k).k, (E k).t)
  fro : ∀ i, i < n → (P i = -1 ∧ F i = none) ∨ ∃ k : Nat, k < m ∧ P i = (k : Int) ∧ (E k).m = (i : Int)
variable {P : Nat → Int} {F : Nat → Option (Int × Int)}
theorem Links.mem (h : Links n m E P F) : ∀ k, k < m → 0 ≤ (E k).m ∧ (E k).m < (n : Int) := fun k hk => by
  obtain ⟨i, hi, he, _⟩ := h.tom k hk
  rw [he]; omega
theorem Links.one (h : Links n m E P F) {i k : Nat} (hi : i < m) (hk : k < m) (he : (E i).m = (E k).m) : i = k := by
  obtain ⟨a, ha, ea, pa, _⟩ := h.tom i hi
  obtain ⟨b, hb, eb, pb, _⟩ := h.tom k hk
  have : a = b := by omega
  subst this
  omega
theorem Links.get (h : Links n m E P F) {i : Nat} {kt : Int × Int} (hi : i < n) (hF : F i = some kt) : ∃ k : Nat, k < m ∧ P i = (k : Int) ∧ E k = ⟨kt.1, kt.2, i⟩ := by
  rcases h.fro i hi with ⟨_, h0⟩ | ⟨k, hk, hp, he⟩
  · rw [hF] at h0; cases h0
  · obtain ⟨j, hj, ej, pj, fj⟩ := h.tom k hk
    have : j = i := by omega
    subst this
    rw [hF] at fj
    injection fj with fj
    subst fj
    refine ⟨k, hk, hp, ?_⟩
    obtain ⟨a, b, c⟩ : ∃ a b, E k = ⟨a, b, j⟩ := by
      refine ⟨(E k).k, (E k).t, ?_⟩
      rw [← he]
    rw [c]
theorem Links.none_ (h : Links n m E P F) {i : Nat} (hi : i < n) : F i = none ↔ P i = -1 := by
  rcases h.fro i hi with ⟨h1, h2⟩ | ⟨k, hk, hp, he⟩
  · exact ⟨fun _ => h1, fun _ => h2⟩
  · constructor
    · intro hn
      obtain ⟨j, hj, ej, pj, fj⟩ := h.tom k hk
      have : j = i := by omega
      subst this
      rw [hn] at fj; cases fj
    · intro hn; omega
theorem Links.swap (h : Links n m E P F) {i j : Nat} (hi : i < m) (hj : j < m) : Links n m (swE E i j) (fun x => if (x : Int) = (E i).m then (j : Int) else if (x : Int) = (E j).m then (i : Int) else P x) F := by
  obtain ⟨a, ha, ea, pa, fa⟩ := h.tom i hi
  obtain ⟨b, hb, eb, pb, fb⟩ := h.tom j hj
  constructor
  · intro k hk
    by_cases hkj : k = j
    · subst hkj
      rw [swE_j]
      exact ⟨a, ha, ea, by show (if (a : Int) = _ then _ else _) = _; rw [if_pos ea.symm], fa⟩
    · by_cases hki : k = i
      · subst hki
        rw [swE_i]
        refine ⟨b, hb, eb, ?_, fb⟩
        show (if (b : Int) = _ then _ else if (b : Int) = _ then _ else _) = _
        rw [if_neg (by intro e; have : a = b := by omega
                       subst this; omega), if_pos eb.symm]
      · rw [swE_x E hki hkj]
        obtain ⟨c, hc, ec, pc, fc⟩ := h.tom k hk
        refine ⟨c, hc, ec, ?_, fc⟩
        show (if (c : Int) = _ then _ else if (c : Int) = _ then _ else _) = _
        rw [if_neg (by intro e; have : a = c := by omega
                       subst this; omega), if_neg (by intro e; have : b = c := by omega
                                                      subst this; omega)]
        exact pc
  · intro x hx
    rcases h.fro x hx with ⟨h1, h2⟩ | ⟨k, hk, hp, he⟩
    · refine .inl ⟨?_, h2⟩
      show (if (x : Int) = _ then _ else if (x : Int) = _ then _ else _) = _
      rw [if_neg (by intro e; have : a = x := by omega
                     subst this; omega), if_neg (by intro e; have : b = x := by omega
                                                    subst this; omega)]
      exact h1
    · refine .inr ?_
      by_cases hxi : (x : Int) = (E i).m
      · refine ⟨j, hj, ?_, by rw [swE_j]; exact hxi.symm⟩
        show (if (x : Int) = _ then _ else _) = _
        rw [if_pos hxi]
      · by_cases hxj : (x : Int) = (E j).m
        · refine ⟨i, hi, ?_, by rw [swE_i]; exact hxj.symm⟩
          show (if (x : Int) = _ then _ else if (x : Int) = _ then _ else _) = _
          rw [if_neg hxi, if_pos hxj]
        · have hki : k ≠ i := by intro e; subst e; exact hxi he.symm
          have hkj : k ≠ j := by intro e; subst e; exact hxj he.symm
          refine ⟨k, hk, ?_, by rw [swE_x E hki hkj]; exact he⟩
          show (if (x : Int) = _ then _ else if (x : Int) = _ then _ else _) = _
          rw [if_neg hxi, if_neg hxj]
          exact hp
theorem Links.push (h : Links n m E P F) {i : Nat} (hi : i < n) (hF : F i = none) (k t : Int) : Links n (m + 1) (fun x => if x = m then ⟨k, t, i⟩ else E x) (fun x => if x = i then (m : Int) else P x) (fun x => if x = i then some (k, t) else F x) := by
  constructor
  · intro q hq
    by_cases hqm : q = m
    · subst hqm
      refine ⟨i, hi, ?_, ?_, ?_⟩ <;> simp
    · obtain ⟨j, hj, ej, pj, fj⟩ := h.tom q (by omega)
      have hji : j ≠ i := by intro e; subst e; rw [hF] at fj; cases fj
      exact ⟨j, hj, by show (if q = m then _ else E q).m = _; rw [if_neg hqm]; exact ej, by show (if j = i then _ else P j) = _; rw [if_neg hji]; exact pj, by show (if j = i then _ else F j) = some ((if q = m then _ else E q).k, (if q = m then _ else E q).t); rw [if_neg hji, if_neg hqm]; exact fj⟩
  · intro x hx
    by_cases hxi : x = i
    · subst hxi
      exact .inr ⟨m, by omega, by simp, by simp⟩
    · rcases h.fro x hx with ⟨h1, h2⟩ | ⟨q, hq, hp, he⟩
      · exact .inl ⟨by show (if x = i then _ else P x) = _; rw [if_neg hxi]; exact h1, by show (if x = i then _ else F x) = _; rw [if_neg hxi]; exact h2⟩
      · exact .inr ⟨q, by omega, by show (if x = i then _ else P x) = _; rw [if_neg hxi]; exact hp, by show (if q = m then _ else E q).m = _; rw [if_neg (by omega)]; exact he⟩
/-- The last one goes. -/
theorem Links.pop (h : Links n (m + 1) E P F) {i : Nat} (hi : i < n) (hP : P i = (m : Int)) : Links n m E (fun x => if x = i then -1 else P x) (fun x => if x = i then none else F x) := by
  constructor
  · intro q hq
    obtain ⟨j, hj, ej, pj, fj⟩ := h.tom q (by omega)
    have hji : j ≠ i := by intro e; subst e; omega
    exact ⟨j, hj, ej, by show (if j = i then _ else P j) = _; rw [if_neg hji]; exact pj, by show (if j = i then _ else F j) = _; rw [if_neg hji]; exact fj⟩
  · intro x hx
    by_cases hxi : x = i
    · subst hxi
      exact .inl ⟨by simp, by simp⟩
    · rcases h.fro x hx with ⟨h1, h2⟩ | ⟨q, hq, hp, he⟩
      · exact .inl ⟨by show (if x = i then _ else P x) = _; rw [if_neg hxi]; exact h1, by show (if x = i then _ else F x) = _; rw [if_neg hxi]; exact h2⟩
      · have hqm : q ≠ m := by
          intro e; subst e
          obtain ⟨j, hj, ej, pj, fj⟩ := h.tom q hq
          have : j = x := by omega
          subst this
          rcases h.fro i hi with ⟨h1, _⟩ | ⟨r, hr, hpr, her⟩
          · omega
          · have : r = q := by omega
            subst this
            omega
        exact .inr ⟨q, by omega, by show (if x = i then _ else P x) = _; rw [if_neg hxi]; exact hp, he⟩
theorem Links.len (h : Links n m E P F) (hF : ∀ i, i < n → F i = none) : m = 0 := by
  rcases Nat.eq_zero_or_pos m with h0 | h0
  · exact h0
  · obtain ⟨i, hi, _, _, fi⟩ := h.tom 0 h0
    rw [hF i hi] at fi; cases fi
end
end Go.Proofs.Ytjkklcigmikleaa
