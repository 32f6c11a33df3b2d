/- A region that draws its order, of which one condition S on the world holds till one of the operations bs (its stores) comes up: what yields in every world that meets S, and for which all of bs wait, may be taken first. -/
import Derived.Test.YtbenpnecjmpcbaaBlk
import Derived.OrdersHeld
import Derived.RegionTactic
import Derived.Deep.AppendLies
namespace Go.Proofs.Ytbenpnecjmpcbaa
open Go
set_option linter.unusedVariables false
section
variable {P : Program} {ops : Array Oper} {Q : Exit → Act → World → Prop} {md : Region.Mode} {S : World → Prop} {bs : List Nat}
/-- None of the operations bs has come up yet. -/
def ahead (bs : List Nat) (l : Array Bool) : Bool := bs.all fun s => !l.getD s true
/-- What has come up had nothing left to wait for. -/
def Shut (md : Region.Mode) (ops : Array Oper) (l : Array Bool) : Prop := ∀ j o, ops[j]? = some o → l.getD j true = true → ∀ e ∈ o.after, Region.binds md e = true → l.getD e.on false = true
/-- Does s wait for i, maybe by others? -/
def waitsFor (md : Region.Mode) (ops : Array Oper) : Nat → Nat → Nat → Bool
  | 0, _, _ => false
  | n + 1, s, i => match ops[s]? with
    | none => false
    | some o => o.after.any fun e => Region.binds md e && (e.on == i || waitsFor md ops n e.on i)
def anyB (P : Program) (md : Region.Mode) (ops : Array Oper) (Q : Exit → Act → World → Prop) (S : World → Prop) (bs : List Nat) : Nat → Array Bool → Act → World → Prop
  | 0, l, a, w => Region.ready md ops l = [] ∧ Q .normal a w
  | f + 1, l, a, w => (Region.ready md ops l = [] → Q .normal a w) ∧ ∀ i ∈ Region.ready md ops l, wpOp P ops Q i (fun a' w' => (ahead bs (l.setIfInBounds i true) = true → S w') ∧ anyB P md ops Q S bs f (l.setIfInBounds i true) a' w') a w
theorem any_of_B : ∀ (f : Nat) (l : Array Bool) (a : Act) (w : World), anyB P md ops Q S bs f l a w → wpAny P md ops Q f l a w
  | 0, _, _, _, h => h
  | f + 1, _, _, _, h => ⟨h.1, fun i hi => wpOp_mono (fun _ _ h' => any_of_B f _ _ _ h'.2) (h.2 i hi)⟩
theorem shutUp_ {l : Array Bool} {i : Nat} (h : l.getD i false = true) : l.getD i true = true := by
  rcases Nat.lt_or_ge i l.size with c | c
  · simp [c] at h ⊢; exact h
  · simp [Array.getElem?_eq_none c]
theorem Shut.none (n : Nat) (hn : n = ops.size) : Shut md ops (Array.replicate n false) := fun j o ho h => by
  have hj : j < n := by rw [hn]; exact (Array.getElem?_eq_some_iff.1 ho).1
  simp [hj] at h
theorem Shut.step {l : Array Bool} {j : Nat} (h : Shut md ops l) (hj : j ∈ Region.ready md ops l) : Shut md ops (l.setIfInBounds j true) := fun k o ho hk e he hb => by
  by_cases c : j = k
  · subst c
    obtain ⟨_, o', ho', hall⟩ := mem_ready.1 hj
    rw [ho] at ho'
    cases ho'
    exact getD_set_true (hall e he hb)
  · rw [getD_set_ne true c] at hk
    exact getD_set_true (h k o ho hk e he hb)
theorem Shut.waits {l : Array Bool} (h : Shut md ops l) : ∀ (n s i : Nat), waitsFor md ops n s i = true → l.getD s true = true → l.getD i true = true
  | 0, _, _, hw, _ => by simp [waitsFor] at hw
  | n + 1, s, i, hw, hs => by
    unfold waitsFor at hw
    cases ho : ops[s]? with
    | none => simp [ho] at hw
    | some o =>
      simp only [ho] at hw
      obtain ⟨e, he, hb⟩ := Array.any_eq_true'.1 hw
      simp only [Bool.and_eq_true, Bool.or_eq_true, beq_iff_eq] at hb
      have h1 := h s o ho hs e he hb.1
      rcases hb.2 with c | c
      · rw [← c]; exact shutUp_ h1
      · exact h.waits n e.on i c (shutUp_ h1)
theorem Shut.ahead {l : Array Bool} {n i : Nat} (h : Shut md ops l) (hb : (bs.all fun s => waitsFor md ops n s i) = true) (hi : l.getD i true = false) : ahead bs l = true := by
  unfold Go.Proofs.Ytbenpnecjmpcbaa.ahead
  rw [List.all_eq_true] at hb ⊢
  intro s hs
  cases c : l.getD s true with
  | false => rfl
  | true => rw [h.waits n s i (hb s hs) c] at hi; cases hi
theorem ahead_set {l : Array Bool} {i : Nat} (hn : bs.contains i = false) : ahead bs (l.setIfInBounds i true) = ahead bs l := by
  unfold ahead
  rw [Bool.eq_iff_iff, List.all_eq_true, List.all_eq_true]
  have hne : ∀ s ∈ bs, i ≠ s := fun s hs e => by subst e; simp [hs] at hn
  constructor <;> intro h s hs
  · have := h s hs; rw [getD_set_ne true (hne s hs)] at this; exact this
  · rw [getD_set_ne true (hne s hs)]; exact h s hs
theorem anyB_first {i n : Nat} {oi : Oper} {v : Value} (hi : ops[i]? = some oi) (hs : Region.noSelect ops = true) (hn : bs.contains i = false) (hb : (bs.all fun s => waitsFor md ops n s i) = true)
    (hQ : ∀ c a w, Q (.panic c) (a.put oi.dst v) w → Q (.panic c) a w) :
    ∀ (f : Nat) (l : Array Bool) (a : Act) (w : World),
      (∀ j oj, ops[j]? = some oj → j ≠ i → l.getD j true = false → (∀ e ∈ oj.after, Region.binds md e = true → e.on ≠ i) → oi.apart ops oj = true) →
      i ∈ Region.ready md ops l → Shut md ops l → YieldsIf P ops S oi v a → S w → anyB P md ops Q S bs f (l.setIfInBounds i true) (a.put oi.dst v) w → anyB P md ops Q S bs (f + 1) l a w := by
  intro f
  induction f with
  | zero =>
    intro l a w _ hr _ hy hS H
    refine ⟨fun h => (by rw [h] at hr; cases hr), fun j hj => ?_⟩
    rcases Decidable.em (j = i) with c | c
    · subst c; exact hy.wpOp hi hS ⟨fun _ => hS, H⟩
    · have hm := ready_mono hj c
      rw [H.1] at hm
      cases hm
  | succ f ih =>
    intro l a w hfree hr hl hy hS H
    refine ⟨fun h => (by rw [h] at hr; cases hr), fun j hj => ?_⟩
    rcases Decidable.em (j = i) with c | c
    · subst c; exact hy.wpOp hi hS ⟨fun _ => hS, H⟩
    have hri : i ∈ Region.ready md ops (l.setIfInBounds j true) := ready_mono hr (Ne.symm c)
    have hlj := hl.step hj
    obtain ⟨hju, oj, hoj, hall⟩ := mem_ready.1 hj
    have hi0 := (mem_ready.1 hr).1
    have hfr : ∀ e ∈ oj.after, Region.binds md e = true → e.on ≠ i := fun e he hbe heq => by
      have := shutUp_ (hall e he hbe)
      rw [heq, hi0] at this
      cases this
    have K := wpOp_putIf hoj (hfree j oj hoj c hju hfr) (Region.noSelect_spec hs i oi · · hi) (Region.noSelect_spec hs j oj · · hoj) hQ hy (H.2 j (ready_mono hj c))
    refine wpOp_mono (fun a' w' k => ?_) K
    obtain ⟨ky, ks, kr⟩ := k
    rw [Array.setIfInBounds_comm _ _ (Ne.symm c)] at ks kr
    have hS' : S w' := ks (by rw [ahead_set hn]; exact hlj.ahead hb (mem_ready.1 hri).1)
    refine ⟨fun _ => hS', ih _ a' w' (fun k ok hk hki hku hke => ?_) hri hlj ky hS' kr⟩
    refine hfree k ok hk hki ?_ hke
    rcases Decidable.em (j = k) with d | d
    · subst d; exact hju
    · rw [getD_set_ne true d] at hku; exact hku
/-- Number i first. -/
theorem anyB_take (n : Nat) {i : Nat} {oi : Oper} {v : Value} {f : Nat} {l : Array Bool} {a : Act} {w : World} (hi : ops[i]? = some oi) (hs : Region.noSelect ops = true) (hf : Region.free md ops l i = true)
    (hr : (Region.ready md ops l).contains i = true) (hn : bs.contains i = false) (hb : (bs.all fun s => waitsFor md ops n s i) = true) (hQ : ∀ c a w, Q (.panic c) (a.put oi.dst v) w → Q (.panic c) a w)
    (hl : Shut md ops l) (hS : S w) (hy : YieldsIf P ops S oi v a)
    (h : Shut md ops (l.setIfInBounds i true) → anyB P md ops Q S bs f (l.setIfInBounds i true) (a.put oi.dst v) w) : anyB P md ops Q S bs (f + 1) l a w :=
  anyB_first hi hs hn hb hQ f l a w (Region.free_spec hi hf) (by simpa using hr) hl hy hS (h (hl.step (by simpa using hr)))
theorem anyB_firstW {i : Nat} {oi : Oper} {v : Value} (hi : ops[i]? = some oi) (hs : Region.noSelect ops = true) (hn : bs.contains i = false)
    (hQ : ∀ c a w, Q (.panic c) (a.put oi.dst v) w → Q (.panic c) a w) :
    ∀ (f : Nat) (l : Array Bool) (a : Act) (w : World),
      (∀ j oj, ops[j]? = some oj → j ≠ i → l.getD j true = false → (∀ e ∈ oj.after, Region.binds md e = true → e.on ≠ i) → oi.apart ops oj = true) →
      i ∈ Region.ready md ops l → YieldsIf P ops (fun _ => True) oi v a → (ahead bs l = true → S w) → anyB P md ops Q S bs f (l.setIfInBounds i true) (a.put oi.dst v) w → anyB P md ops Q S bs (f + 1) l a w := by
  intro f
  induction f with
  | zero =>
    intro l a w _ hr hy hS H
    refine ⟨fun h => (by rw [h] at hr; cases hr), fun j hj => ?_⟩
    rcases Decidable.em (j = i) with c | c
    · subst c; exact hy.wpOp hi trivial ⟨fun h => hS (by rw [ahead_set hn] at h; exact h), H⟩
    · have hm := ready_mono hj c
      rw [H.1] at hm
      cases hm
  | succ f ih =>
    intro l a w hfree hr hy hS H
    refine ⟨fun h => (by rw [h] at hr; cases hr), fun j hj => ?_⟩
    rcases Decidable.em (j = i) with c | c
    · subst c; exact hy.wpOp hi trivial ⟨fun h => hS (by rw [ahead_set hn] at h; exact h), H⟩
    obtain ⟨hju, oj, hoj, hall⟩ := mem_ready.1 hj
    have hi0 := (mem_ready.1 hr).1
    have hfr : ∀ e ∈ oj.after, Region.binds md e = true → e.on ≠ i := fun e he hbe heq => by
      have := shutUp_ (hall e he hbe)
      rw [heq, hi0] at this
      cases this
    have K := wpOp_putIf hoj (hfree j oj hoj c hju hfr) (Region.noSelect_spec hs i oi · · hi) (Region.noSelect_spec hs j oj · · hoj) hQ hy (H.2 j (ready_mono hj c))
    refine wpOp_mono (fun a' w' k => ?_) K
    obtain ⟨ky, ks, kr⟩ := k
    rw [Array.setIfInBounds_comm _ _ (Ne.symm c)] at ks kr
    rw [ahead_set hn] at ks
    refine ⟨ks, ih _ a' w' (fun k ok hk hki hku hke => ?_) (ready_mono hr (Ne.symm c)) ky ks kr⟩
    refine hfree k ok hk hki ?_ hke
    rcases Decidable.em (j = k) with d | d
    · subst d; exact hju
    · rw [getD_set_ne true d] at hku; exact hku
/-- Number i first, which yields its value in whatever world: nothing of bs need wait for it. -/
theorem anyB_takeW {i : Nat} {oi : Oper} {v : Value} {f : Nat} {l : Array Bool} {a : Act} {w : World} (hi : ops[i]? = some oi) (hs : Region.noSelect ops = true) (hf : Region.free md ops l i = true)
    (hr : (Region.ready md ops l).contains i = true) (hn : bs.contains i = false) (hQ : ∀ c a w, Q (.panic c) (a.put oi.dst v) w → Q (.panic c) a w)
    (hl : Shut md ops l) (hS : ahead bs l = true → S w) (hy : YieldsIf P ops (fun _ => True) oi v a)
    (h : Shut md ops (l.setIfInBounds i true) → anyB P md ops Q S bs f (l.setIfInBounds i true) (a.put oi.dst v) w) : anyB P md ops Q S bs (f + 1) l a w :=
  anyB_firstW hi hs hn hQ f l a w (Region.free_spec hi hf) (by simpa using hr) hy hS (h (hl.step (by simpa using hr)))
theorem noS {l : Array Bool} {w : World} (h : ahead bs l = false) : ahead bs l = true → S w := fun c => by rw [h] at c; cases c
/-- Whichever comes up. -/
theorem anyB_all {rs : List Nat} {f : Nat} {l : Array Bool} {a : Act} {w : World} (hr : Region.ready md ops l = rs) (hne : rs ≠ [])
    (h : ∀ i ∈ rs, wpOp P ops Q i (fun a' w' => (ahead bs (l.setIfInBounds i true) = true → S w') ∧ anyB P md ops Q S bs f (l.setIfInBounds i true) a' w') a w) : anyB P md ops Q S bs (f + 1) l a w :=
  ⟨fun h0 => absurd (hr ▸ h0) hne, hr ▸ h⟩
theorem anyB_done {l : Array Bool} {a : Act} {w : World} (hr : Region.ready md ops l = []) (h : Q .normal a w) : ∀ f, anyB P md ops Q S bs f l a w
  | 0 => ⟨hr, h⟩
  | _ + 1 => ⟨fun _ => h, by rw [hr]; simp⟩
/-- The beginning. -/
theorem wp_region_B (S : World → Prop) (bs : List Nat) {id : Nat} {a : Act} {w : World} (hm : P.follows .mixedOrders = true)
    (h : Shut .any ops (Array.replicate ops.size false) → anyB P .any ops Q S bs ops.size (Array.replicate ops.size false) a w.drew) : (Code.region id ops true).wp P Q a w :=
  wp_region_any hm (any_of_B _ _ _ _ (h (Shut.none _ rfl)))
theorem anyB_each {rs : List Nat} {f : Nat} {l : Array Bool} {a : Act} {w : World} (hl : Shut md ops l) (hr : Region.ready md ops l = rs) (hne : rs ≠ [])
    (h : ∀ i ∈ rs, Shut md ops (l.setIfInBounds i true) → wpOp P ops Q i (fun a' w' => (ahead bs (l.setIfInBounds i true) = true → S w') ∧ anyB P md ops Q S bs f (l.setIfInBounds i true) a' w') a w) : anyB P md ops Q S bs (f + 1) l a w :=
  anyB_all hr hne fun i hi => h i hi (hl.step (by rw [hr]; exact hi))
theorem held {b : Bool} {T K : Act → World → Prop} (hK : ∀ a w, ((b = true → S w) ∧ T a w) → K a w) {a : Act} {w : World} (hs : S w) (h : S w → T a w) : K a w := hK a w ⟨fun _ => hs, h hs⟩
theorem unheld {b : Bool} {T K : Act → World → Prop} (hK : ∀ a w, ((b = true → S w) ∧ T a w) → K a w) {a : Act} {w : World} (hb : b = false) (h : T a w) : K a w := hK a w ⟨fun c => (by rw [hb] at c; cases c), h⟩
theorem begun (S : World → Prop) (bs : List Nat) {id : Nat} {a : Act} {w : World} (hm : P.follows .mixedOrders = true) (hs : S w.drew)
    (h : Shut .any ops (Array.replicate ops.size false) → S w.drew → anyB P .any ops Q S bs ops.size (Array.replicate ops.size false) a w.drew) : (Code.region id ops true).wp P Q a w :=
  wp_region_B S bs hm fun h1 => h h1 hs
/-- Forget the world's text. -/
theorem anyB_world {f : Nat} {l : Array Bool} {a : Act} {w : World} (φ : World → Prop) (h : φ w) (k : ∀ wx, φ wx → anyB P md ops Q S bs f l a wx) : anyB P md ops Q S bs f l a w := k w h
end
end Go.Proofs.Ytbenpnecjmpcbaa
