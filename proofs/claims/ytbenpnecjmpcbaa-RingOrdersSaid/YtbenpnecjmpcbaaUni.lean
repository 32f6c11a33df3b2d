/- A region that draws its order, whose operations but for some last ones (bs) leave what S alone decides and keep S, calls too: IT IS ENOUGH TO GO THROUGH IT IN ONE ORDER. Operations fs (what is made, and written into what is made) may come at any time: what they leave is told by a fact that what is made beneath does not touch. -/
import Derived.Test.YtbenpnecjmpcbaaAny
import Derived.Below
namespace Go.Proofs.Ytbenpnecjmpcbaa
open Go Go.RowKit
set_option linter.unusedVariables false
/-- A fact on the world that is left alone by all that only makes memory. -/
def Still (D : World → Prop) : Prop := ∀ w w', D w → Below w.heap.size w w' → D w'
section
variable {P : Program} {ops : Array Oper} {Q : Exit → Act → World → Prop} {md : Region.Mode} {S : World → Prop} {fs bs : List Nat}
/-- What is run ends in v, keeps S, and only makes memory. -/
def Goes (P : Program) (S : World → Prop) (v : Value) (w0 : World) : Result Next → Prop
  | .ok (.value u) w' => u = v ∧ S w' ∧ Below w0.heap.size w0 w'
  | .ok (.enter f args) w' => Calls P f args w' fun e w'' => e = .returned v ∧ S w'' ∧ Below w0.heap.size w0 w''
  | _ => False
/-- In state a, in every world that meets S, operation o leaves v, and S. -/
def YieldsS (P : Program) (ops : Array Oper) (S : World → Prop) (o : Oper) (v : Value) (a : Act) : Prop :=
  (Region.wanted o (yielded ops a.tmps) = true ∧ ∀ w, S w → Goes P S v w ((execOp a.eval o).run P w)) ∨ (Region.wanted o (yielded ops a.tmps) = false ∧ v = undef)
theorem YieldsS.same {o : Oper} {v : Value} {a a' : Act} (hy : YieldsS P ops S o v a) (he : execOp a'.eval o = execOp a.eval o)
    (hw : Region.wanted o (yielded ops a'.tmps) = Region.wanted o (yielded ops a.tmps)) : YieldsS P ops S o v a' := by
  unfold YieldsS at *
  rw [he, hw]
  exact hy
theorem YieldsS.of_if {o : Oper} {v : Value} {a : Act} (h : YieldsIf P ops S o v a) : YieldsS P ops S o v a := by
  rcases h with ⟨h1, h2⟩ | h
  · refine .inl ⟨h1, fun w hS => ?_⟩
    rw [h2 w hS]
    exact ⟨rfl, hS, Below.refl _ _⟩
  · exact .inr h
theorem YieldsS.of_call {o : Oper} {v : Value} {a : Act} (hw : Region.wanted o (yielded ops a.tmps) = true) {f : FuncId} {args : Array Value} (hr : ∀ w, S w → (execOp a.eval o).run P w = .ok (.enter f args) w)
    (h : ∀ w, S w → Calls P f args w fun e w' => e = .returned v ∧ S w' ∧ Below w.heap.size w w') : YieldsS P ops S o v a := by
  refine .inl ⟨hw, fun w hS => ?_⟩
  rw [hr w hS]
  exact h w hS
theorem YieldsS.wpOp {i : Nat} {o : Oper} {v : Value} {a : Act} (hi : ops[i]? = some o) (hy : YieldsS P ops S o v a) {K : Act → World → Prop} {w : World} (hS : S w)
    (h : ∀ w', S w' → Below w.heap.size w w' → K (a.put o.dst v) w') : wpOp P ops Q i K a w := by
  unfold Go.wpOp
  simp only [hi]
  rcases hy with ⟨hw, hv⟩ | ⟨hw, rfl⟩
  · simp only [hw, if_true]
    refine .inl ?_
    have hg := hv w hS
    unfold Oper.wp
    generalize (execOp a.eval o).run P w = r at hg
    cases r with
    | ok n w' =>
      cases n with
      | value u => obtain ⟨rfl, h1, h2⟩ := hg; exact h w' h1 h2
      | enter f args =>
        refine Calls.mono hg fun e w'' he => ?_
        obtain ⟨rfl, h1, h2⟩ := he
        exact h w'' h1 h2
      | _ => exact hg.elim
    | halt x w' => exact hg.elim
  · simp only [hw, Bool.false_eq_true, if_false]
    exact h w hS (Below.refl _ _)
/-- One operation oj, apart from oi: it makes no difference to it whether oi's value is there already; and what was known of oi still is. -/
theorem wpOp_unput {j : Nat} {oi oj : Oper} {v : Value} (hj : ops[j]? = some oj) (hap : oi.apart ops oj = true) (hsi : ∀ cs b, oi.op ≠ .select cs b) (hsj : ∀ cs b, oj.op ≠ .select cs b)
    (hQ : ∀ c a w, Q (.panic c) (a.put oi.dst v) w → Q (.panic c) a w) {K : Act → World → Prop} {a : Act} {w : World} (hy : YieldsS P ops S oi v a) (h : Go.wpOp P ops Q j K (a.put oi.dst v) w) :
    Go.wpOp P ops Q j (fun a' w' => YieldsS P ops S oi v a' ∧ K (a'.put oi.dst v) w') a w := by
  obtain ⟨h1, h2, h3⟩ := Oper.apart_spec hap
  have keep : ∀ b : Act, YieldsS P ops S oi v b → ∀ u, YieldsS P ops S oi v (b.put oj.dst u) := fun b hb u => hb.same (execOp_put oi hsi b oj.dst u h3) (wanted_put oi b oj.dst u h3)
  have turn : ∀ u, YieldsS P ops S oi v (a.put oj.dst u) ∧ (K ((a.put oi.dst v).put oj.dst u) = K ((a.put oj.dst u).put oi.dst v)) := fun u => ⟨keep a hy u, by rw [Act.put_comm a v u h2]⟩
  unfold Go.wpOp at h ⊢
  simp only [hj] at h ⊢
  rw [wanted_put oj a oi.dst v h1] at h
  cases hw : Region.wanted oj (yielded ops a.tmps) with
  | false =>
    rw [hw] at h
    simp only [Bool.false_eq_true, if_false] at h ⊢
    exact ⟨(turn undef).1, (turn undef).2 ▸ h⟩
  | true =>
    rw [hw] at h
    simp only [if_true] at h ⊢
    rcases h with h | ⟨hk, hl⟩
    · refine .inl ?_
      unfold Oper.wp at h ⊢
      rw [execOp_put oj hsj a oi.dst v h1] at h
      cases hr : (execOp a.eval oj).run P w with
      | ok n w' =>
        rw [hr] at h
        cases n with
        | value u => exact ⟨(turn u).1, (turn u).2 ▸ h⟩
        | skip => exact ⟨(turn undef).1, (turn undef).2 ▸ h⟩
        | «defer» d =>
          refine ⟨keep { a with defers := d :: a.defers } (hy.same rfl rfl) undef, ?_⟩
          have h' : K (({ a.put oi.dst v with defers := d :: (a.put oi.dst v).defers } : Act).put oj.dst undef) w' := h
          rw [Act.put_defers, Act.put_comm _ v undef h2] at h'
          exact h'
        | enter f args =>
          refine Calls.mono h fun e w'' he => ?_
          cases e with
          | returned u => exact ⟨(turn u).1, (turn u).2 ▸ he⟩
          | panicked c => exact hQ _ _ _ he
          | outgrown => exact he
        | row r args => exact Rows.mono h fun u w'' he => ⟨(turn u).1, (turn u).2 ▸ he⟩
        | _ => exact h
      | halt x w' =>
        rw [hr] at h
        cases x with
        | panic u => exact hQ _ _ _ h
        | _ => exact h
    · refine .inr ⟨?_, hl⟩
      unfold Oper.asks at hk ⊢
      rw [execOp_put oj hsj a oi.dst v h1] at hk
      exact hk
/-- Whatever comes up: an operation that S decides, one of fs, or one of bs. -/
def anyU (P : Program) (md : Region.Mode) (ops : Array Oper) (Q : Exit → Act → World → Prop) (S : World → Prop) (fs bs : List Nat) : Nat → Array Bool → Act → (World → Prop) → Prop
  | 0, l, a, D => Region.ready md ops l = [] ∧ ∀ w, S w → D w → Q .normal a w
  | f + 1, l, a, D => (Region.ready md ops l = [] → ∀ w, S w → D w → Q .normal a w) ∧ ∀ i ∈ Region.ready md ops l,
      (∃ o v, ops[i]? = some o ∧ YieldsS P ops S o v a ∧ anyU P md ops Q S fs bs f (l.setIfInBounds i true) (a.put o.dst v) D) ∨
      (fs.contains i = true ∧ ∀ w, S w → D w → wpOp P ops Q i (fun a' w' => S w' ∧ ∃ D', Still D' ∧ D' w' ∧ anyU P md ops Q S fs bs f (l.setIfInBounds i true) a' D') a w) ∨
      (bs.contains i = true ∧ ∀ w, S w → D w → wpOp P ops Q i (wpAny P md ops Q f (l.setIfInBounds i true)) a w)
theorem any_of_U : ∀ (f : Nat) (l : Array Bool) (a : Act) (D : World → Prop), anyU P md ops Q S fs bs f l a D → Still D → ∀ w, S w → D w → wpAny P md ops Q f l a w
  | 0, _, _, _, h, _, w, hS, hD => ⟨h.1, h.2 w hS hD⟩
  | f + 1, _, _, D, h, hst, w, hS, hD => ⟨fun hr => h.1 hr w hS hD, fun i hi => by
      rcases h.2 i hi with ⟨o, v, ho, hy, hn⟩ | ⟨_, h1⟩ | ⟨_, h1⟩
      · exact hy.wpOp ho hS fun w' h1 h2 => any_of_U f _ _ D hn hst w' h1 (hst w w' hD h2)
      · exact wpOp_mono (fun a' w' ⟨h1, D', h2, h3, h4⟩ => any_of_U f _ _ D' h4 h2 w' h1 h3) (h1 w hS hD)
      · exact h1 w hS hD⟩
theorem anyU_first {i n : Nat} {oi : Oper} {v : Value} (hi : ops[i]? = some oi) (hs : Region.noSelect ops = true) (hb : (bs.all fun s => waitsFor md ops n s i) = true)
    (hQ : ∀ c a w, Q (.panic c) (a.put oi.dst v) w → Q (.panic c) a w) :
    ∀ (f : Nat) (l : Array Bool) (a : Act) (D : World → Prop),
      (∀ j oj, ops[j]? = some oj → j ≠ i → l.getD j true = false → (∀ e ∈ oj.after, Region.binds md e = true → e.on ≠ i) → oi.apart ops oj = true) →
      i ∈ Region.ready md ops l → Shut md ops l → YieldsS P ops S oi v a → anyU P md ops Q S fs bs f (l.setIfInBounds i true) (a.put oi.dst v) D → anyU P md ops Q S fs bs (f + 1) l a D := by
  intro f
  induction f with
  | zero =>
    intro l a D _ hr _ hy H
    refine ⟨fun h => (by rw [h] at hr; cases hr), fun j hj => ?_⟩
    rcases Decidable.em (j = i) with c | c
    · subst c; exact .inl ⟨oi, v, hi, hy, H⟩
    · have hm := ready_mono hj c
      rw [H.1] at hm
      cases hm
  | succ f ih =>
    intro l a D hfree hr hl hy H
    refine ⟨fun h => (by rw [h] at hr; cases hr), fun j hj => ?_⟩
    rcases Decidable.em (j = i) with c | c
    · subst c; exact .inl ⟨oi, v, hi, hy, H⟩
    have hri : i ∈ Region.ready md ops (l.setIfInBounds j true) := ready_mono hr (Ne.symm c)
    have hlj := hl.step hj
    obtain ⟨hju, oj, hoj, hall⟩ := mem_ready.1 hj
    have hi0 := (mem_ready.1 hr).1
    have hfr : ∀ e ∈ oj.after, Region.binds md e = true → e.on ≠ i := fun e he hbe heq => by
      have := shutUp_ (hall e he hbe)
      rw [heq, hi0] at this
      cases this
    have hap := hfree j oj hoj c hju hfr
    have hfree' : ∀ k ok, ops[k]? = some ok → k ≠ i → (l.setIfInBounds j true).getD k true = false → (∀ e ∈ ok.after, Region.binds md e = true → e.on ≠ i) → oi.apart ops ok = true := fun k ok hk hki hku hke => by
      refine hfree k ok hk hki ?_ hke
      rcases Decidable.em (j = k) with d | d
      · subst d; exact hju
      · rw [getD_set_ne true d] at hku; exact hku
    have hsi := fun cs b => Region.noSelect_spec hs i oi cs b hi
    have hsj := fun cs b => Region.noSelect_spec hs j oj cs b hoj
    obtain ⟨h1, h2, h3⟩ := Oper.apart_spec hap
    rcases H.2 j (ready_mono hj c) with ⟨oj', u, hoj', hyj, hn⟩ | ⟨hf, hw⟩ | ⟨hbj, _⟩
    · rw [hoj] at hoj'
      cases hoj'
      refine .inl ⟨oj, u, hoj, hyj.same (execOp_put oj hsj a oi.dst v h1).symm (wanted_put oj a oi.dst v h1).symm, ih _ _ D hfree' hri hlj (hy.same (execOp_put oi hsi a oj.dst u h3) (wanted_put oi a oj.dst u h3)) ?_⟩
      rw [Array.setIfInBounds_comm _ _ c, ← Act.put_comm a v u h2]
      exact hn
    · refine .inr (.inl ⟨hf, fun w hS hD => wpOp_mono (fun a' w' hk => ?_) (wpOp_unput hoj hap hsi hsj hQ hy (hw w hS hD))⟩)
      obtain ⟨ky, ks, D', k1, k2, k3⟩ := hk
      refine ⟨ks, D', k1, k2, ih _ _ D' hfree' hri hlj ky ?_⟩
      rw [Array.setIfInBounds_comm _ _ c]
      exact k3
    · exfalso
      have hw := (List.all_eq_true.1 hb) j (by simpa using hbj)
      have hd : (l.setIfInBounds j true).getD j true = true := by
        rcases Nat.lt_or_ge j l.size with d | d
        · simp [d]
        · simp
      have := hlj.waits n j i hw hd
      rw [getD_set_ne true c, hi0] at this
      cases this
theorem anyU_firstW {i : Nat} {oi : Oper} {v : Value} (hi : ops[i]? = some oi) (hs : Region.noSelect ops = true) (hQ : ∀ c a w, Q (.panic c) (a.put oi.dst v) w → Q (.panic c) a w) :
    ∀ (f : Nat) (l : Array Bool) (a : Act) (D : World → Prop),
      (∀ j oj, ops[j]? = some oj → j ≠ i → l.getD j true = false → (∀ e ∈ oj.after, Region.binds md e = true → e.on ≠ i) → oi.apart ops oj = true) →
      i ∈ Region.ready md ops l → Yields P ops oi v a → anyU P md ops Q S fs bs f (l.setIfInBounds i true) (a.put oi.dst v) D → anyU P md ops Q S fs bs (f + 1) l a D := by
  intro f
  induction f with
  | zero =>
    intro l a D _ hr hy H
    refine ⟨fun h => (by rw [h] at hr; cases hr), fun j hj => ?_⟩
    rcases Decidable.em (j = i) with c | c
    · subst c; exact .inl ⟨oi, v, hi, YieldsS.of_if hy.yieldsIf, H⟩
    · have hm := ready_mono hj c
      rw [H.1] at hm
      cases hm
  | succ f ih =>
    intro l a D hfree hr hy H
    refine ⟨fun h => (by rw [h] at hr; cases hr), fun j hj => ?_⟩
    rcases Decidable.em (j = i) with c | c
    · subst c; exact .inl ⟨oi, v, hi, YieldsS.of_if hy.yieldsIf, H⟩
    have hri : i ∈ Region.ready md ops (l.setIfInBounds j true) := ready_mono hr (Ne.symm c)
    obtain ⟨hju, oj, hoj, hall⟩ := mem_ready.1 hj
    have hi0 := (mem_ready.1 hr).1
    have hfr : ∀ e ∈ oj.after, Region.binds md e = true → e.on ≠ i := fun e he hbe heq => by
      have := shutUp_ (hall e he hbe)
      rw [heq, hi0] at this
      cases this
    have hap := hfree j oj hoj c hju hfr
    have hfree' : ∀ k ok, ops[k]? = some ok → k ≠ i → (l.setIfInBounds j true).getD k true = false → (∀ e ∈ ok.after, Region.binds md e = true → e.on ≠ i) → oi.apart ops ok = true := fun k ok hk hki hku hke => by
      refine hfree k ok hk hki ?_ hke
      rcases Decidable.em (j = k) with d | d
      · subst d; exact hju
      · rw [getD_set_ne true d] at hku; exact hku
    have hsi := fun cs b => Region.noSelect_spec hs i oi cs b hi
    have hsj := fun cs b => Region.noSelect_spec hs j oj cs b hoj
    obtain ⟨h1, h2, h3⟩ := Oper.apart_spec hap
    rcases H.2 j (ready_mono hj c) with ⟨oj', u, hoj', hyj, hn⟩ | ⟨hf, hw⟩ | ⟨hbj, hw⟩
    · rw [hoj] at hoj'
      cases hoj'
      refine .inl ⟨oj, u, hoj, hyj.same (execOp_put oj hsj a oi.dst v h1).symm (wanted_put oj a oi.dst v h1).symm, ih _ _ D hfree' hri (hy.of_same (execOp_put oi hsi a oj.dst u h3) (wanted_put oi a oj.dst u h3)) ?_⟩
      rw [Array.setIfInBounds_comm _ _ c, ← Act.put_comm a v u h2]
      exact hn
    · refine .inr (.inl ⟨hf, fun w hS hD => wpOp_mono (fun a' w' hk => ?_) (wpOp_put hoj hap hsi hsj hQ hy (hw w hS hD))⟩)
      obtain ⟨ky, ks, D', k1, k2, k3⟩ := hk
      refine ⟨ks, D', k1, k2, ih _ _ D' hfree' hri ky ?_⟩
      rw [Array.setIfInBounds_comm _ _ c]
      exact k3
    · refine .inr (.inr ⟨hbj, fun w hS hD => wpOp_mono (fun a' w' hk => ?_) (wpOp_put hoj hap hsi hsj hQ hy (hw w hS hD))⟩)
      refine wpAny_first hi (Region.noSelect_spec hs) hQ f _ a' w' hfree' hri hk.1 ?_
      rw [Array.setIfInBounds_comm _ _ c]
      exact hk.2
/-- Number i first, which yields its value in whatever world. -/
theorem anyU_takeW {i : Nat} {oi : Oper} {v : Value} {f : Nat} {l : Array Bool} {a : Act} {D : World → Prop} (hi : ops[i]? = some oi) (hs : Region.noSelect ops = true) (hf : Region.free md ops l i = true)
    (hr : (Region.ready md ops l).contains i = true) (hQ : ∀ c a w, Q (.panic c) (a.put oi.dst v) w → Q (.panic c) a w) (hl : Shut md ops l) (hy : Yields P ops oi v a)
    (h : Shut md ops (l.setIfInBounds i true) → anyU P md ops Q S fs bs f (l.setIfInBounds i true) (a.put oi.dst v) D) : anyU P md ops Q S fs bs (f + 1) l a D :=
  anyU_firstW hi hs hQ f l a D (Region.free_spec hi hf) (by simpa using hr) hy (h (hl.step (by simpa using hr)))
/-- Number i first: whatever S decides. -/
theorem anyU_take (n : Nat) {i : Nat} {oi : Oper} {v : Value} {f : Nat} {l : Array Bool} {a : Act} {D : World → Prop} (hi : ops[i]? = some oi) (hs : Region.noSelect ops = true) (hf : Region.free md ops l i = true)
    (hr : (Region.ready md ops l).contains i = true) (hb : (bs.all fun s => waitsFor md ops n s i) = true) (hQ : ∀ c a w, Q (.panic c) (a.put oi.dst v) w → Q (.panic c) a w)
    (hl : Shut md ops l) (hy : YieldsS P ops S oi v a)
    (h : Shut md ops (l.setIfInBounds i true) → anyU P md ops Q S fs bs f (l.setIfInBounds i true) (a.put oi.dst v) D) : anyU P md ops Q S fs bs (f + 1) l a D :=
  anyU_first hi hs hb hQ f l a D (Region.free_spec hi hf) (by simpa using hr) hl hy (h (hl.step (by simpa using hr)))
theorem anyU_done {l : Array Bool} {a : Act} {D : World → Prop} (hr : Region.ready md ops l = []) (h : ∀ w, S w → D w → Q .normal a w) : ∀ f, anyU P md ops Q S fs bs f l a D
  | 0 => ⟨hr, h⟩
  | _ + 1 => ⟨fun _ => h, by rw [hr]; simp⟩
/-- Only one that S decides is there to come up: it comes up. -/
theorem anyU_one {i f : Nat} {oi : Oper} {v : Value} {l : Array Bool} {a : Act} {D : World → Prop} (hr : Region.ready md ops l = [i]) (hi : ops[i]? = some oi) (hy : YieldsS P ops S oi v a) (h : anyU P md ops Q S fs bs f (l.setIfInBounds i true) (a.put oi.dst v) D) :
    anyU P md ops Q S fs bs (f + 1) l a D :=
  ⟨fun h0 => (by rw [h0] at hr; cases hr), fun j hj => by rw [hr] at hj; obtain rfl : j = i := by simpa using hj
                                                          exact .inl ⟨oi, v, hi, hy, h⟩⟩
/-- Only one of bs is left to come up: it comes up. -/
theorem anyU_last {i f : Nat} {l : Array Bool} {a : Act} {D : World → Prop} (hr : Region.ready md ops l = [i]) (hb : bs.contains i = true) (h : ∀ w, S w → D w → wpOp P ops Q i (wpAny P md ops Q f (l.setIfInBounds i true)) a w) :
    anyU P md ops Q S fs bs (f + 1) l a D :=
  ⟨fun h0 => (by rw [h0] at hr; cases hr), fun j hj => by rw [hr] at hj; obtain rfl : j = i := by simpa using hj
                                                          exact .inr (.inr ⟨hb, h⟩)⟩
/-- Only one of fs is left to come up: it comes up. -/
theorem anyU_make {i f : Nat} {l : Array Bool} {a : Act} {D : World → Prop} (hr : Region.ready md ops l = [i]) (hb : fs.contains i = true)
    (h : ∀ w, S w → D w → wpOp P ops Q i (fun a' w' => S w' ∧ ∃ D', Still D' ∧ D' w' ∧ anyU P md ops Q S fs bs f (l.setIfInBounds i true) a' D') a w) :
    anyU P md ops Q S fs bs (f + 1) l a D :=
  ⟨fun h0 => (by rw [h0] at hr; cases hr), fun j hj => by rw [hr] at hj; obtain rfl : j = i := by simpa using hj
                                                          exact .inr (.inl ⟨hb, h⟩)⟩
theorem any_done {l : Array Bool} {a : Act} {w : World} (hr : Region.ready md ops l = []) (h : Q .normal a w) : ∀ f, wpAny P md ops Q f l a w
  | 0 => ⟨hr, h⟩
  | _ + 1 => ⟨fun _ => h, by rw [hr]; simp⟩
/-- Only one is there to come up. -/
theorem any_one {i f : Nat} {o : Oper} {l : Array Bool} {a : Act} {w : World} (hr : Region.ready md ops l = [i]) (hi : ops[i]? = some o) (hw : Region.wanted o (yielded ops a.tmps) = true) (h : o.wp P a w (wpAny P md ops Q f (l.setIfInBounds i true)) Q) : wpAny P md ops Q (f + 1) l a w :=
  ⟨fun h0 => (by rw [h0] at hr; cases hr), fun j hj => by
    rw [hr] at hj
    obtain rfl : j = i := by simpa using hj
    unfold Go.wpOp
    simp only [hi, hw, if_true]
    exact .inl h⟩
/-- The last operation. -/
theorem last_op {i f : Nat} {o : Oper} {l : Array Bool} {a : Act} {w : World} (hi : ops[i]? = some o) (hw : Region.wanted o (yielded ops a.tmps) = true) (hr : Region.ready md ops l = []) (h : o.wp P a w (fun a' w' => Q .normal a' w') Q) :
    Go.wpOp P ops Q i (wpAny P md ops Q f l) a w := by
  unfold Go.wpOp
  simp only [hi, hw, if_true]
  exact .inl (Oper.wp_mono (fun a' w' hq => any_done hr hq f) h)
/-- The beginning. -/
theorem wp_region_U (S : World → Prop) (fs bs : List Nat) {id : Nat} {a : Act} {w : World} (hm : P.follows .mixedOrders = true) (hS : S w.drew)
    (h : Shut .any ops (Array.replicate ops.size false) → anyU P .any ops Q S fs bs ops.size (Array.replicate ops.size false) a fun _ => True) : (Code.region id ops true).wp P Q a w :=
  wp_region_any hm (any_of_U _ _ _ _ (h (Shut.none _ rfl)) (fun _ _ _ _ => trivial) _ hS trivial)
end
end Go.Proofs.Ytbenpnecjmpcbaa
