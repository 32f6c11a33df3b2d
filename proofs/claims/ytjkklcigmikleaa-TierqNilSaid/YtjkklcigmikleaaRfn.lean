/- A loop over an iterator that may itself loop over iterators: what it asks of the loop's own words, and the loop's law. No program. -/
import Derived.RangeFuncNested
import Derived.RangeFuncLeaves
namespace Go.Proofs.Ytjkklcigmikleaa
open Go Go.RowKit
set_option linter.unusedVariables false
variable {F : Fence} {n : Nat} {P : Program}
theorem keeps_more {B B' : Nat} {X Y : World} (h : KeepsFrom B X Y) (hB : B ≤ B') : KeepsFrom B' X Y := ⟨h.size, fun k o hk h0 ho => h.same k o (Nat.le_trans hB hk) h0 ho⟩
theorem ownFrom_more {β : Type} {B B' : Nat} {I : β → World → Prop} (h : OwnFrom B I) (hB : B ≤ B') : OwnFrom B' I := fun s X Y row hs hg hr => h s X Y row hs hg (fun r e => ⟨Nat.le_trans hB (hr r e).1, (hr r e).2⟩)
/-- The contract of an iterator that hands over just xs, one behind the other, and may turn whatever it lays that is no cells. -/
def SeqP {α : Type} (F : Fence) (n : Nat) (P : Program) (g : Nat) (lb : Array Value) (encs : α → Array Value) (Kp : World → World → Prop) (xs : List α) (w : World) : Prop :=
  ∀ (l : Nat) (J Jx : List α → World → Prop) (W : World), Below w.heap.size w W → OwnFrom W.heap.size J → OwnFrom W.heap.size Jx →
    (∀ pre x W1, J pre W1 → (pre ++ [x]) <+: xs → YieldAt F (n - 1) P l (encs x) W1 fun e W' => KeepsFrom W.heap.size W1 W' ∧
      ((e = .returned (.bool true) ∧ J (pre ++ [x]) W' ∧ Kp W1 W') ∨ (e = .returned (.bool false) ∧ Jx (pre ++ [x]) W'))) →
    J [] W →
    CallsIn F n P g (#[.func (.yield l) #[] #[]] ++ lb) W fun e W' => (∃ v, e = .returned v) ∧ (J xs W' ∨ (∃ pre, pre <+: xs ∧ Jx pre W'))
/-- A loop's two blocks: its record, and the one for what its rounds put off. -/
structure RecAt (W : World) (b : Nat) (L : Loop) : Prop where
  loop : W.heap[b + 1]? = some (.loop L)
  coll : W.heap[b]? = some (.deferred (some []))
section
variable {W X Y : World} {b : Nat} {L L' : Loop}
theorem RecAt.lt (h : RecAt W b L) : b + 1 < W.heap.size := (Array.getElem?_eq_some_iff.1 h.loop).1
theorem RecAt.far (h : RecAt X b L) {row : Option Nat} (hg : X.grownBy Y row) (hr : ∀ r, row = some r → b + 2 ≤ r) : RecAt Y b L := by
  have hlt := h.lt
  exact ⟨(hg.block _ hlt (fun e => by have := hr _ e.symm; omega)).trans h.loop, (hg.block b (by omega) (fun e => by have := hr _ e.symm; omega)).trans h.coll⟩
theorem RecAt.keeps (h : RecAt X b L) (hk : KeepsFrom b X Y) : RecAt Y b L := ⟨hk.same _ _ (by omega) h.loop rfl, hk.same _ _ (Nat.le_refl _) h.coll rfl⟩
theorem RecAt.turn (h : RecAt W b L) (L' : Loop) : RecAt (W.putObj (b + 1) (.loop L')) b L' := ⟨World.putObj_heap_same h.lt, (World.putObj_heap_other (by omega)).trans h.coll⟩
theorem keeps_putObj (W : World) {B l : Nat} (o : Obj) (h : l < B) : KeepsFrom B W (W.putObj l o) := KeepsFrom.of_grownBy (grownBy_putObj' W l o) (fun j e => by cases e; exact h)
end
/-- The loop's law. -/
theorem wpIn_rangeP {α : Type} {g : Operand} {ps : Array Tmp} {assign body : Code} {Q : Exit → Act → World → Prop} {a : Act} {w : World}
    (hro : F.round = none) (h1 : 1 ≤ n) {gf : Nat} {lb : Array Value} (hg : a.eval g = .func (.func gf) #[] lb) (hFg : F.fn gf) (eg : ∀ args w, (callFunc gf args).run P w = .ok (.enter gf args) w)
    {encs : α → Array Value} {Kp : World → World → Prop} {xs : List α} {w0 : World} (hseq : SeqP F (n - 1) P gf lb encs Kp xs w0)
    (hKt : ∀ {A B C : World}, Kp A B → Kp B C → Kp A C) (hKb : ∀ (W : World) (l : Nat) (o o' : Obj), w.heap.size ≤ l → W.heap[l]? = some o → o.isCells = false → o.isWalk = false → Kp W (W.putObj l o')) (hb0 : Below w0.heap.size w0 w) (hps : ∀ x, (encs x).size = ps.size)
    (I : List α → World → Prop) (Ix : Code → List α → World → Prop) (hI : OwnFrom w.heap.size I) (hIx : ∀ c, OwnFrom w.heap.size (Ix c)) (h0 : I [] w) (Ax : α → Act → World → Prop) (hAx : ∀ x a', OwnFrom w.heap.size (fun (_ : Unit) W => Ax x a' W))
    (hassign : ∀ (l : Nat) (pre : List α) (x : α) (W : World) (K : Act → World → Prop), I pre W → (pre ++ [x]) <+: xs → (∀ a' W', KeepsFrom w.heap.size W W' → Kp W W' → I pre W' → Ax x a' W' → K a' W') →
      assign.wpIn (F.inRound l) (n - 1 - 1) P (Exit.then K (fun _ _ _ => False)) { tmps := (ps.zip (encs x)).foldl (fun t (p, v) => t.setIfInBounds p v) a.tmps, defers := [] } W)
    (hbody : ∀ (l : Nat) (pre : List α) (x : α) (a' : Act) (W : World), w.heap.size ≤ l → (∃ r, W.heap[l]? = some (.loop r)) → I pre W → Ax x a' W → (pre ++ [x]) <+: xs → body.wpIn (F.inRound l) (n - 1 - 1) P (ownPostG w.heap.size Kp I Ix (pre ++ [x]) W) a' W)
    (hdone : ∀ (D : Nat) (W : World), w.heap.size ≤ D → I xs W → W.heap[D]? = some (.deferred (some [])) → Q .normal { a with defers := { target := .collected D, args := #[] } :: a.defers } W)
    (hstop : ∀ (D : Nat) (c : Code) (pre : List α) (W : World), w.heap.size ≤ D → pre <+: xs → Ix c pre W → W.heap[D]? = some (.deferred (some [])) → c.wpIn F n P Q { a with defers := { target := .collected D, args := #[] } :: a.defers } W) :
    (Code.rangeFunc g ps assign body).wpIn F n P Q a w := by
  refine wpIn_rangeFunc fun fn hfn => ?_
  rw [hro]
  obtain ⟨b, hb⟩ : ∃ b, w.heap.size = b := ⟨_, rfl⟩
  obtain ⟨rec, hrec⟩ : ∃ rec : LoopState → Option Code → Loop, ∀ st pe, rec st pe = { state := st, pending := pe, fn, tmps := a.tmps, params := ps, assign, body, defers := b } := ⟨fun st pe => _, fun _ _ => rfl⟩
  obtain ⟨Wr, hWr⟩ : ∃ Wr, (w.alloc (.deferred (some []))).alloc (.loop (rec .ready none)) = Wr := ⟨_, rfl⟩
  have hsz : Wr.heap.size = b + 2 := by rw [← hWr, ← hb]; simp
  have hR : RecAt Wr b (rec .ready none) := by
    rw [← hWr, ← hb]
    refine ⟨?_, (Below.heap_alloc _ _ _ (by simp)).trans (World.alloc_heap_new w _)⟩
    have := World.alloc_heap_new (w.alloc (.deferred (some []))) (.loop (rec .ready none))
    rwa [World.size_alloc] at this
  have hI0 : I [] Wr := by rw [← hWr]; exact hI.alloc _ (hI.alloc _ h0)
  have hbl : Below w0.heap.size w0 Wr := by
    rw [← hWr]
    exact hb0.trans ((((Below.refl _ w).alloc (Nat.le_refl _) _).alloc (by simp) _).mono hb0.size)
  refine ⟨b + 1, [{ target := .collected b, args := #[] }], Wr, { target := .fn (.func gf) lb, args := #[.func (.yield (b + 1)) #[] #[]] }, Wr, gf, #[.func (.yield (b + 1)) #[] #[]] ++ lb, Wr, ?_, ?_, ?_, ?_, fun _ => h1, ?_⟩
  · rw [← hWr, hrec, ← hb]
    exact run_enterLoop_outer _ _ _ _ _
  · simp only [resolve, hg]
    simp [go_sem]
  · intro f' hf'
    simp [Target.leads] at hf'
    subst hf'
    exact hFg
  · simp [invoke, go_sem, eg]
  have free : ∀ {X Y : World} {row : Option Nat}, (∀ r, row = some r → Wr.heap.size ≤ r ∧ ∃ o : Obj, X.heap[r]? = some o ∧ o.isCells = false) → (∀ r, row = some r → w.heap.size ≤ r ∧ ∃ o : Obj, X.heap[r]? = some o ∧ o.isCells = false) :=
    fun hr r e => ⟨by have := (hr r e).1; omega, (hr r e).2⟩
  refine (hseq (b + 1) (fun pre W => I pre W ∧ RecAt W b (rec .ready none)) (fun pre W => ∃ c, Ix c pre W ∧ RecAt W b (rec .done (some c))) Wr hbl
    (fun s X Y row hs hg' hr => ⟨hI s X Y row hs.1 hg' (free (Y := Y) hr), hs.2.far hg' (fun r e => by have := (hr r e).1; omega)⟩)
    (fun s X Y row hs hg' hr => by
      obtain ⟨c, hc, hl⟩ := hs
      exact ⟨c, hIx c s X Y row hc hg' (free (Y := Y) hr), hl.far hg' (fun r e => by have := (hr r e).1; omega)⟩) ?_ ⟨hI0, hR⟩).mono ?_
  · rintro pre x W ⟨hi, hl⟩ hlen
    have hy := run_yield (P := P) (args := encs x) hl.loop (by rw [hrec]; exact hps x)
    rw [hrec] at hy
    refine ⟨fn, _, assign, body, hy, roundIn_of_wpIn hfn (hassign _ pre x W _ hi hlen fun a' Wa hkf hkp hia hax => ?_)⟩
    rw [hb] at hkf
    have hla := hl.keeps hkf
    have hbusy := hla.turn (rec .busy none)
    refine ⟨_, run_beginRound hla.loop (by rw [hrec]), ?_⟩
    have e1 : ({ rec .ready none with state := .busy } : Loop) = rec .busy none := by rw [hrec, hrec]
    rw [e1]
    refine wpIn_mono (hbody _ pre x a' _ (by omega) ⟨_, hbusy.loop⟩ (hI.putObj _ hia (by omega) hla.loop rfl) ((hAx x a').putObj (s := ()) _ hax (by omega) hla.loop rfl) hlen) ?_
    rw [hb]
    have fin : ∀ (jump : Option Code) (W3 : World), KeepsFrom b (Wa.putObj (b + 1) (.loop (rec .busy none))) W3 →
        RecAt W3 b (rec .busy none) ∧ (Instr.endRound (b + 1) jump).run P W3 = .ok (.bool jump.isNone) (W3.putObj (b + 1) (.loop (rec (if jump.isNone then .ready else .done) jump))) ∧
        KeepsFrom Wr.heap.size W (W3.putObj (b + 1) (.loop (rec (if jump.isNone then .ready else .done) jump))) := fun jump W3 hk3 => by
      have h3 := hbusy.keeps hk3
      have := run_endRound (P := P) jump (by rw [← e1] at h3; exact h3.loop)
      refine ⟨h3, ?_, ?_⟩
      · rw [hrec] at this ⊢
        exact this
      · rw [hsz]
        exact (((keeps_more hkf (by omega)).trans (keeps_putObj _ _ (by omega))).trans (keeps_more hk3 (by omega))).trans (keeps_putObj _ _ (by omega))
    have hup : Kp W (Wa.putObj (b + 1) (.loop (rec .busy none))) := hKt hkp (hKb _ _ _ _ (by omega) hla.loop rfl rfl)
    rintro e a3 W3 hp
    cases e with
    | normal =>
      obtain ⟨hk3, hkp3, hi3⟩ := hp
      obtain ⟨h3, hr, hk⟩ := fin none W3 hk3
      exact ⟨_, _, hr, hk, .inl ⟨rfl, ⟨hI.putObj _ hi3 (by omega) h3.loop rfl, h3.turn _⟩, hKt (hKt hup hkp3) (hKb _ _ _ _ (by omega) h3.loop rfl rfl)⟩⟩
    | ret =>
      obtain ⟨hk3, hi3⟩ := hp
      obtain ⟨h3, hr, hk⟩ := fin (some .ret) W3 hk3
      exact ⟨_, _, hr, hk, .inr ⟨rfl, .ret, (hIx _).putObj _ hi3 (by omega) h3.loop rfl, h3.turn _⟩⟩
    | exit id =>
      obtain ⟨hk3, hi3⟩ := hp
      obtain ⟨h3, hr, hk⟩ := fin (some (.exit id)) W3 hk3
      exact ⟨_, _, hr, hk, .inr ⟨rfl, .exit id, (hIx _).putObj _ hi3 (by omega) h3.loop rfl, h3.turn _⟩⟩
    | goto t =>
      obtain ⟨hk3, hi3⟩ := hp
      obtain ⟨h3, hr, hk⟩ := fin (some (.goto t)) W3 hk3
      exact ⟨_, _, hr, hk, .inr ⟨rfl, .goto t, (hIx _).putObj _ hi3 (by omega) h3.loop rfl, h3.turn _⟩⟩
    | panic ch => exact hp.elim
    | outgrown => exact hp.elim
  · rintro e W2 ⟨⟨v, rfl⟩, (⟨hi, hl⟩ | ⟨pre, hSp, c, hi, hl⟩)⟩
    · refine ⟨none, W2.putObj (b + 1) (.loop (rec .exhausted none)), ?_, hdone b _ (by omega) (hI.putObj _ hi (by omega) hl.loop rfl) ((World.putObj_heap_other (by omega)).trans hl.coll)⟩
      have := run_endLoop (P := P) hl.loop (by rw [hrec]; simp)
      rw [hrec] at this ⊢
      exact this
    · refine ⟨some c, W2.putObj (b + 1) (.loop (rec .exhausted (some c))), ?_, hstop b c pre _ (by omega) hSp ((hIx c).putObj _ hi (by omega) hl.loop rfl) ((World.putObj_heap_other (by omega)).trans hl.coll)⟩
      have := run_endLoop (P := P) hl.loop (by rw [hrec]; simp)
      rw [hrec] at this ⊢
      exact this
end Go.Proofs.Ytjkklcigmikleaa
