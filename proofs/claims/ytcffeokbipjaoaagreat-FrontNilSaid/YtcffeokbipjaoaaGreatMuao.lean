/- Texts of this claim, one behind the other: Rfn Tqo Dalp. -/
import Derived.RangeFuncNested
import Derived.RangeFuncLeaves
import Derived.Test.YtcffeokbipjaoaaGreatMuae
import Derived.Test.YtcffeokbipjaoaaGreatMuaf
import Derived.Test.YtcffeokbipjaoaaGreatMuan
namespace Go.Proofs.YtcffeokbipjaoaaGreat
open Go Go.RowKit
set_option linter.unusedVariables false
variable {F : Fence} {n : Nat} {P : Program}
theorem keeps_more {B B' : Nat} {X Y : World} (h : KeepsFrom B X Y) (hB : B ≤ B') : KeepsFrom B' X Y := ⟨h.size, fun k o hk h0 ho => h.same k o (Nat.le_trans hB hk) h0 ho⟩
def SeqP {α : Type} (F : Fence) (n : Nat) (P : Program) (g : Nat) (lb : Array Value) (encs : α → Array Value) (Kp : World → World → Prop) (xs : List α) (w : World) : Prop :=
 ∀ (l : Nat) (J Jx : List α → World → Prop) (W : World), Below w.heap.size w W → OwnFrom W.heap.size J → OwnFrom W.heap.size Jx →
   (∀ pre x W1, J pre W1 → (pre ++ [x]) <+: xs → YieldAt F (n - 1) P l (encs x) W1 fun e W' => KeepsFrom W.heap.size W1 W' ∧
     ((e = .returned (.bool true) ∧ J (pre ++ [x]) W' ∧ Kp W1 W') ∨ (e = .returned (.bool false) ∧ Jx (pre ++ [x]) W'))) →
   J [] W →
   CallsIn F n P g (#[.func (.yield l) #[] #[]] ++ lb) W fun e W' => (∃ v, e = .returned v) ∧ (J xs W' ∨ (∃ pre, pre <+: xs ∧ Jx pre W'))
structure RecAt (W : World) (b : Nat) (L : Loop) : Prop where
 loop : W.heap[b + 1]? = some (.loop L)
 coll : W.heap[b]? = some (.deferred (some []))
section
variable {W X Y : World} {b : Nat} {L L' : Loop}
theorem RecAt.lt (h : RecAt W b L) : b + 1 < W.heap.size := (Array.getElem?_eq_some_iff.1 h.loop).1
theorem RecAt.far (h : RecAt X b L) {row : Option Nat} (hg : X.grownBy Y row) (hr : ∀ r, row = some r → b + 2 ≤ r) : RecAt Y b L := by
 have hlt := h.lt
 exact ⟨(hg.block _ hlt (fun e => by have := hr _ e.symm; omega)).trans h.loop, (hg.block b (by omega) (fun e => by have := hr _ e.symm; omega)).trans h.coll⟩
theorem RecAt.keeps (h : RecAt X b L) (hk : KeepsFrom b X Y) : RecAt Y b L := ⟨hk.same _ _ (by omega) h.loop rfl, hk.same _ _ (Nat.le_refl _) h.coll rfl⟩
theorem RecAt.turn (h : RecAt W b L) (L' : Loop) : RecAt (W.putObj (b + 1) (.loop L')) b L' := ⟨World.putObj_heap_same h.lt, (World.putObj_heap_other (by omega)).trans h.coll⟩
theorem keeps_putObj (W : World) {B l : Nat} (o : Obj) (h : l < B) : KeepsFrom B W (W.putObj l o) := KeepsFrom.of_grownBy (grownBy_putObj' W l o) (fun j e => by cases e; exact h)
end
theorem wpIn_rangeP {α : Type} {g : Operand} {ps : Array Tmp} {assign body : Code} {Q : Exit → Act → World → Prop} {a : Act} {w : World}
   (hro : F.round = none) (h1 : 1 ≤ n) {gf : Nat} {lb : Array Value} (hg : a.eval g = .func (.func gf) #[] lb) (hFg : F.fn gf) (eg : ∀ args w, (callFunc gf args).run P w = .ok (.enter gf args) w)
   {encs : α → Array Value} {Kp : World → World → Prop} {xs : List α} {w0 : World} (hseq : SeqP F (n - 1) P gf lb encs Kp xs w0)
   (hKt : ∀ {A B C : World}, Kp A B → Kp B C → Kp A C) (hKb : ∀ (W : World) (l : Nat) (o o' : Obj), w.heap.size ≤ l → W.heap[l]? = some o → o.isCells = false → o.isWalk = false → Kp W (W.putObj l o')) (hb0 : Below w0.heap.size w0 w) (hps : ∀ x, (encs x).size = ps.size)
   (I : List α → World → Prop) (Ix : Code → List α → World → Prop) (hI : OwnFrom w.heap.size I) (hIx : ∀ c, OwnFrom w.heap.size (Ix c)) (h0 : I [] w) (Ax : α → Act → World → Prop) (hAx : ∀ x a', OwnFrom w.heap.size (fun (_ : Unit) W => Ax x a' W))
   (hassign : ∀ (l : Nat) (pre : List α) (x : α) (W : World) (K : Act → World → Prop), I pre W → (pre ++ [x]) <+: xs → (∀ a' W', KeepsFrom w.heap.size W W' → Kp W W' → I pre W' → Ax x a' W' → K a' W') →
     assign.wpIn (F.inRound l) (n - 1 - 1) P (Exit.then K (fun _ _ _ => False)) { tmps := (ps.zip (encs x)).foldl (fun t (p, v) => t.setIfInBounds p v) a.tmps, defers := [] } W)
   (hbody : ∀ (l : Nat) (pre : List α) (x : α) (a' : Act) (W : World), w.heap.size ≤ l → (∃ r, W.heap[l]? = some (.loop r)) → I pre W → Ax x a' W → (pre ++ [x]) <+: xs → body.wpIn (F.inRound l) (n - 1 - 1) P (ownPostG w.heap.size Kp I Ix (pre ++ [x]) W) a' W)
   (hdone : ∀ (D : Nat) (W : World), w.heap.size ≤ D → I xs W → W.heap[D]? = some (.deferred (some [])) → Q .normal { a with defers := { target := .collected D, args := #[] } :: a.defers } W)
   (hstop : ∀ (D : Nat) (c : Code) (pre : List α) (W : World), w.heap.size ≤ D → pre <+: xs → Ix c pre W → W.heap[D]? = some (.deferred (some [])) → c.wpIn F n P Q { a with defers := { target := .collected D, args := #[] } :: a.defers } W) :
   (Code.rangeFunc g ps assign body).wpIn F n P Q a w := by
 refine wpIn_rangeFunc fun fn hfn => ?_
 rw [hro]
 obtain ⟨b, hb⟩ : ∃ b, w.heap.size = b := ⟨_, rfl⟩
 obtain ⟨rec, hrec⟩ : ∃ rec : LoopState → Option Code → Loop, ∀ st pe, rec st pe = { state := st, pending := pe, fn, tmps := a.tmps, params := ps, assign, body, defers := b } := ⟨fun st pe => _, fun _ _ => rfl⟩
 obtain ⟨Wr, hWr⟩ : ∃ Wr, (w.alloc (.deferred (some []))).alloc (.loop (rec .ready none)) = Wr := ⟨_, rfl⟩
 have hsz : Wr.heap.size = b + 2 := by rw [← hWr, ← hb]; simp
 have hR : RecAt Wr b (rec .ready none) := by
   rw [← hWr, ← hb]
   refine ⟨?_, (Below.heap_alloc _ _ _ (by simp)).trans (World.alloc_heap_new w _)⟩
   have := World.alloc_heap_new (w.alloc (.deferred (some []))) (.loop (rec .ready none))
   rwa [World.size_alloc] at this
 have hI0 : I [] Wr := by rw [← hWr]; exact hI.alloc _ (hI.alloc _ h0)
 have hbl : Below w0.heap.size w0 Wr := by
   rw [← hWr]
   exact hb0.trans ((((Below.refl _ w).alloc (Nat.le_refl _) _).alloc (by simp) _).mono hb0.size)
 refine ⟨b + 1, [{ target := .collected b, args := #[] }], Wr, { target := .fn (.func gf) lb, args := #[.func (.yield (b + 1)) #[] #[]] }, Wr, gf, #[.func (.yield (b + 1)) #[] #[]] ++ lb, Wr, ?_, ?_, ?_, ?_, fun _ => h1, ?_⟩
 · rw [← hWr, hrec, ← hb]
   exact run_enterLoop_outer _ _ _ _ _
 · simp only [resolve, hg]
   simp [go_sem]
 · intro f' hf'
   simp [Target.leads] at hf'
   subst hf'
   exact hFg
 · simp [invoke, go_sem, eg]
 have free : ∀ {X Y : World} {row : Option Nat}, (∀ r, row = some r → Wr.heap.size ≤ r ∧ ∃ o : Obj, X.heap[r]? = some o ∧ o.isCells = false) → (∀ r, row = some r → w.heap.size ≤ r ∧ ∃ o : Obj, X.heap[r]? = some o ∧ o.isCells = false) :=
   fun hr r e => ⟨by have := (hr r e).1; omega, (hr r e).2⟩
 refine (hseq (b + 1) (fun pre W => I pre W ∧ RecAt W b (rec .ready none)) (fun pre W => ∃ c, Ix c pre W ∧ RecAt W b (rec .done (some c))) Wr hbl
   (fun s X Y row hs hg' hr => ⟨hI s X Y row hs.1 hg' (free (Y := Y) hr), hs.2.far hg' (fun r e => by have := (hr r e).1; omega)⟩)
   (fun s X Y row hs hg' hr => by
     obtain ⟨c, hc, hl⟩ := hs
     exact ⟨c, hIx c s X Y row hc hg' (free (Y := Y) hr), hl.far hg' (fun r e => by have := (hr r e).1; omega)⟩) ?_ ⟨hI0, hR⟩).mono ?_
 · rintro pre x W ⟨hi, hl⟩ hlen
   have hy := run_yield (P := P) (args := encs x) hl.loop (by rw [hrec]; exact hps x)
   rw [hrec] at hy
   refine ⟨fn, _, assign, body, hy, roundIn_of_wpIn hfn (hassign _ pre x W _ hi hlen fun a' Wa hkf hkp hia hax => ?_)⟩
   rw [hb] at hkf
   have hla := hl.keeps hkf
   have hbusy := hla.turn (rec .busy none)
   refine ⟨_, run_beginRound hla.loop (by rw [hrec]), ?_⟩
   have e1 : ({ rec .ready none with state := .busy } : Loop) = rec .busy none := by rw [hrec, hrec]
   rw [e1]
   refine wpIn_mono (hbody _ pre x a' _ (by omega) ⟨_, hbusy.loop⟩ (hI.putObj _ hia (by omega) hla.loop rfl) ((hAx x a').putObj (s := ()) _ hax (by omega) hla.loop rfl) hlen) ?_
   rw [hb]
   have fin : ∀ (jump : Option Code) (W3 : World), KeepsFrom b (Wa.putObj (b + 1) (.loop (rec .busy none))) W3 →
       RecAt W3 b (rec .busy none) ∧ (Instr.endRound (b + 1) jump).run P W3 = .ok (.bool jump.isNone) (W3.putObj (b + 1) (.loop (rec (if jump.isNone then .ready else .done) jump))) ∧
       KeepsFrom Wr.heap.size W (W3.putObj (b + 1) (.loop (rec (if jump.isNone then .ready else .done) jump))) := fun jump W3 hk3 => by
     have h3 := hbusy.keeps hk3
     have := run_endRound (P := P) jump (by rw [← e1] at h3; exact h3.loop)
     refine ⟨h3, ?_, ?_⟩
     · rw [hrec] at this ⊢
       exact this
     · rw [hsz]
       exact (((keeps_more hkf (by omega)).trans (keeps_putObj _ _ (by omega))).trans (keeps_more hk3 (by omega))).trans (keeps_putObj _ _ (by omega))
   have hup : Kp W (Wa.putObj (b + 1) (.loop (rec .busy none))) := hKt hkp (hKb _ _ _ _ (by omega) hla.loop rfl rfl)
   rintro e a3 W3 hp
   cases e with
   | normal =>
     obtain ⟨hk3, hkp3, hi3⟩ := hp
     obtain ⟨h3, hr, hk⟩ := fin none W3 hk3
     exact ⟨_, _, hr, hk, .inl ⟨rfl, ⟨hI.putObj _ hi3 (by omega) h3.loop rfl, h3.turn _⟩, hKt (hKt hup hkp3) (hKb _ _ _ _ (by omega) h3.loop rfl rfl)⟩⟩
   | ret =>
     obtain ⟨hk3, hi3⟩ := hp
     obtain ⟨h3, hr, hk⟩ := fin (some .ret) W3 hk3
     exact ⟨_, _, hr, hk, .inr ⟨rfl, .ret, (hIx _).putObj _ hi3 (by omega) h3.loop rfl, h3.turn _⟩⟩
   | exit id =>
     obtain ⟨hk3, hi3⟩ := hp
     obtain ⟨h3, hr, hk⟩ := fin (some (.exit id)) W3 hk3
     exact ⟨_, _, hr, hk, .inr ⟨rfl, .exit id, (hIx _).putObj _ hi3 (by omega) h3.loop rfl, h3.turn _⟩⟩
   | goto t =>
     obtain ⟨hk3, hi3⟩ := hp
     obtain ⟨h3, hr, hk⟩ := fin (some (.goto t)) W3 hk3
     exact ⟨_, _, hr, hk, .inr ⟨rfl, .goto t, (hIx _).putObj _ hi3 (by omega) h3.loop rfl, h3.turn _⟩⟩
   | panic ch => exact hp.elim
   | outgrown => exact hp.elim
 · rintro e W2 ⟨⟨v, rfl⟩, (⟨hi, hl⟩ | ⟨pre, hSp, c, hi, hl⟩)⟩
   · refine ⟨none, W2.putObj (b + 1) (.loop (rec .exhausted none)), ?_, hdone b _ (by omega) (hI.putObj _ hi (by omega) hl.loop rfl) ((World.putObj_heap_other (by omega)).trans hl.coll)⟩
     have := run_endLoop (P := P) hl.loop (by rw [hrec]; simp)
     rw [hrec] at this ⊢
     exact this
   · refine ⟨some c, W2.putObj (b + 1) (.loop (rec .exhausted (some c))), ?_, hstop b c pre _ (by omega) hSp ((hIx c).putObj _ hi (by omega) hl.loop rfl) ((World.putObj_heap_other (by omega)).trans hl.coll)⟩
     have := run_endLoop (P := P) hl.loop (by rw [hrec]; simp)
     rw [hrec] at this ⊢
     exact this
end Go.Proofs.YtcffeokbipjaoaaGreat
namespace Go.Proofs.YtcffeokbipjaoaaGreat
open Go.RowKit Go.Shelf
set_option linter.unusedVariables false
set_option linter.unusedSimpArgs false
attribute [local go_sem] Oper.semAt_some
def allT (L : Nat → List Nat) (t : Nat) : List Nat := (List.range t).flatMap L
theorem allT_succ (L : Nat → List Nat) (t : Nat) : allT L (t + 1) = allT L t ++ L t := by unfold allT; rw [List.range_succ, List.flatMap_append]; simp
theorem allT_pre (L : Nat → List Nat) {t N : Nat} (h : t ≤ N) : allT L t <+: allT L N := by
 obtain ⟨d, rfl⟩ := Nat.le.dest h
 clear h
 induction d with
 | zero => exact List.prefix_refl _
 | succ d ih => rw [← Nat.add_assoc, allT_succ]; exact ih.trans (List.prefix_append _ _)
abbrev encQ (V : Nat → Int) (R : Nat → Rq) (i : Nat) : Array Value := #[.int .u64 (V i), rqv (R i)]
abbrev tyQ : TypeId := 84
abbrev tyY : TypeId := 171
abbrev tyR : TypeId := 148
abbrev tyI : TypeId := 3
structure KpQ (B k : Nat) (X Y : World) : Prop where
 be : Below B X Y
 bx : ∀ g t cs, k ≤ g → (t = tyQ ∨ t = tyY ∨ t = tyR ∨ t = tyI) → Blk X g t cs → Blk Y g t cs
theorem KpQ.refl (B k : Nat) (X : World) : KpQ B k X X := ⟨Below.refl _ _, fun _ _ _ _ _ h => h⟩
theorem KpQ.trans {B k : Nat} {X Y Z : World} (h : KpQ B k X Y) (j : KpQ B k Y Z) : KpQ B k X Z := ⟨h.be.trans j.be, fun g t cs hg ht hb => j.bx g t cs hg ht (h.bx g t cs hg ht hb)⟩
theorem KpQ.of_below {B k : Nat} {X Y : World} (h : Below X.heap.size X Y) (hB : B ≤ X.heap.size) : KpQ B k X Y := ⟨h.mono hB, fun g t cs _ _ hb => hb.below_ h hb.size⟩
theorem KpQ.put {B k : Nat} (X : World) (l : Nat) (o o' : Obj) (hl : B ≤ l) (h : X.heap[l]? = some o) (ho : o.isCells = false) : KpQ B k X (X.putObj l o') :=
 ⟨⟨rfl, rfl, rfl, by simp, fun i hi => World.putObj_heap_other (by omega)⟩, fun g t cs _ _ hb => by
   have hne : g ≠ l := by
     rintro rfl
     unfold Blk at hb
     rw [hb] at h
     injection h with h
     subst h
     cases ho
   unfold Blk at hb ⊢
   rw [World.putObj_heap_other hne]
   exact hb⟩
def Marks (B : Nat) (ds : List Deferred) (W : World) : Prop := (ds.map fun d => d.target).Nodup ∧ ∀ d, d ∈ ds → ∃ D, d = { target := .collected D, args := #[] } ∧ B ≤ D ∧ W.heap[D]? = some (.deferred (some []))
theorem Marks.keeps {B : Nat} {ds : List Deferred} {W W' : World} (h : Marks B ds W) (hk : KeepsFrom B W W') : Marks B ds W' :=
 ⟨h.1, fun d hd => by obtain ⟨D, h1, h2, h3⟩ := h.2 d hd; exact ⟨D, h1, h2, hk.same D _ h2 h3 rfl⟩⟩
theorem Marks.own {B B' : Nat} {ds : List Deferred} {W X Y : World} {row : Option Nat} (h0 : Marks B ds W) (hB : W.heap.size ≤ B') (h : Marks B ds X) (hg : X.grownBy Y row) (hr : ∀ r, row = some r → B' ≤ r) : Marks B ds Y :=
 ⟨h.1, fun d hd => by
   obtain ⟨D, h1, h2, h3⟩ := h.2 d hd
   obtain ⟨D', h1', _, h3'⟩ := h0.2 d hd
   have e : D = D' := by rw [h1] at h1'; injection h1' with h1'; injection h1'
   subst e
   have hlt := (Array.getElem?_eq_some_iff.1 h3').1
   refine ⟨D, h1, h2, (hg.block D (Array.getElem?_eq_some_iff.1 h3).1 (fun e => ?_)).trans h3⟩
   have := hr D e.symm
   omega⟩
theorem Marks.add {B D : Nat} {ds : List Deferred} {W : World} (h : Marks B ds W) (hB : B ≤ D) (hD : W.heap[D]? = some (.deferred (some []))) (hn : ∀ d, d ∈ ds → ∀ D', d = { target := .collected D', args := #[] } → D' < D) : Marks B ({ target := .collected D, args := #[] } :: ds) W := by
 refine ⟨?_, fun d hd => ?_⟩
 · rw [List.map_cons]
   refine List.nodup_cons.2 ⟨fun m => ?_, h.1⟩
   obtain ⟨d, hd, e⟩ := List.mem_map.1 m
   obtain ⟨D', h1, _, _⟩ := h.2 d hd
   have := hn d hd D' h1
   rw [h1] at e
   have e2 : D' = D := by simpa using e
   omega
 · rcases List.mem_cons.1 hd with rfl | hd
   · exact ⟨D, rfl, hB, hD⟩
   · exact h.2 d hd
theorem leaves_marks {F : Fence} {n : Nat} {P : Program} {fn : Func} {tmps : Array Value} {R : Ending → World → Prop} {B : Nat} {v : Value} (hv : ∀ W, (results fn tmps).run P W = .ok v W) (Φ : World → Prop) (hΦ : OwnFrom B (fun (_ : Unit) W => Φ W)) (hR : ∀ W, Φ W → R (.returned v) W) :
   ∀ (ds : List Deferred) (W : World), Marks B ds W → Φ W → LeavesInM F n P fn tmps R ds .returning W
 | [], W, _, h => ⟨v, hv W, hR W h⟩
 | d :: ds, W, hm, h => by
   obtain ⟨D, rfl, hB, hD⟩ := hm.2 d List.mem_cons_self
   have h9 := hm.1
   rw [List.map_cons] at h9
   have h8 := List.nodup_cons.1 h9
   refine ⟨by simp, .inl ⟨D, _, rfl, run_takeDeferred hD, leaves_marks hv Φ hΦ hR ds _ ⟨h8.2, fun d hd => ?_⟩ (hΦ.putObj (s := ()) _ h hB hD rfl)⟩⟩
   obtain ⟨D', h1, h2, h3⟩ := hm.2 d (List.mem_cons_of_mem _ hd)
   refine ⟨D', h1, h2, (World.putObj_heap_other ?_).trans h3⟩
   rintro rfl
   exact h8.1 (List.mem_map.2 ⟨d, hd, by rw [h1]⟩)
end Go.Proofs.YtcffeokbipjaoaaGreat
namespace Go.Proofs.YtcffeokbipjaoaaGreat
open Go.RowKit Go.Shelf
set_option linter.unusedVariables false
section
variable {p a b R M : Nat} {n : Nat → Nat} {A : Nat → Nat → Nat} {L : Nat → List Nat} {ub : Int}
theorem upto_cut (s : Nat → Nat) (N j : Nat) (h : j < N) : (upto s j ++ [s j]) <+: upto s N := by rw [← upto_succ]; exact upto_pre s h
theorem rows_way {k m r : Nat} (w : World) (h : RowsL w p a b R M L ub) (hr : r < R) (hm : 1 ≤ m) (hk : k + 1 + 1 + 1 < w.heap.size) (hA : AllAt w k (some ⟨p, 0, none⟩) (r : Int) 0 1) :
   SeqP Fence.wide m Tryz.prog 138 (allv k) encN (Same (Its p a b k)) (L r) w := by
 rw [← upto_front (L := L) r]
 intro l J Jx W hW hJ hJx hY h0
 have hJa : AbidesFrom W.heap.size J := fun s X Y row hs hg hr => hJ s X Y row hs hg (fun r e => by obtain ⟨a, o, b, c⟩ := hr r e; exact ⟨a, o, b, Obj.not_cells_of_walk c⟩)
 have hJxa : AbidesFrom W.heap.size Jx := fun s X Y row hs hg hr => hJx s X Y row hs hg (fun r e => by obtain ⟨a, o, b, c⟩ := hr r e; exact ⟨a, o, b, Obj.not_cells_of_walk c⟩)
 have hend : ∀ {e W'}, ((∃ v, e = Ending.returned v) ∧ ((∃ ys, ys = upto (away (lenL L) (getL L) r false) (lenL L r) ∧ J ys W') ∨ (∃ pre, pre <+: upto (away (lenL L) (getL L) r false) (lenL L r) ∧ Jx pre W'))) →
     (∃ v, e = Ending.returned v) ∧ (J (upto (away (lenL L) (getL L) r false) (lenL L r)) W' ∨ ∃ pre, pre <+: upto (away (lenL L) (getL L) r false) (lenL L r) ∧ Jx pre W') := by
   rintro e W' ⟨hv, ⟨ys, rfl, hj⟩ | hx⟩
   · exact ⟨hv, .inl hj⟩
   · exact ⟨hv, .inr hx⟩
 by_cases hn : lenL L r = 0
 · have hs := all_stops_none (n := m) (Kp := Same (Its p a b k)) (f := 0) (z0 := 0) w hm hk hA fun W hB => by
     have hl := RowsAt.lts h
     obtain ⟨E0, E1, C, V, B0, B1, U, h1, h2, h3⟩ := RowsAt.below h hB hl.1 hl.2.1 hl.2.2
     exact dat_none hr ((h2.cnt r hr).trans (by omega)) _ W h1
   refine (hs l J Jx W hW hJa hJxa (fun pre x W1 h hl => absurd hl (Nat.not_lt_zero _)) h0).mono ?_
   rintro e W' ⟨hv, (⟨ys, rfl, hj⟩ | ⟨pre, hF, _⟩)⟩
   · rw [hn]; exact ⟨hv, .inl hj⟩
   · exact hF.elim
 · have hl := RowsAt.lts h
   obtain ⟨E0, E1, C, V, B0, B1, U, h1, h2, h3⟩ := h
   have hC := h2.cnt r hr
   refine CallsIn.mono (all_way (n := m) (t := 1) (s := away (lenL L) (getL L) r false) (N := lenL L r) (z0 := E0 r) (o0 := true) w (fun h0 => ?_) (by simp; omega) hm (by omega) hk hA h1 ⟨fun j hj => ?_⟩ (fun W hB => ?_) l J Jx W hW hJa (fun j W1 hj h => ?_) h0) (fun e W' => hend)
   · have := h2.first r hr
     rw [this]; unfold fst; rw [if_pos h0]; rfl
   · have hx := h2.mem r hr j hj
     refine ⟨hx.1, ?_, ?_⟩
     · show 0 ≤ V (getL L r j); omega
     · have := h1.b1 hx.1
       rw [hx.2.2.2] at this
       exact this
   · exact dat_first hr (by omega) W (h1.below hB hl.1 hl.2.1 hl.2.2)
   · exact YieldAt.mono (hY _ _ W1 h (upto_cut _ _ _ hj)) fun e W2 hh => hh.2
end
end Go.Proofs.YtcffeokbipjaoaaGreat
