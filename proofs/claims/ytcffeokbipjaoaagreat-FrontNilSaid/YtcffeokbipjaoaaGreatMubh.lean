/- Texts of this claim, one behind the other: Fnb Fnc Rngh Rngi. -/
import Derived.Deep.QuietTactic
import Derived.BigQuiet
import Derived.Lib.Builder
import Derived.Laws.MakeOwn
import Derived.WalkMore
import Derived.ScopeJumps
import Derived.Deep.DeepCutAuto
import Derived.Test.YtcffeokbipjaoaaGreatMuav
import Derived.Test.YtcffeokbipjaoaaGreatMubf
import Derived.Test.YtcffeokbipjaoaaGreatMubg
namespace Go.Proofs.YtcffeokbipjaoaaGreat
open Go.RowKit Go.ChangeShapes Go.WideShapes Go.Deep
set_option linter.unusedVariables false
set_option linter.unusedSimpArgs false
abbrev frT : TypeId := 129
abbrev caT : TypeId := 144
abbrev apT : TypeId := 79
abbrev asT : TypeId := 61
abbrev bpT : TypeId := 130
def apRow (a : ApV) : List Value := [.int .i64 a.t, .int .i64 a.k, .int .u8 a.o.k, .int .i64 a.o.t, .int .i64 a.o.c, .int .i64 a.o.n, .int .u8 a.r.a, .int .u64 a.r.k, .int .i64 a.r.t, .int .i64 a.r.c, .int .i64 a.r.s]
def flatA (L : List ApV) : List Value := L.flatMap apRow
theorem flatA_append (l l' : List ApV) : flatA (l ++ l') = flatA l ++ flatA l' := by unfold flatA; simp
theorem flatA_one (e : ApV) : flatA [e] = apRow e := by unfold flatA; simp
def ptrV (c : CaV) (a : Nat) : Value := if c.ac.isSome then .pointer (some ⟨a, 0, none⟩) else .pointer none
def caRowV (c : CaV) (a : Nat) : List Value := [.int .i64 c.nx, .int .u8 c.op.k, .int .i64 c.op.t, .int .i64 c.op.c, .int .i64 c.op.n, ptrV c a, .int .i64 c.lf, .int .i64 c.sv, .int .u8 c.re.a, .int .u64 c.re.k, .int .i64 c.re.t, .int .i64 c.re.c, .int .i64 c.re.s]
structure FAd where
 pc : Nat
 r : Nat
 s : Nat
 lk : Nat
 gb : Nat
 bc : Nat
 gc : Nat
 pa : Nat
 ga : Option Nat
 ab : Nat → Nat
 aa : Nat → Nat
 oc : Nat → Prop
structure FrB (w : World) (f : Nat) (A : FAd) (F : FrS) : Prop where
 head : Blk w f frT #[.pointer (some ⟨A.pc, 0, none⟩), .pointer (some ⟨A.r, 0, none⟩), .pointer (some ⟨A.lk, 0, none⟩), .slice (some ⟨A.gb, 0, none⟩) F.N A.bc, .slice (some ⟨A.gc, 0, none⟩) F.N F.N, .int .i64 F.clk, .pointer (some ⟨A.pa, 0, none⟩)]
 core : CoreL w A.pc A.oc F.S
 ring : RingAt w A.r A.s F.n F.g
 lock : LkAt w A.lk F.lo
 bxs : ∃ cs, Blk w A.gb bpT cs ∧ ∀ i, i < F.N → cs[i]? = some (.pointer (some ⟨A.ab i, 0, none⟩))
 box : ∀ i, i < F.N → BoxAt w (A.ab i) (F.bx i).s (F.bx i).o (F.bx i).r
 cal : RB w A.gc caT 13 F.N (fun i => caRowV (F.ca i) (A.aa i))
 act : ∀ i a, i < F.N → (F.ca i).ac = some a → ActAt w (A.aa i) A.r a
 app : ∃ v, Blk w A.pa asT #[v] ∧ w.ownsRow 0 apT 11 v F.L.length (flatA F.L) ∧ v.ownBlock = A.ga
 bxi : ∀ i j, i < F.N → j < F.N → A.ab i = A.ab j → i = j
 aci : ∀ i j a b, i < F.N → j < F.N → (F.ca i).ac = some a → (F.ca j).ac = some b → A.aa i = A.aa j → i = j
def fOwn (f : Nat) (A : FAd) (F : FrS) (k : Nat) : Prop :=
 k = f ∨ A.oc k ∨ k = A.r ∨ k = A.s ∨ k = A.lk ∨ k = A.gb ∨ k = A.gc ∨ k = A.pa ∨ A.ga = some k ∨ (∃ i, i < F.N ∧ k = A.ab i) ∨ (∃ i a, i < F.N ∧ (F.ca i).ac = some a ∧ k = A.aa i)
structure FrL (w : World) (f : Nat) (O : Nat → Prop) (F : FrS) : Prop where
 ex : ∃ A, FrB w f A F ∧ ∀ k, O k ↔ fOwn f A F k
def FStep (w : World) (f : Nat) (O : Nat → Prop) (F : FrS) (w' : World) : Prop := ∃ O' : Nat → Prop, FrL w' f O' F ∧ (∀ k, O' k → O k ∨ w.heap.size ≤ k) ∧ Kept O w w'
abbrev tqT : TypeId := 159
abbrev rwT : TypeId := 213
def Far (w : World) (Ts : List TypeId) (own : Nat → Prop) : Prop := ∀ k T cs, Blk w k T cs → T ∉ Ts → ¬ own k
section
variable {w w' w'' : World} {f : Nat} {A A' : FAd} {F F' : FrS} {own O O' : Nat → Prop} {Ts : List TypeId}
theorem Kept.set1 {g : Nat} (h : Kept (fun k => k = g) w w') (i : Nat) (v : Value) : Kept (fun k => k = g) w (w'.setCell ⟨g, i, none⟩ v) := Kept.set_ (own := fun k => k = g) (p := ⟨g, i, none⟩) h (.inl rfl) v
theorem far_one {g : Nat} {T : TypeId} {cs : Array Value} (h : Blk w g T cs) : Far w [T] (fun k => k = g) := fun k T' cs' h' hT e => by
 subst e
 exact h'.other h (fun e => hT (by rw [e]; exact List.mem_singleton.2 rfl)) rfl
theorem Far.none : Far w Ts (fun _ => False) := fun _ _ _ _ _ h => h
theorem FrB.head_f (h : FrB w f A F) (hk : Kept own w w') (hf : Far w Ts own) (hT : frT ∉ Ts) : Blk w' f frT #[.pointer (some ⟨A.pc, 0, none⟩), .pointer (some ⟨A.r, 0, none⟩), .pointer (some ⟨A.lk, 0, none⟩), .slice (some ⟨A.gb, 0, none⟩) F.N A.bc, .slice (some ⟨A.gc, 0, none⟩) F.N F.N, .int .i64 F.clk, .pointer (some ⟨A.pa, 0, none⟩)] := h.head.kept hk (hf _ _ _ h.head hT)
theorem FrB.core_f (h : FrB w f A F) (hk : Kept own w w') (hf : Far w Ts own) (hT : ∀ T ∈ tqT :: rwT :: coTypes, T ∉ Ts) (ho : ∀ k, own k → k < w.heap.size → ∃ T cs, T ∈ Ts ∧ Blk w k T cs) : CoreL w' A.pc A.oc F.S :=
 h.core.far hk (fun k hc hw => by
   obtain ⟨T, cs, hm, hb⟩ := ho k hw (h.core.lt hc)
   refine h.core.not_t hb (fun hc' => hT T ?_ hm) hc
   exact List.mem_cons_of_mem _ (List.mem_cons_of_mem _ hc')) (fun k cs hb => hf _ _ _ hb (hT _ (List.mem_cons_self ..))) (fun k cs hb => hf _ _ _ hb (hT _ (List.mem_cons_of_mem _ (List.mem_cons_self ..))))
theorem FrB.ring_f (h : FrB w f A F) (hk : Kept own w w') (hf : Far w Ts own) (h1 : 181 ∉ Ts) (h2 : 183 ∉ Ts) : RingAt w' A.r A.s F.n F.g := by
 obtain ⟨cs, hb, _⟩ := h.ring.slots
 exact h.ring.kept hk (hf _ _ _ h.ring.head h1) (hf _ _ _ hb h2)
theorem FrB.lock_f (h : FrB w f A F) (hk : Kept own w w') (hf : Far w Ts own) (h1 : 186 ∉ Ts) : LkAt w' A.lk F.lo := Blk.kept h.lock hk (hf _ _ _ h.lock h1)
theorem FrB.bxs_f (h : FrB w f A F) (hk : Kept own w w') (hf : Far w Ts own) (h1 : bpT ∉ Ts) : ∃ cs, Blk w' A.gb bpT cs ∧ ∀ i, i < F.N → cs[i]? = some (.pointer (some ⟨A.ab i, 0, none⟩)) := by
 obtain ⟨cs, hb, hc⟩ := h.bxs
 exact ⟨cs, hb.kept hk (hf _ _ _ hb h1), hc⟩
theorem FrB.box_f (h : FrB w f A F) (hk : Kept own w w') (hf : Far w Ts own) (h1 : 190 ∉ Ts) : ∀ i, i < F.N → BoxAt w' (A.ab i) (F.bx i).s (F.bx i).o (F.bx i).r := fun i hi => Blk.kept (h.box i hi) hk (hf _ _ _ (h.box i hi) h1)
theorem FrB.cal_f (h : FrB w f A F) (hk : Kept own w w') (hf : Far w Ts own) (h1 : caT ∉ Ts) : RB w' A.gc caT 13 F.N (fun i => caRowV (F.ca i) (A.aa i)) := by
 obtain ⟨cs, hb⟩ := h.cal.blk
 exact h.cal.kept hk (hf _ _ _ hb h1)
theorem FrB.act_f (h : FrB w f A F) (hk : Kept own w w') (hf : Far w Ts own) (h1 : 256 ∉ Ts) : ∀ i a, i < F.N → (F.ca i).ac = some a → ActAt w' (A.aa i) A.r a := fun i a hi ha => Blk.kept (h.act i a hi ha) hk (hf _ _ _ (h.act i a hi ha) h1)
theorem FrB.app_f (h : FrB w f A F) (hk : Kept own w w') (hf : Far w Ts own) (h1 : asT ∉ Ts) (h2 : apT ∉ Ts) : ∃ v, Blk w' A.pa asT #[v] ∧ w'.ownsRow 0 apT 11 v F.L.length (flatA F.L) ∧ v.ownBlock = A.ga := by
 obtain ⟨v, hb, ho, hv⟩ := h.app
 exact ⟨v, hb.kept hk (hf _ _ _ hb h1), own_kept ho hk (fun g cs hg => hf _ _ _ hg h2), hv⟩
theorem FrB.below (h : FrB w f A F) (hb : Below w.heap.size w w') : FrB w' f A F := by
 have hk : Kept (fun _ => False) w w' := Kept.of_below hb
 have hf : Far w [] (fun _ => False) := Far.none
 exact ⟨h.head_f hk hf (by simp), h.core.below hb, h.ring_f hk hf (by simp) (by simp), h.lock_f hk hf (by simp), h.bxs_f hk hf (by simp), h.box_f hk hf (by simp), h.cal_f hk hf (by simp), h.act_f hk hf (by simp), h.app_f hk hf (by simp) (by simp), h.bxi, h.aci⟩
theorem FrB.toBx (h : FrB w f A F) {i : Nat} (hi : i < F.N) {b : BxV} (hb : BoxAt w' (A.ab i) b.s b.o b.r) (hk : Kept (fun k => k = A.ab i) w w') : FrB w' f A (F.setBx i b) := by
 have hf := far_one (h.box i hi)
 refine ⟨h.head_f hk hf (by decide), h.core_f hk hf (by decide) (fun k e _ => ⟨_, _, List.mem_singleton.2 rfl, e ▸ h.box i hi⟩), h.ring_f hk hf (by decide) (by decide), h.lock_f hk hf (by decide), h.bxs_f hk hf (by decide), fun j hj => ?_, h.cal_f hk hf (by decide), h.act_f hk hf (by decide), h.app_f hk hf (by decide) (by decide), h.bxi, h.aci⟩
 show BoxAt w' (A.ab j) (upd F.bx i b j).s (upd F.bx i b j).o (upd F.bx i b j).r
 by_cases e : j = i
 · subst e
   rw [upd_at]
   exact hb
 · rw [upd_ne _ _ e]
   exact Blk.kept (h.box j hj) hk (fun e' => e (h.bxi j i hj hi e'))
theorem FrB.toLk (h : FrB w f A F) {x : Int} (hb : LkAt w' A.lk x) (hk : Kept (fun k => k = A.lk) w w') : FrB w' f A { F with lo := x } := by
 have hf := far_one h.lock
 exact ⟨h.head_f hk hf (by decide), h.core_f hk hf (by decide) (fun k e _ => ⟨_, _, List.mem_singleton.2 rfl, e ▸ h.lock⟩), h.ring_f hk hf (by decide) (by decide), hb, h.bxs_f hk hf (by decide), h.box_f hk hf (by decide), h.cal_f hk hf (by decide), h.act_f hk hf (by decide), h.app_f hk hf (by decide) (by decide), h.bxi, h.aci⟩
theorem FrB.toCa (h : FrB w f A F) {i j : Nat} (hi : i < F.N) (hj : j < 13) (v : Value) (c : CaV) (hr : (caRowV (F.ca i) (A.aa i)).set j v = caRowV c (A.aa i)) (hc : c.ac = (F.ca i).ac) : FrB (w.setCell ⟨A.gc, i * 13 + j, none⟩ v) f A (F.setCa i c) := by
 obtain ⟨cs, hb⟩ := h.cal.blk
 have hk : Kept (fun k => k = A.gc) w (w.setCell ⟨A.gc, i * 13 + j, none⟩ v) := kset1 _ _ _ _
 have hf := far_one hb
 have hac : ∀ k, (upd F.ca i c k).ac = (F.ca k).ac := fun k => by
   by_cases e : k = i
   · subst e; rw [upd_at, hc]
   · rw [upd_ne _ _ e]
 refine ⟨h.head_f hk hf (by decide), h.core_f hk hf (by decide) (fun k e _ => ⟨_, _, List.mem_singleton.2 rfl, e ▸ hb⟩), h.ring_f hk hf (by decide) (by decide), h.lock_f hk hf (by decide), h.bxs_f hk hf (by decide), h.box_f hk hf (by decide), ?_, fun k a hk' ha => h.act_f hk hf (by decide) k a hk' ((hac k).symm.trans ha), h.app_f hk hf (by decide) (by decide), h.bxi, fun k l a b h1 h2 h3 h4 => h.aci k l a b h1 h2 ((hac k).symm.trans h3) ((hac l).symm.trans h4)⟩
 refine (h.cal.set_ hi hj rfl v).congr_ fun t ht => ?_
 show _ = caRowV (upd F.ca i c t) (A.aa t)
 by_cases e : t = i
 · subst e
   rw [if_pos rfl, upd_at, hr]
 · rw [if_neg e, upd_ne _ _ e]
theorem FrB.toAct (h : FrB w f A F) {i x : Nat} (hi : i < F.N) (a : Ac) (ha : ActAt w x A.r a) (hx : ∀ j b, j < F.N → j ≠ i → (F.ca j).ac = some b → A.aa j ≠ x) : FrB (w.setCell ⟨A.gc, i * 13 + 5, none⟩ (.pointer (some ⟨x, 0, none⟩))) f { A with aa := upd A.aa i x } (F.setCa i { F.ca i with ac := some a }) := by
 obtain ⟨cs, hb⟩ := h.cal.blk
 have hk : Kept (fun k => k = A.gc) w (w.setCell ⟨A.gc, i * 13 + 5, none⟩ (.pointer (some ⟨x, 0, none⟩))) := kset1 _ _ _ _
 have hf := far_one hb
 have hac : ∀ k, k ≠ i → (upd F.ca i { F.ca i with ac := some a } k).ac = (F.ca k).ac := fun k e => by rw [upd_ne _ _ e]
 refine ⟨h.head_f hk hf (by decide), h.core_f hk hf (by decide) (fun k e _ => ⟨_, _, List.mem_singleton.2 rfl, e ▸ hb⟩), h.ring_f hk hf (by decide) (by decide), h.lock_f hk hf (by decide), h.bxs_f hk hf (by decide), h.box_f hk hf (by decide), ?_, fun k b hk' hb' => ?_, h.app_f hk hf (by decide) (by decide), h.bxi, fun k l b c h1 h2 h3 h4 h5 => ?_⟩
 · refine (h.cal.set_ hi (show 5 < 13 by omega) rfl (.pointer (some ⟨x, 0, none⟩))).congr_ fun t ht => ?_
   show _ = caRowV (upd F.ca i { F.ca i with ac := some a } t) (upd A.aa i x t)
   by_cases e : t = i
   · subst e
     rw [if_pos rfl, upd_at, upd_at]
     rfl
   · rw [if_neg e, upd_ne _ _ e, upd_ne _ _ e]
 · show ActAt _ (upd A.aa i x k) A.r b
   by_cases e : k = i
   · subst e
     rw [upd_at]
     have : a = b := by
       have h0 : (upd F.ca k { F.ca k with ac := some a } k).ac = some b := hb'
       rw [upd_at] at h0
       exact Option.some.inj h0
     subst this
     exact Blk.kept ha hk (hf _ _ _ ha (by decide))
   · rw [upd_ne _ _ e]
     exact h.act_f hk hf (by decide) k b hk' ((hac k e).symm.trans hb')
 · have h5' : upd A.aa i x k = upd A.aa i x l := h5
   by_cases e1 : k = i <;> by_cases e2 : l = i
   · rw [e1, e2]
   · rw [e1, upd_at, upd_ne _ _ e2] at h5'
     exact absurd h5'.symm (hx l c h2 e2 ((hac l e2).symm.trans h4))
   · rw [e2, upd_at, upd_ne _ _ e1] at h5'
     exact absurd h5' (hx k b h1 e1 ((hac k e1).symm.trans h3))
   · rw [upd_ne _ _ e1, upd_ne _ _ e2] at h5'
     exact h.aci k l b c h1 h2 ((hac k e1).symm.trans h3) ((hac l e2).symm.trans h4) h5'
theorem FrB.toStep (h : FrB w f A F) {i : Nat} (hi : i < F.N) {a a' : Ac} {g : Rg} (ha : (F.ca i).ac = some a) (hr : RingAt w' A.r A.s F.n g) (hb : ActAt w' (A.aa i) A.r a') (hk : Kept (Mine (A.aa i) A.r A.s) w w') : FrB w' f A ({ F with g := g }.setCa i { F.ca i with ac := some a' }) := by
 obtain ⟨cs, hs, _⟩ := h.ring.slots
 have hA := h.act i a hi ha
 have hf : Far w [256, 181, 183] (Mine (A.aa i) A.r A.s) := fun k T c hb hT hm => by
   simp only [List.mem_cons, List.not_mem_nil, or_false, not_or] at hT
   rcases hm with e | e | e
   · exact hb.other hA hT.1 e
   · exact hb.other h.ring.head hT.2.1 e
   · exact hb.other hs hT.2.2 e
 have ho : ∀ k, Mine (A.aa i) A.r A.s k → k < w.heap.size → ∃ T cs, T ∈ [256, 181, 183] ∧ Blk w k T cs := fun k hm _ => by
   rcases hm with e | e | e
   · exact ⟨_, _, by simp, e ▸ hA⟩
   · exact ⟨_, _, by simp, e ▸ h.ring.head⟩
   · exact ⟨_, _, by simp, e ▸ hs⟩
 have hac : ∀ k, k ≠ i → (upd F.ca i { F.ca i with ac := some a' } k).ac = (F.ca k).ac := fun k e => by rw [upd_ne _ _ e]
 have hsome : ∀ k b, (upd F.ca i { F.ca i with ac := some a' } k).ac = some b → ∃ c, (F.ca k).ac = some c := fun k b hb => by
   by_cases e : k = i
   · subst e; exact ⟨a, ha⟩
   · exact ⟨b, (hac k e).symm.trans hb⟩
 refine ⟨h.head_f hk hf (by decide), h.core_f hk hf (by decide) ho, hr, h.lock_f hk hf (by decide), h.bxs_f hk hf (by decide), h.box_f hk hf (by decide), ?_, fun k b hk' hb' => ?_, h.app_f hk hf (by decide) (by decide), h.bxi, fun k l b c h1 h2 h3 h4 => ?_⟩
 · refine (h.cal_f hk hf (by decide)).congr_ fun t ht => ?_
   show _ = caRowV (upd F.ca i { F.ca i with ac := some a' } t) (A.aa t)
   by_cases e : t = i
   · subst e
     rw [upd_at]
     unfold caRowV ptrV
     rw [ha]
     rfl
   · rw [upd_ne _ _ e]
 · by_cases e : k = i
   · subst e
     have : a' = b := by
       have h0 : (upd F.ca k { F.ca k with ac := some a' } k).ac = some b := hb'
       rw [upd_at] at h0
       exact Option.some.inj h0
     subst this
     exact hb
   · have hb2 := (hac k e).symm.trans hb'
     refine Blk.kept (h.act k b hk' hb2) hk fun hm => ?_
     rcases hm with e' | e' | e'
     · exact e (h.aci k i b a hk' hi hb2 ha e')
     · exact Blk.other (h.act k b hk' hb2) h.ring.head (by decide) e'
     · exact Blk.other (h.act k b hk' hb2) hs (by decide) e'
 · obtain ⟨b', hb'⟩ := hsome k b h3
   obtain ⟨c', hc'⟩ := hsome l c h4
   exact h.aci k l b' c' h1 h2 hb' hc'
theorem FrB.toCore (h : FrB w f A F) {S : Cor} {O' : Nat → Prop} (hS : CoreL w' A.pc O' S) (hk : Kept A.oc w w') : FrB w' f { A with oc := O' } { F with S := S } := by
 have hf : Far w coTypes A.oc := fun k T cs hb hT => h.core.not_t hb hT
 exact ⟨h.head_f hk hf (by decide), hS, h.ring_f hk hf (by decide) (by decide), h.lock_f hk hf (by decide), h.bxs_f hk hf (by decide), h.box_f hk hf (by decide), h.cal_f hk hf (by decide), h.act_f hk hf (by decide), h.app_f hk hf (by decide) (by decide), h.bxi, h.aci⟩
theorem FrB.toClk (h : FrB w f A F) (x : Int) : FrB (w.setCell ⟨f, 5, none⟩ (.int .i64 x)) f A { F with clk := x } := by
 have hk : Kept (fun k => k = f) w (w.setCell ⟨f, 5, none⟩ (.int .i64 x)) := kset1 _ _ _ _
 have hf := far_one h.head
 exact ⟨h.head.set_ 5 _, h.core_f hk hf (by decide) (fun k e _ => ⟨_, _, List.mem_singleton.2 rfl, e ▸ h.head⟩), h.ring_f hk hf (by decide) (by decide), h.lock_f hk hf (by decide), h.bxs_f hk hf (by decide), h.box_f hk hf (by decide), h.cal_f hk hf (by decide), h.act_f hk hf (by decide), h.app_f hk hf (by decide) (by decide), h.bxi, h.aci⟩
theorem FrL.below (h : FrL w f O F) (hb : Below w.heap.size w w') : FrL w' f O F := by
 obtain ⟨⟨A, h1, h2⟩⟩ := h
 exact ⟨⟨A, h1.below hb, h2⟩⟩
theorem FStep.refl_ (h : FrL w f O F) (hb : Below w.heap.size w w') : FStep w f O F w' := ⟨O, h.below hb, fun k hk => .inl hk, Kept.of_below hb⟩
theorem FStep.below (h : FStep w f O F w') (hb : Below w'.heap.size w' w'') : FStep w f O F w'' := by
 obtain ⟨O', h1, h2, h3⟩ := h
 exact ⟨O', h1.below hb, h2, h3.trans (Kept.of_below hb)⟩
theorem FStep.after (hk : Kept O w w') (ho : ∀ k, O' k → O k ∨ w.heap.size ≤ k) (h : FStep w' f O' F w'') : FStep w f O F w'' := by
 obtain ⟨O1, h1, h2, h3⟩ := h
 refine ⟨O1, h1, fun k hk' => ?_, ?_⟩
 · rcases h2 k hk' with c | c
   · exact ho k c
   · have := hk.size; exact .inr (by omega)
 · refine ⟨h3.os.trans hk.os, h3.tape.trans hk.tape, h3.output.trans hk.output, Nat.le_trans hk.size h3.size, fun k hlt hn => (h3.block k (Nat.lt_of_lt_of_le hlt hk.size) (fun hc => ?_)).trans (hk.block k hlt hn)⟩
   rcases ho k hc with c | c
   · exact hn c
   · omega
theorem FStep.of (h : FrB w' f A' F') (ho : ∀ k, fOwn f A' F' k → O k ∨ w.heap.size ≤ k) (hk : Kept O w w') : FStep w f O F' w' := ⟨fOwn f A' F', ⟨⟨A', h, fun _ => Iff.rfl⟩⟩, ho, hk⟩
end
end Go.Proofs.YtcffeokbipjaoaaGreat
namespace Go.Proofs.YtcffeokbipjaoaaGreat
open Go.ChangeShapes Go.WideShapes Go.RowKit
set_option linter.unusedVariables false
set_option linter.unusedSimpArgs false
section
variable {w w' : World} {f : Nat} {A : FAd} {F : FrS}
theorem FrB.c0 (h : FrB w f A F) : w.cell? ⟨f, 0, none⟩ = some (.pointer (some ⟨A.pc, 0, none⟩)) := h.head.val (i := 0) rfl
theorem FrB.c1 (h : FrB w f A F) : w.cell? ⟨f, 1, none⟩ = some (.pointer (some ⟨A.r, 0, none⟩)) := h.head.val (i := 1) rfl
theorem FrB.c2 (h : FrB w f A F) : w.cell? ⟨f, 2, none⟩ = some (.pointer (some ⟨A.lk, 0, none⟩)) := h.head.val (i := 2) rfl
theorem FrB.c3 (h : FrB w f A F) : w.cell? ⟨f, 3, none⟩ = some (.slice (some ⟨A.gb, 0, none⟩) F.N A.bc) := h.head.val (i := 3) rfl
theorem FrB.c4 (h : FrB w f A F) : w.cell? ⟨f, 4, none⟩ = some (.slice (some ⟨A.gc, 0, none⟩) F.N F.N) := h.head.val (i := 4) rfl
theorem FrB.c5 (h : FrB w f A F) : w.cell? ⟨f, 5, none⟩ = some (.int .i64 F.clk) := h.head.val (i := 5) rfl
theorem FrB.c6 (h : FrB w f A F) : w.cell? ⟨f, 6, none⟩ = some (.pointer (some ⟨A.pa, 0, none⟩)) := h.head.val (i := 6) rfl
theorem FrB.zf (h : FrB w f A F) (k : Nat) : w.frozen? ⟨f, k, none⟩ = false := h.head.free k
theorem FrB.zc (h : FrB w f A F) (k : Nat) : w.frozen? ⟨A.gc, k, none⟩ = false := h.cal.free k
theorem FrB.kc (h : FrB w f A F) {i j : Nat} {v : Value} (hi : i < F.N) (hj : j < 13) (hv : (caRowV (F.ca i) (A.aa i))[j]? = some v) : w.cell? ⟨A.gc, i * 13 + j, none⟩ = some v := h.cal.at_ hi hj hv
theorem FrB.k0 (h : FrB w f A F) {i : Nat} (hi : i < F.N) : w.cell? ⟨A.gc, i * 13, none⟩ = some (.int .i64 (F.ca i).nx) := h.kc (j := 0) hi (by omega) rfl
theorem FrB.k5 (h : FrB w f A F) {i : Nat} {a : Ac} (hi : i < F.N) (ha : (F.ca i).ac = some a) : w.cell? ⟨A.gc, i * 13 + 5, none⟩ = some (.pointer (some ⟨A.aa i, 0, none⟩)) := h.kc (j := 5) hi (by omega) (by show some (ptrV (F.ca i) (A.aa i)) = _; unfold ptrV; rw [ha]; rfl)
theorem FrB.k6 (h : FrB w f A F) {i : Nat} (hi : i < F.N) : w.cell? ⟨A.gc, i * 13 + 6, none⟩ = some (.int .i64 (F.ca i).lf) := h.kc (j := 6) hi (by omega) rfl
theorem FrB.k7 (h : FrB w f A F) {i : Nat} (hi : i < F.N) : w.cell? ⟨A.gc, i * 13 + 7, none⟩ = some (.int .i64 (F.ca i).sv) := h.kc (j := 7) hi (by omega) rfl
theorem FrB.bp (h : FrB w f A F) {i : Nat} (hi : i < F.N) : w.cell? ⟨A.gb, i, none⟩ = some (.pointer (some ⟨A.ab i, 0, none⟩)) := by
 obtain ⟨cs, hb, hc⟩ := h.bxs
 exact hb.val (hc i hi)
set_option maxRecDepth 100000 in
theorem fr_threads (h : FrB w f A F) : Calls Tryz.prog 30 #[.pointer (some ⟨f, 0, none⟩)] w fun e w' => e = .returned (.int .i64 (F.N : Int)) ∧ w = w' := by
 have c := h.c4
 clear h
 go_enter Tryz.func30, Tryz.ntmps30
 go_wp2
 go_ret
 exact ⟨rfl, rfl⟩
set_option maxRecDepth 100000 in
theorem frn_threads (w : World) : Calls Tryz.prog 30 #[.pointer none] w fun e w' => e = .returned (.int .i64 0) ∧ w = w' := by
 go_enter Tryz.func30, Tryz.ntmps30
 go_wp2
 go_ret
 exact ⟨rfl, rfl⟩
set_option maxRecDepth 100000 in
theorem frn_core (w : World) : Calls Tryz.prog 33 #[.pointer none] w fun e w' => e = .returned (.pointer none) ∧ w = w' := by
 go_enter Tryz.func33, Tryz.ntmps33
 go_wp2
 go_ret
 exact ⟨rfl, rfl⟩
set_option maxRecDepth 100000 in
theorem fr_has (h : FrB w f A F) (i : Nat) (hi : i < F.N) : Calls Tryz.prog 70 #[.pointer (some ⟨f, 0, none⟩), .int .i64 (i : Int)] w fun e w' => e = .returned (.bool true) ∧ w = w' := by
 have h1 : (0 : Int) ≤ (i : Int) := by omega
 have h2 : (i : Int) < (F.N : Int) := by omega
 have H := Lib.hid h
 clear h hi
 go_enter Tryz.func70, Tryz.ntmps70
 go_wp2_with (go_at_call 30; refine (fr_threads H.out).mono ?_; rintro e w1 ⟨rfl, rfl⟩)
 go_ret
 exact ⟨rfl, rfl⟩
set_option maxRecDepth 100000 in
theorem fr_hasn (h : FrB w f A F) (i : Int) (hi : ¬ (0 ≤ i ∧ i < F.N)) : Calls Tryz.prog 70 #[.pointer (some ⟨f, 0, none⟩), .int .i64 i] w fun e w' => e = .returned (.bool false) ∧ w = w' := by
 have H := Lib.hid h
 clear h
 by_cases h1 : 0 ≤ i
 · have h2 : decide (i < (F.N : Int)) = false := decide_eq_false (by omega)
   clear hi
   go_enter Tryz.func70, Tryz.ntmps70
   go_wp2_with (go_at_call 30; refine (fr_threads H.out).mono ?_; rintro e w1 ⟨rfl, rfl⟩)
   go_ret
   exact ⟨rfl, rfl⟩
 · clear hi
   go_enter Tryz.func70, Tryz.ntmps70
   go_wp2_with fail
   go_ret
   exact ⟨rfl, rfl⟩
set_option maxRecDepth 100000 in
theorem frn_has (i : Int) (w : World) : Calls Tryz.prog 70 #[.pointer none, .int .i64 i] w fun e w' => e = .returned (.bool false) ∧ w = w' := by
 by_cases h1 : 0 ≤ i
 · have h2 : decide (i < (0 : Int)) = false := decide_eq_false (by omega)
   go_enter Tryz.func70, Tryz.ntmps70
   go_wp2_with (go_at_call 30; refine (frn_threads _).mono ?_; rintro e w1 ⟨rfl, rfl⟩)
   go_ret
   exact ⟨rfl, rfl⟩
 · go_enter Tryz.func70, Tryz.ntmps70
   go_wp2_with fail
   go_ret
   exact ⟨rfl, rfl⟩
set_option maxRecDepth 100000 in
theorem fr_where (h : FrB w f A F) (i : Nat) (hi : i < F.N) : Calls Tryz.prog 28 #[.pointer (some ⟨f, 0, none⟩), .int .i64 (i : Int)] w fun e w' => e = .returned (.int .i64 (F.ca i).nx) ∧ w = w' := by
 have c := h.c4
 have k := h.k0 hi
 have h1 : (0 : Int) ≤ (i : Int) := by omega
 have h2 : (i : Int) < (F.N : Int) := by omega
 have H := Lib.hid h
 have HI := Lib.hid hi
 clear h hi
 go_enter Tryz.func28, Tryz.ntmps28
 go_wp2_with (go_at_call 70; refine (fr_has H.out i HI.out).mono ?_; rintro e w1 ⟨rfl, rfl⟩)
 go_ret
 exact ⟨rfl, rfl⟩
set_option maxRecDepth 100000 in
theorem fr_wheren (h : FrB w f A F) (i : Int) (hi : ¬ (0 ≤ i ∧ i < F.N)) : Calls Tryz.prog 28 #[.pointer (some ⟨f, 0, none⟩), .int .i64 i] w fun e w' => e = .returned (.int .i64 0) ∧ w = w' := by
 have H := Lib.hid h
 have HI := Lib.hid hi
 clear h hi
 go_enter Tryz.func28, Tryz.ntmps28
 go_wp2_with (go_at_call 70; refine (fr_hasn H.out i HI.out).mono ?_; rintro e w1 ⟨rfl, rfl⟩)
 go_ret
 exact ⟨rfl, rfl⟩
set_option maxRecDepth 100000 in
theorem frn_where (i : Int) (w : World) : Calls Tryz.prog 28 #[.pointer none, .int .i64 i] w fun e w' => e = .returned (.int .i64 0) ∧ w = w' := by
 go_enter Tryz.func28, Tryz.ntmps28
 go_wp2_with (go_at_call 70; refine (frn_has i _).mono ?_; rintro e w1 ⟨rfl, rfl⟩)
 go_ret
 exact ⟨rfl, rfl⟩
set_option maxRecDepth 100000 in
theorem fr_now (h : FrB w f A F) : Calls Tryz.prog 29 #[.pointer (some ⟨f, 0, none⟩)] w fun e w' => e = .returned (.int .i64 F.clk) ∧ w = w' := by
 have c := h.c5
 clear h
 go_enter Tryz.func29, Tryz.ntmps29
 go_wp2_with (go_at_call 53; refine (aload64 _ _ _ _ c).mono ?_; rintro e w1 ⟨rfl, rfl⟩)
 go_ret
 exact ⟨rfl, rfl⟩
set_option maxRecDepth 100000 in
theorem frn_now (w : World) : Calls Tryz.prog 29 #[.pointer none] w fun e w' => e = .returned (.int .i64 0) ∧ w = w' := by
 go_enter Tryz.func29, Tryz.ntmps29
 go_wp2
 go_ret
 exact ⟨rfl, rfl⟩
end
theorem run_call_loadp {P : Program} {f : FuncId} {fn : Func} (hf : P.funcs[f]? = some fn) (hname : (fn.name == "runtime.NumGoroutine") = false) (hb : fn.body.isNone = true) (hn : Extern.findNext fn = none)
   (he : Extern.find fn = some (Extern.Atomic.loadT .ptr)) {a : Addr} {x : Option Addr} {w : World} (hc : w.cell? a = some (.pointer x)) :
   (callFunc f #[.pointer (some a)]).run P w = .ok (.value (.pointer x)) w := by
 rw [run_callFunc_extern hf hname hb hn he]
 change (Sem.run P (do Extern.Atomic.read .ptr (← asAddr (.pointer (some a)))) w).andThen _ = _
 simp [Extern.Atomic.read, asAddr, hc, Result.andThen]
theorem run_call_storep {P : Program} {f : FuncId} {fn : Func} (hf : P.funcs[f]? = some fn) (hname : (fn.name == "runtime.NumGoroutine") = false) (hb : fn.body.isNone = true) (hn : Extern.findNext fn = none)
   (he : Extern.find fn = some Extern.Atomic.storeT) {a : Addr} {y : Option Addr} {u : Value} {w : World} (hc : w.cell? a = some u) (hz : w.frozen? a = false) :
   (callFunc f #[.pointer (some a), .pointer y]).run P w = .ok (.value (.tuple #[])) (w.setCell a (.pointer y)) := by
 rw [run_callFunc_extern hf hname hb hn he]
 change (Sem.run P (do
   store (← asAddr (.pointer (some a))) (.pointer y) .atomic
   pure Extern.Atomic.none_) w).andThen _ = _
 simp [asAddr, hc, hz, run_store P w a (.pointer y) .atomic rfl, Result.andThen, Extern.Atomic.none_]
theorem asinfo : (Tryz.prog.info? asT).map (fun i => (i.zero, i.size, i.bytes)) = some (some (.slice none 0 0), 1, 24) := by kernel_rfl
section
variable {w : World}
set_option maxRecDepth 100000 in
theorem aploadp (b o g : Nat) (v : Value) (w : World) (h : w.cell? ⟨b, o, none⟩ = some (.pointer (some ⟨g, 0, none⟩))) (hg : Blk w g asT #[v]) :
   Calls Tryz.prog 74 #[.pointer (some ⟨b, o, none⟩)] w fun e w' => e = .returned (.pointer (some ⟨g, 0, none⟩)) ∧ w = w' := by
 have hl := run_call_loadp (P := Tryz.prog) Tryz.func115 (by kernel_rfl) (by kernel_rfl) (by kernel_rfl) (by kernel_rfl) h
 obtain ⟨i0, hi0, hz0, hz1, hz2⟩ := inf_of asinfo
 have hsh : w.shape? (⟨g, 0, none⟩ : Addr).block = some (asT, 1) := by unfold Blk at hg; simp [World.shape?, hg]
 have hcv := Lib.run_from_unsafe (P := Tryz.prog) (w := w) (src := 125) (dst := 123) (u := asT) (e := asT) (cells := 1) ⟨g, 0, none⟩ (by kernel_rfl) (by kernel_rfl) hi0 hsh (by kernel_rfl)
 clear hg hsh hi0 hz0 hz1 hz2
 go_enter Tryz.func74, Tryz.ntmps74
 go_wp2
 go_ret
 exact ⟨rfl, rfl⟩
set_option maxRecDepth 100000 in
theorem apstorep (b o g : Nat) (v u : Value) (w : World) (h : w.cell? ⟨b, o, none⟩ = some u) (hz : w.frozen? ⟨b, o, none⟩ = false) (hg : Blk w g asT #[v]) :
   Calls Tryz.prog 52 #[.pointer (some ⟨b, o, none⟩), .pointer (some ⟨g, 0, none⟩)] w fun e w' => e = .returned (.tuple #[]) ∧ w' = w.setCell ⟨b, o, none⟩ (.pointer (some ⟨g, 0, none⟩)) := by
 have hl := run_call_storep (P := Tryz.prog) Tryz.func95 (by kernel_rfl) (by kernel_rfl) (by kernel_rfl) (by kernel_rfl) (y := some ⟨g, 0, none⟩) h hz
 obtain ⟨i0, hi0, hz0, hz1, hz2⟩ := inf_of asinfo
 have hsh : w.shape? (⟨g, 0, none⟩ : Addr).block = some (asT, 1) := by unfold Blk at hg; simp [World.shape?, hg]
 have hcv := Lib.run_to_unsafe (P := Tryz.prog) (w := w) (src := 123) (dst := 125) (t := asT) (e := asT) (cells := 1) ⟨g, 0, none⟩ (by kernel_rfl) (by kernel_rfl) hi0 (by rw [hz1]; decide) hsh (by show 0 < 1; omega)
 clear hg hsh hi0 hz0 hz1 hz2
 go_enter Tryz.func52, Tryz.ntmps52
 go_wp2
 refine bodyPost_end (results_none rfl _ _ _) rfl ⟨rfl, rfl⟩
end
end Go.Proofs.YtcffeokbipjaoaaGreat
namespace Go.Proofs.YtcffeokbipjaoaaGreat
open Go.RowKit
set_option linter.unusedVariables false
structure Rest (n : Nat) (g : Rg) (l : List Int) : Prop where
 len : l.length ≤ n
 tail : g.T = g.H + l.length
 full : ∀ k, (hk : k < l.length) → g.S ((g.H + k) % n) = g.H + k + 1 ∧ g.V ((g.H + k) % n) = l[k]
 free : ∀ k, l.length ≤ k → k < n → g.S ((g.H + k) % n) = g.H + k
theorem mod_inj {n a b : Nat} (h : a % n = b % n) (hab : a ≤ b) (hl : b - a < n) : a = b := by
 have := Nat.sub_mod_eq_zero_of_mod_eq h.symm
 rw [Nat.mod_eq_of_lt hl] at this
 omega
theorem mod_ne {n H k k' : Nat} (hk : k < n) (hk' : k' < n) (hne : k ≠ k') : (H + k) % n ≠ (H + k') % n := by
 intro h
 rcases Nat.le_total k k' with hc | hc
 · have := mod_inj h (by omega) (by omega); omega
 · have := mod_inj h.symm (by omega) (by omega); omega
theorem Rest.push {n : Nat} {g : Rg} {l : List Int} (h : Rest n g l) (hl : l.length < n) (v : Int) {j : Nat} (hj : g.T % n = j) :
   Rest n { g with T := g.T + 1, S := fun i => if i = j then g.T + 1 else g.S i, V := fun i => if i = j then v else g.V i } (l ++ [v]) := by
 have hT := h.tail
 have hj' : (g.H + l.length) % n = j := by rw [← hT]; exact hj
 refine ⟨by simp; omega, by simp; omega, fun k hk => ?_, fun k hk hkn => ?_⟩
 · simp only [List.length_append, List.length_cons, List.length_nil] at hk
   by_cases e : k < l.length
   · have hne : (g.H + k) % n ≠ j := by rw [← hj']; exact mod_ne (by omega) (by omega) (by omega)
     simp only [hne, if_false]
     rw [List.getElem_append_left e]
     exact h.full k e
   · obtain rfl : k = l.length := by omega
     simp only [hj', if_true]
     rw [List.getElem_append_right (Nat.le_refl _)]
     exact ⟨by omega, by simp⟩
 · simp only [List.length_append, List.length_cons, List.length_nil] at hk
   have hne : (g.H + k) % n ≠ j := by rw [← hj']; exact mod_ne (by omega) (by omega) (by omega)
   simp only [hne, if_false]
   exact h.free k (by omega) hkn
theorem Rest.pop {n : Nat} {g : Rg} {x : Int} {l : List Int} (h : Rest n g (x :: l)) {j : Nat} (hj : g.H % n = j) :
   g.V j = x ∧ g.S j = g.H + 1 ∧ Rest n { g with H := g.H + 1, S := fun i => if i = j then g.H + n else g.S i } l := by
 have hT := h.tail
 have hlen := h.len
 simp only [List.length_cons] at hT hlen
 have h0 := h.full 0 (by simp)
 rw [Nat.add_zero, hj] at h0
 refine ⟨by simpa using h0.2, by omega, by simpa using Nat.le_of_succ_le hlen, by simp; omega, fun k hk => ?_, fun k hk hkn => ?_⟩
 · have e : g.H + 1 + k = g.H + (k + 1) := by omega
   have hne : (g.H + (k + 1)) % n ≠ j := by rw [← hj]; exact mod_ne (k' := 0) (by omega) (by omega) (by omega)
   simp only [e, hne, if_false]
   have := h.full (k + 1) (by simp; omega)
   exact ⟨by omega, by simpa using this.2⟩
 · have e : g.H + 1 + k = g.H + (k + 1) := by omega
   simp only [e]
   by_cases c : k + 1 = n
   · have : (g.H + (k + 1)) % n = j := by rw [c, Nat.add_mod_right, hj]
     simp only [this, if_true]
     omega
   · have hne : (g.H + (k + 1)) % n ≠ j := by rw [← hj]; exact mod_ne (k' := 0) (by omega) (by omega) (by omega)
     simp only [hne, if_false]
     exact h.free (k + 1) (by simp; omega) (by omega)
section
variable {r s n : Nat} {g : Rg} {l : List Int}
end
end Go.Proofs.YtcffeokbipjaoaaGreat
namespace Go.Proofs.YtcffeokbipjaoaaGreat
open Go.RowKit
set_option linter.unusedVariables false
section
variable {r s n : Nat} {g : Rg} {l : List Int}
end
theorem slinfo : (Tryz.prog.info? 183).map (fun i => (i.zero, i.size, i.bytes)) = some (some (.agg #[.int .u64 0, .int .u64 0]), 2, 16) := by kernel_rfl
theorem run_slots (n : Nat) (hn : n ≤ 64) (w : World) :
   (Instr.makeSlice 177 (.int .i64 (n : Int)) (.int .i64 (n : Int))).run Tryz.prog w = .ok (.slice (some ⟨w.heap.size, 0, none⟩) n n) (w.alloc (.cells (madeCells #[.int .u64 0, .int .u64 0] (n * 2)) 183)) := by
 obtain ⟨i, hi, hzz⟩ := Option.map_eq_some_iff.1 slinfo
 simp only [Prod.mk.injEq] at hzz
 obtain ⟨hz, hs, hb⟩ := hzz
 have h := run_make (P := Tryz.prog) w 177 183 i _ Tryz.underlying177 hi hz .i64 .i64 n n (by omega) (Int.le_refl _) (by rw [hb]; omega) (by omega)
 simp only [Int.toNat_natCast, hs] at h
 exact h
theorem up_at (k j : Nat) : (if j < k + 1 then j else 0) = if j = k then k else if j < k then j else 0 := by
 by_cases e : j = k
 · rw [if_pos e, if_pos (by omega), e]
 · by_cases c : j < k
   · rw [if_neg e, if_pos c, if_pos (by omega)]
   · rw [if_neg e, if_neg c, if_neg (by omega)]
end Go.Proofs.YtcffeokbipjaoaaGreat
