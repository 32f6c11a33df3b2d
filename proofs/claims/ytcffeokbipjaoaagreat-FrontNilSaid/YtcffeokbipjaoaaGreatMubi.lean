/- Texts of this claim, one behind the other: Fnd Fne Fnf. -/
import Derived.StillTailTactics
import Derived.Deep.RegionHeld3
import Derived.Deep.DeepCutAuto
import Derived.Laws.Rows
import Derived.Test.YtcffeokbipjaoaaGreatMubh
namespace Go.Proofs.YtcffeokbipjaoaaGreat
open Go.ChangeShapes Go.WideShapes Go.RowKit
set_option linter.unusedVariables false
set_option linter.unusedSimpArgs false
section
variable {w w' : World} {g N t : Nat} {T : TypeId} {row : Nat → List Value}
theorem RB.set13 (h : RB w g T 13 N row) (ht : t < N) (hl : (row t).length = 13) (v0 v1 v2 v3 v4 v5 v6 v7 v8 v9 v10 v11 v12 : Value) :
   RB (((((((((((((w.setCell ⟨g, t * 13, none⟩ v0).setCell ⟨g, t * 13 + 1, none⟩ v1).setCell ⟨g, t * 13 + 2, none⟩ v2).setCell ⟨g, t * 13 + 3, none⟩ v3).setCell ⟨g, t * 13 + 4, none⟩ v4).setCell ⟨g, t * 13 + 5, none⟩ v5).setCell ⟨g, t * 13 + 6, none⟩ v6).setCell ⟨g, t * 13 + 7, none⟩ v7).setCell ⟨g, t * 13 + 8, none⟩ v8).setCell ⟨g, t * 13 + 9, none⟩ v9).setCell ⟨g, t * 13 + 10, none⟩ v10).setCell ⟨g, t * 13 + 11, none⟩ v11).setCell ⟨g, t * 13 + 12, none⟩ v12) g T 13 N (fun j => if j = t then [v0, v1, v2, v3, v4, v5, v6, v7, v8, v9, v10, v11, v12] else row j) := by
 have hq : ∀ j, (if j = t then [v0, v1, v2, v3, v4, v5, v6, v7, v8, v9, v10, v11, v12] else row j) = (if j = t then ((((((((((((((row t).set 0 v0).set 1 v1).set 2 v2).set 3 v3).set 4 v4).set 5 v5).set 6 v6).set 7 v7).set 8 v8).set 9 v9).set 10 v10).set 11 v11).set 12 v12) else row j) := fun j => by
   split
   · generalize row t = l at hl
     match l, hl with
     | [_, _, _, _, _, _, _, _, _, _, _, _, _], _ => rfl
   · rfl
 have key : ∀ {W : World} {R : Nat → List Value} (k : Nat) (v : Value), RB W g T 13 N R → (R t).length = 13 → k < 13 → RB (W.setCell ⟨g, t * 13 + k, none⟩ v) g T 13 N (fun j => if j = t then (R t).set k v else R j) := fun k v hR hlen hk => hR.set_ ht hk hlen v
 have step : ∀ {W : World} (l : List Value) (k : Nat) (v : Value), RB W g T 13 N (fun j => if j = t then l else row j) → l.length = 13 → k < 13 → RB (W.setCell ⟨g, t * 13 + k, none⟩ v) g T 13 N (fun j => if j = t then l.set k v else row j) := fun l k v hR hlen hk => by
   refine (key k v hR (by show (if t = t then l else row t).length = 13; rw [if_pos rfl]; exact hlen) hk).congr_ fun j _ => ?_
   show (if j = t then (if t = t then l else row t).set k v else (if j = t then l else row j)) = _
   rw [if_pos rfl]
   by_cases e : j = t
   · rw [if_pos e, if_pos e]
   · rw [if_neg e, if_neg e, if_neg e]
 have h0 : RB w g T 13 N (fun j => if j = t then row t else row j) := h.congr_ fun j _ => by split; rename_i e; rw [e]; rfl
 have h1 := step _ 0 v0 h0 (by simp [hl]) (by omega)
 have h2 := step _ 1 v1 h1 (by simp [hl]) (by omega)
 have h3 := step _ 2 v2 h2 (by simp [hl]) (by omega)
 have h4 := step _ 3 v3 h3 (by simp [hl]) (by omega)
 have h5 := step _ 4 v4 h4 (by simp [hl]) (by omega)
 have h6 := step _ 5 v5 h5 (by simp [hl]) (by omega)
 have h7 := step _ 6 v6 h6 (by simp [hl]) (by omega)
 have h8 := step _ 7 v7 h7 (by simp [hl]) (by omega)
 have h9 := step _ 8 v8 h8 (by simp [hl]) (by omega)
 have h10 := step _ 9 v9 h9 (by simp [hl]) (by omega)
 have h11 := step _ 10 v10 h10 (by simp [hl]) (by omega)
 have h12 := step _ 11 v11 h11 (by simp [hl]) (by omega)
 have h13 := step _ 12 v12 h12 (by simp [hl]) (by omega)
 exact h13.congr_ fun j _ => (hq j).symm
end
section
variable {w w' : World} {f : Nat} {A : FAd} {F : FrS}
theorem setCa_ca (F : FrS) (i : Nat) (c : CaV) : (F.setCa i c).ca i = c := upd_at _ _ _
theorem setCa_setCa (F : FrS) (i : Nat) (c d : CaV) : (F.setCa i c).setCa i d = F.setCa i d := by
 show ({ F with ca := upd (upd F.ca i c) i d } : FrS) = _
 rw [upd_upd]
theorem FrB.toRow (h : FrB w f A F) {t : Nat} (ht : t < F.N) (c : CaV) (hc : c.ac = none) : FrB (((((((((((((w.setCell ⟨A.gc, t * 13, none⟩ (.int .i64 c.nx)).setCell ⟨A.gc, t * 13 + 1, none⟩ (.int .u8 c.op.k)).setCell ⟨A.gc, t * 13 + 2, none⟩ (.int .i64 c.op.t)).setCell ⟨A.gc, t * 13 + 3, none⟩ (.int .i64 c.op.c)).setCell ⟨A.gc, t * 13 + 4, none⟩ (.int .i64 c.op.n)).setCell ⟨A.gc, t * 13 + 5, none⟩ (.pointer none)).setCell ⟨A.gc, t * 13 + 6, none⟩ (.int .i64 c.lf)).setCell ⟨A.gc, t * 13 + 7, none⟩ (.int .i64 c.sv)).setCell ⟨A.gc, t * 13 + 8, none⟩ (.int .u8 c.re.a)).setCell ⟨A.gc, t * 13 + 9, none⟩ (.int .u64 c.re.k)).setCell ⟨A.gc, t * 13 + 10, none⟩ (.int .i64 c.re.t)).setCell ⟨A.gc, t * 13 + 11, none⟩ (.int .i64 c.re.c)).setCell ⟨A.gc, t * 13 + 12, none⟩ (.int .i64 c.re.s)) f A (F.setCa t c) := by
 obtain ⟨cs, hb⟩ := h.cal.blk
 obtain ⟨g, hg⟩ : ∃ g, A.gc = g := ⟨_, rfl⟩
 have hR := (h.cal.set13 ht rfl (.int .i64 c.nx) (.int .u8 c.op.k) (.int .i64 c.op.t) (.int .i64 c.op.c) (.int .i64 c.op.n) (.pointer none) (.int .i64 c.lf) (.int .i64 c.sv) (.int .u8 c.re.a) (.int .u64 c.re.k) (.int .i64 c.re.t) (.int .i64 c.re.c) (.int .i64 c.re.s))
 rw [hg] at hR ⊢
 have hk : Kept (fun k => k = g) w (((((((((((((w.setCell ⟨g, t * 13, none⟩ (.int .i64 c.nx)).setCell ⟨g, t * 13 + 1, none⟩ (.int .u8 c.op.k)).setCell ⟨g, t * 13 + 2, none⟩ (.int .i64 c.op.t)).setCell ⟨g, t * 13 + 3, none⟩ (.int .i64 c.op.c)).setCell ⟨g, t * 13 + 4, none⟩ (.int .i64 c.op.n)).setCell ⟨g, t * 13 + 5, none⟩ (.pointer none)).setCell ⟨g, t * 13 + 6, none⟩ (.int .i64 c.lf)).setCell ⟨g, t * 13 + 7, none⟩ (.int .i64 c.sv)).setCell ⟨g, t * 13 + 8, none⟩ (.int .u8 c.re.a)).setCell ⟨g, t * 13 + 9, none⟩ (.int .u64 c.re.k)).setCell ⟨g, t * 13 + 10, none⟩ (.int .i64 c.re.t)).setCell ⟨g, t * 13 + 11, none⟩ (.int .i64 c.re.c)).setCell ⟨g, t * 13 + 12, none⟩ (.int .i64 c.re.s)) := by
   repeat (first | with_reducible exact Kept.refl _ _ | refine Kept.set1 ?_ _ _)
 have hf := far_one (hg ▸ hb)
 have hac : ∀ k a, (upd F.ca t c k).ac = some a → k ≠ t ∧ (F.ca k).ac = some a := fun k a h => by
   by_cases e : k = t
   · subst e; rw [upd_at, hc] at h; cases h
   · rw [upd_ne _ _ e] at h; exact ⟨e, h⟩
 refine ⟨h.head_f hk hf (by decide), h.core_f hk hf (by decide) (fun k e _ => ⟨_, _, List.mem_singleton.2 rfl, e ▸ hg ▸ hb⟩), h.ring_f hk hf (by decide) (by decide), h.lock_f hk hf (by decide), h.bxs_f hk hf (by decide), h.box_f hk hf (by decide), ?_, fun k a hk' ha => h.act_f hk hf (by decide) k a hk' (hac k a ha).2, h.app_f hk hf (by decide) (by decide), h.bxi, fun k l a b h1 h2 h3 h4 => h.aci k l a b h1 h2 (hac k a h3).2 (hac l b h4).2⟩
 show RB _ A.gc caT 13 F.N _
 rw [hg]
 refine hR.congr_ fun j _ => ?_
 show _ = caRowV (upd F.ca t c j) (A.aa j)
 by_cases e : j = t
 · subst e
   rw [if_pos rfl, upd_at]
   unfold caRowV ptrV
   rw [hc]
   rfl
 · rw [if_neg e, upd_ne _ _ e]
theorem own_ca {i : Nat} {c : CaV} (hc : ∀ a, c.ac = some a → ∃ b, (F.ca i).ac = some b) {k : Nat} (h : fOwn f A (F.setCa i c) k) : fOwn f A F k := by
 unfold fOwn at h ⊢
 rcases h with h | h | h | h | h | h | h | h | h | ⟨j, hj, h⟩ | ⟨j, a, hj, ha, h⟩
 · exact .inl h
 · exact .inr (.inl h)
 · exact .inr (.inr (.inl h))
 · exact .inr (.inr (.inr (.inl h)))
 · exact .inr (.inr (.inr (.inr (.inl h))))
 · exact .inr (.inr (.inr (.inr (.inr (.inl h)))))
 · exact .inr (.inr (.inr (.inr (.inr (.inr (.inl h))))))
 · exact .inr (.inr (.inr (.inr (.inr (.inr (.inr (.inl h)))))))
 · exact .inr (.inr (.inr (.inr (.inr (.inr (.inr (.inr (.inl h))))))))
 · exact .inr (.inr (.inr (.inr (.inr (.inr (.inr (.inr (.inr (.inl ⟨j, hj, h⟩)))))))))
 · have ha' : (upd F.ca i c j).ac = some a := ha
   have hex : ∃ b, (F.ca j).ac = some b := by
     by_cases e : j = i
     · subst e; rw [upd_at] at ha'; exact hc a ha'
     · rw [upd_ne _ _ e] at ha'; exact ⟨a, ha'⟩
   obtain ⟨b, hb⟩ := hex
   exact .inr (.inr (.inr (.inr (.inr (.inr (.inr (.inr (.inr (.inr ⟨j, b, hj, hb, h⟩)))))))))
theorem own_act {i x : Nat} {c : CaV} {k : Nat} (h : fOwn f { A with aa := upd A.aa i x } (F.setCa i c) k) : fOwn f A F k ∨ k = x := by
 unfold fOwn at h ⊢
 rcases h with h | h | h | h | h | h | h | h | h | ⟨j, hj, h⟩ | ⟨j, a, hj, ha, h⟩
 · exact .inl (.inl h)
 · exact .inl (.inr (.inl h))
 · exact .inl (.inr (.inr (.inl h)))
 · exact .inl (.inr (.inr (.inr (.inl h))))
 · exact .inl (.inr (.inr (.inr (.inr (.inl h)))))
 · exact .inl (.inr (.inr (.inr (.inr (.inr (.inl h))))))
 · exact .inl (.inr (.inr (.inr (.inr (.inr (.inr (.inl h)))))))
 · exact .inl (.inr (.inr (.inr (.inr (.inr (.inr (.inr (.inl h))))))))
 · exact .inl (.inr (.inr (.inr (.inr (.inr (.inr (.inr (.inr (.inl h)))))))))
 · exact .inl (.inr (.inr (.inr (.inr (.inr (.inr (.inr (.inr (.inr (.inl ⟨j, hj, h⟩))))))))))
 · have ha' : (upd F.ca i c j).ac = some a := ha
   have hk : k = upd A.aa i x j := h
   by_cases e : j = i
   · subst e; rw [upd_at] at hk; exact .inr hk
   · rw [upd_ne _ _ e] at ha' hk; exact .inl (.inr (.inr (.inr (.inr (.inr (.inr (.inr (.inr (.inr (.inr ⟨j, a, hj, ha', hk⟩))))))))))
theorem fOwn.f_ (f : Nat) (A : FAd) (F : FrS) : fOwn f A F f := .inl rfl
theorem fOwn.c_ (f : Nat) (A : FAd) (F : FrS) {k : Nat} (h : A.oc k) : fOwn f A F k := .inr (.inl h)
theorem fOwn.r_ (f : Nat) (A : FAd) (F : FrS) : fOwn f A F A.r := .inr (.inr (.inl rfl))
theorem fOwn.s_ (f : Nat) (A : FAd) (F : FrS) : fOwn f A F A.s := .inr (.inr (.inr (.inl rfl)))
theorem fOwn.lk_ (f : Nat) (A : FAd) (F : FrS) : fOwn f A F A.lk := .inr (.inr (.inr (.inr (.inl rfl))))
theorem fOwn.gc_ (f : Nat) (A : FAd) (F : FrS) : fOwn f A F A.gc := .inr (.inr (.inr (.inr (.inr (.inr (.inl rfl))))))
theorem fOwn.ga_ (f : Nat) (A : FAd) (F : FrS) {k : Nat} (h : A.ga = some k) : fOwn f A F k := .inr (.inr (.inr (.inr (.inr (.inr (.inr (.inr (.inl h))))))))
theorem fOwn.ab_ (f : Nat) (A : FAd) (F : FrS) {i : Nat} (h : i < F.N) : fOwn f A F (A.ab i) := .inr (.inr (.inr (.inr (.inr (.inr (.inr (.inr (.inr (.inl ⟨i, h, rfl⟩)))))))))
theorem fOwn.aa_ (f : Nat) (A : FAd) (F : FrS) {i : Nat} {a : Ac} (h : i < F.N) (ha : (F.ca i).ac = some a) : fOwn f A F (A.aa i) := .inr (.inr (.inr (.inr (.inr (.inr (.inr (.inr (.inr (.inr ⟨i, a, h, ha, rfl⟩)))))))))
end
end Go.Proofs.YtcffeokbipjaoaaGreat
namespace Go.Proofs.YtcffeokbipjaoaaGreat
open Go.ChangeShapes Go.WideShapes Go.RowKit
set_option linter.unusedVariables false
set_option linter.unusedSimpArgs false
def frTypes : List TypeId := frT :: caT :: apT :: asT :: bpT :: 181 :: 183 :: 256 :: 186 :: 190 :: tqT :: rwT :: coTypes
section
variable {w w0 w' w'' : World} {f : Nat} {A A0 A' : FAd} {F F0 F' : FrS} {O : Nat → Prop}
theorem FrB.oth (h : FrB w f A F) {g : Nat} {T : TypeId} {cs : Array Value} (hb : Blk w g T cs) (hT : T ∉ frTypes) (hk : Kept (fun k => k = g) w w') : FrB w' f A F := by
 have hf := far_one hb
 have ne : ∀ X, X ∈ frTypes → X ∉ [T] := fun X hX h => hT (List.mem_singleton.1 h ▸ hX)
 exact ⟨h.head_f hk hf (ne _ (by simp [frTypes])), h.core_f hk hf (fun X hX => ne X (by
     unfold frTypes
     rcases List.mem_cons.1 hX with e | hX
     · rw [e]; simp
     · rcases List.mem_cons.1 hX with e | hX
       · rw [e]; simp
       · simp [hX])) (fun k e _ => ⟨_, _, List.mem_singleton.2 rfl, e ▸ hb⟩), h.ring_f hk hf (ne _ (by simp [frTypes])) (ne _ (by simp [frTypes])), h.lock_f hk hf (ne _ (by simp [frTypes])), h.bxs_f hk hf (ne _ (by simp [frTypes])), h.box_f hk hf (ne _ (by simp [frTypes])), h.cal_f hk hf (ne _ (by simp [frTypes])), h.act_f hk hf (ne _ (by simp [frTypes])), h.app_f hk hf (ne _ (by simp [frTypes])) (ne _ (by simp [frTypes])), h.bxi, h.aci⟩
theorem FrB.own_lt (h : FrB w f A F) {k : Nat} (hk : fOwn f A F k) : k < w.heap.size := by
 obtain ⟨cs, hs, _⟩ := h.ring.slots
 obtain ⟨cb, hb, _⟩ := h.bxs
 obtain ⟨cc, hc⟩ := h.cal.blk
 obtain ⟨v, ha, ho, hv⟩ := h.app
 rcases hk with e | e | e | e | e | e | e | e | e | ⟨i, hi, e⟩ | ⟨i, a, hi, hac, e⟩
 · rw [e]; exact h.head.size
 · exact h.core.lt e
 · rw [e]; exact h.ring.head.size
 · rw [e]; exact hs.size
 · rw [e]; exact Blk.size h.lock
 · rw [e]; exact hb.size
 · rw [e]; exact hc.size
 · rw [e]; exact ha.size
 · rcases ho.2 with ⟨rfl, _⟩ | ⟨g, cap, cur, rfl, _, hg, _⟩
   · rw [← hv] at e; simp [Value.ownBlock] at e
   · rw [← hv] at e
     have : g = k := by simpa [Value.ownBlock] using e
     rw [← this]
     exact Blk.size (cs := cur) hg
 · rw [e]; exact Blk.size (h.box i hi)
 · rw [e]; exact (h.act i a hi hac).size
structure FOn (w0 : World) (f : Nat) (A0 : FAd) (F0 : FrS) (w : World) (A : FAd) (F : FrS) : Prop where
 b : FrB w f A F
 k : Kept (fOwn f A0 F0) w0 w
 o : ∀ k, fOwn f A F k → fOwn f A0 F0 k ∨ w0.heap.size ≤ k
theorem FOn.refl (h : FrB w f A F) : FOn w f A F w A F := ⟨h, Kept.refl _ _, fun _ h => .inl h⟩
theorem FOn.done (h : FOn w0 f A0 F0 w A F) : FStep w0 f (fOwn f A0 F0) F w := FStep.of h.b h.o h.k
theorem FOn.below (h : FOn w0 f A0 F0 w A F) (hb : Below w.heap.size w w') : FOn w0 f A0 F0 w' A F := ⟨h.b.below hb, h.k.trans (Kept.of_below hb), h.o⟩
theorem FOn.own (h : FOn w0 f A0 F0 w A F) {k : Nat} (hk : fOwn f A F k) : fOwn f A0 F0 k ∨ w0.heap.size ≤ k := h.o k hk
theorem FOn.keep {own : Nat → Prop} (h : FOn w0 f A0 F0 w A F) (hk : Kept own w w') (ho : ∀ k, own k → fOwn f A F k) : Kept (fOwn f A0 F0) w0 w' :=
 ⟨hk.os.trans h.k.os, hk.tape.trans h.k.tape, hk.output.trans h.k.output, Nat.le_trans h.k.size hk.size, fun k hlt hn => (hk.block k (Nat.lt_of_lt_of_le hlt h.k.size) (fun hc => by
   rcases h.o k (ho k hc) with c | c
   · exact hn c
   · omega)).trans (h.k.block k hlt hn)⟩
theorem FOn.oth (h : FOn w0 f A0 F0 w A F) {g : Nat} {T : TypeId} {cs : Array Value} (hb : Blk w g T cs) (hT : T ∉ frTypes) (hk : Kept (fun k => k = g) w w') (hg : w0.heap.size ≤ g) : FOn w0 f A0 F0 w' A F :=
 ⟨h.b.oth hb hT hk, ⟨hk.os.trans h.k.os, hk.tape.trans h.k.tape, hk.output.trans h.k.output, Nat.le_trans h.k.size hk.size, fun k hlt hn => (hk.block k (Nat.lt_of_lt_of_le hlt h.k.size) (fun e => by omega)).trans (h.k.block k hlt hn)⟩, h.o⟩
theorem FOn.toCa (h : FOn w0 f A0 F0 w A F) {i j : Nat} (hi : i < F.N) (hj : j < 13) (v : Value) (c : CaV) (hr : (caRowV (F.ca i) (A.aa i)).set j v = caRowV c (A.aa i)) (hc : c.ac = (F.ca i).ac) : FOn w0 f A0 F0 (w.setCell ⟨A.gc, i * 13 + j, none⟩ v) A (F.setCa i c) :=
 ⟨h.b.toCa hi hj v c hr hc, h.keep (own := fun k => k = A.gc) (kset1 _ _ _ _) (fun k e => e ▸ fOwn.gc_ ..), fun k hk => h.o k (own_ca (fun a ha => ⟨a, hc ▸ ha⟩) hk)⟩
theorem FOn.toAct (h : FOn w0 f A0 F0 w A F) {i x : Nat} (hi : i < F.N) (a : Ac) (ha : ActAt w x A.r a) (hx : ∀ j b, j < F.N → j ≠ i → (F.ca j).ac = some b → A.aa j ≠ x) (hn : w0.heap.size ≤ x) : FOn w0 f A0 F0 (w.setCell ⟨A.gc, i * 13 + 5, none⟩ (.pointer (some ⟨x, 0, none⟩))) { A with aa := upd A.aa i x } (F.setCa i { F.ca i with ac := some a }) :=
 ⟨h.b.toAct hi a ha hx, h.keep (own := fun k => k = A.gc) (kset1 _ _ _ _) (fun k e => e ▸ fOwn.gc_ ..), fun k hk => by
   rcases own_act hk with c | c
   · exact h.o k c
   · exact .inr (by omega)⟩
theorem FOn.toStep (h : FOn w0 f A0 F0 w A F) {i : Nat} (hi : i < F.N) {a a' : Ac} {g : Rg} (ha : (F.ca i).ac = some a) (hr : RingAt w' A.r A.s F.n g) (hb : ActAt w' (A.aa i) A.r a') (hk : Kept (Mine (A.aa i) A.r A.s) w w') : FOn w0 f A0 F0 w' A ({ F with g := g }.setCa i { F.ca i with ac := some a' }) :=
 ⟨h.b.toStep hi ha hr hb hk, h.keep hk (fun k hm => by
   rcases hm with e | e | e
   · rw [e]; exact fOwn.aa_ _ _ _ hi ha
   · rw [e]; exact fOwn.r_ ..
   · rw [e]; exact fOwn.s_ ..), fun k hk' => h.o k (own_ca (F := F) (i := i) (c := { F.ca i with ac := some a' }) (fun _ _ => ⟨a, ha⟩) hk')⟩
theorem FOn.toRow (h : FOn w0 f A0 F0 w A F) {t : Nat} (ht : t < F.N) (c : CaV) (hc : c.ac = none) (hb : FrB w' f A (F.setCa t c)) (hk : Kept (fun k => k = A.gc) w w') : FOn w0 f A0 F0 w' A (F.setCa t c) :=
 ⟨hb, h.keep hk (fun k e => e ▸ fOwn.gc_ ..), fun k hk => h.o k (own_ca (fun a ha => by rw [hc] at ha; cases ha) hk)⟩
theorem FOn.toBx (h : FOn w0 f A0 F0 w A F) {i : Nat} (hi : i < F.N) {b : BxV} (hb : BoxAt w' (A.ab i) b.s b.o b.r) (hk : Kept (fun k => k = A.ab i) w w') : FOn w0 f A0 F0 w' A (F.setBx i b) :=
 ⟨h.b.toBx hi hb hk, h.keep hk (fun k e => e ▸ fOwn.ab_ _ _ _ hi), fun k hk => h.o k hk⟩
theorem FOn.toLk (h : FOn w0 f A0 F0 w A F) {x : Int} (hb : LkAt w' A.lk x) (hk : Kept (fun k => k = A.lk) w w') : FOn w0 f A0 F0 w' A { F with lo := x } :=
 ⟨h.b.toLk hb hk, h.keep hk (fun k e => e ▸ fOwn.lk_ ..), fun k hk => h.o k hk⟩
theorem FOn.toCore (h : FOn w0 f A0 F0 w A F) {S : Cor} (hs : CStep w A.pc A.oc S w') : ∃ O', FOn w0 f A0 F0 w' { A with oc := O' } { F with S := S } := by
 obtain ⟨O', h1, h2, h3⟩ := hs
 refine ⟨O', h.b.toCore h1 h3, h.keep h3 (fun k hk => fOwn.c_ _ _ _ hk), fun k hk => ?_⟩
 rcases hk with e | e | e
 · exact h.o k (.inl e)
 · rcases h2 k e with c | c
   · exact h.o k (.inr (.inl c))
   · have := h.k.size; exact .inr (by omega)
 · exact h.o k (.inr (.inr e))
theorem FOn.size (h : FOn w0 f A0 F0 w A F) : w0.heap.size ≤ w.heap.size := h.k.size
theorem FrB.not_own (h : FrB w f A F) {k : Nat} {T : TypeId} {cs : Array Value} (hb : Blk w k T cs) (hT : T ∉ frTypes) : ¬ fOwn f A F k := by
 obtain ⟨c1, hs, _⟩ := h.ring.slots
 obtain ⟨c2, hbb, _⟩ := h.bxs
 obtain ⟨c3, hc⟩ := h.cal.blk
 obtain ⟨v, ha, ho, hv⟩ := h.app
 have ne : ∀ X, X ∈ frTypes → T ≠ X := fun X hX e => hT (e ▸ hX)
 rintro (e | e | e | e | e | e | e | e | e | ⟨i, hi, e⟩ | ⟨i, a, hi, hac, e⟩)
 · exact hb.other h.head (ne _ (by simp [frTypes])) e
 · exact h.core.not_t hb (fun hc' => ne T (by unfold frTypes; simp [hc']) rfl) e
 · exact hb.other h.ring.head (ne _ (by simp [frTypes])) e
 · exact hb.other hs (ne _ (by simp [frTypes])) e
 · exact hb.other h.lock (ne _ (by simp [frTypes])) e
 · exact hb.other hbb (ne _ (by simp [frTypes])) e
 · exact hb.other hc (ne _ (by simp [frTypes])) e
 · exact hb.other ha (ne _ (by simp [frTypes])) e
 · rcases ho.2 with ⟨rfl, _⟩ | ⟨g, cap, cur, rfl, _, hg, _⟩
   · rw [← hv] at e; simp [Value.ownBlock] at e
   · rw [← hv] at e
     have e' : g = k := by simpa [Value.ownBlock] using e
     exact hb.other (g' := g) (cs' := cur) hg (ne _ (by simp [frTypes])) e'.symm
 · exact hb.other (h.box i hi) (ne _ (by simp [frTypes])) e
 · exact hb.other (h.act i a hi hac) (ne _ (by simp [frTypes])) e
theorem FOn.trans {w1 : World} {A1 : FAd} {F1 : FrS} (h : FOn w0 f A0 F0 w1 A1 F1) (h' : FOn w1 f A1 F1 w A F) : FOn w0 f A0 F0 w A F :=
 ⟨h'.b, h.keep h'.k (fun k hk => hk), fun k hk => by
   rcases h'.o k hk with c | c
   · exact h.o k c
   · have := h.k.size; exact .inr (by omega)⟩
theorem FOn.blk (h : FOn w0 f A0 F0 w A F) (h0 : FrB w0 f A0 F0) {k : Nat} {T : TypeId} {cs : Array Value} (hb : Blk w0 k T cs) (hT : T ∉ frTypes) : Blk w k T cs := hb.kept h.k (h0.not_own hb hT)
def FTo (w : World) (f : Nat) (A : FAd) (F F' : FrS) (w' : World) : Prop := ∃ A', FOn w f A F w' A' F'
theorem FOn.to (h : FOn w f A F w' A' F') : FTo w f A F F' w' := ⟨A', h⟩
theorem FTo.step (h : FTo w f A F F' w') : FStep w f (fOwn f A F) F' w' := by
 obtain ⟨A', h⟩ := h
 exact h.done
theorem FOn.and (h : FOn w0 f A0 F0 w A F) (h' : FTo w f A F F' w') : FTo w0 f A0 F0 F' w' := by
 obtain ⟨A', h'⟩ := h'
 exact ⟨A', h.trans h'⟩
end
end Go.Proofs.YtcffeokbipjaoaaGreat
namespace Go.Proofs.YtcffeokbipjaoaaGreat
open Go.ChangeShapes Go.WideShapes Go.RowKit
set_option linter.unusedVariables false
set_option linter.unusedSimpArgs false
abbrev reT : TypeId := 39
abbrev opfT : TypeId := 33
section
variable {w w' : World} {f : Nat} {A : FAd} {F : FrS}
theorem FrB.far_new (h : FrB w f A F) {i : Nat} (hi : i < F.N) : ∀ j b, j < F.N → j ≠ i → (F.ca j).ac = some b → A.aa j ≠ w.heap.size := fun j b hj _ hb e => by have := (h.act j b hj hb).size; omega
set_option maxRecDepth 100000 in
theorem fr_next (h : FrB w f A F) {i : Nat} (hi : i < F.N) : Calls Tryz.prog 106 #[.pointer (some ⟨f, 0, none⟩), .pointer (some ⟨A.gc, i * 13, none⟩)] w fun e w' => e = .returned (.tuple #[]) ∧ FTo w f A F (F.setCa i (nextC (F.ca i))) w' := by
 have k6 := h.k6 hi
 have c1 := h.c1
 have H := Lib.hid h
 have HI := Lib.hid hi
 by_cases hz : (F.ca i).lf = 0
 · rw [hz] at k6
   have k0 := h.k0 hi
   have z0 := h.zc (i * 13)
   have HZ := Lib.hid hz
   clear h hi hz c1
   go_enter Tryz.func106, Tryz.ntmps106
   go_wp2
   first | refine bodyPost_end (results_none rfl _ _ _) rfl ⟨rfl, ?_⟩ | refine bodyPost_ret (results_none rfl _ _ _) rfl ⟨rfl, ?_⟩
   exact ((FOn.refl H.out).toCa (i := i) (j := 0) HI.out (by omega) (.int .i64 8) (nextC (F.ca i)) (by unfold nextC; rw [if_pos HZ.out]; rfl) (by unfold nextC; rw [if_pos HZ.out])).to
 · have hz1 : ¬ (F.ca i).lf = (0 : Int) := hz
   have HZ := Lib.hid hz
   clear h hi hz
   go_enter Tryz.func106, Tryz.ntmps106
   go_wp2_with fail
   refine (rpop (r := A.r) w).mono ?_
   rintro e w1 ⟨rfl, ha, hb⟩
   have h1 := H.out.below hb
   have k5 := h1.cal.free (i * 13 + 5)
   obtain ⟨v5, k5'⟩ : ∃ v, w1.cell? ⟨A.gc, i * 13 + 5, none⟩ = some v := ⟨_, h1.kc HI.out (show 5 < 13 by omega) rfl⟩
   have k0 := h1.k0 HI.out
   have z0 := h1.zc (i * 13)
   have H1 := Lib.hid h1
   have HA := Lib.hid ha
   have HB := Lib.hid hb
   clear h1 ha hb k6 c1
   go_wp2
   first | refine bodyPost_end (results_none rfl _ _ _) rfl ⟨rfl, ?_⟩ | refine bodyPost_ret (results_none rfl _ _ _) rfl ⟨rfl, ?_⟩
   have on := ((FOn.refl H.out).below HB.out).toAct HI.out popA HA.out (H.out.far_new HI.out) (Nat.le_refl _)
   have on2 := on.toCa (i := i) (j := 0) HI.out (by omega) (.int .i64 5) (nextC (F.ca i)) (by rw [setCa_ca]; unfold nextC; rw [if_neg HZ.out]; rfl) (by rw [setCa_ca]; unfold nextC; rw [if_neg HZ.out])
   rw [setCa_setCa] at on2
   exact on2.to
set_option maxRecDepth 100000 in
theorem fr_free (h : FrB w f A F) {i : Nat} (hi : i < F.N) : Calls Tryz.prog 63 #[.pointer (some ⟨f, 0, none⟩), .int .i64 (i : Int)] w fun e w' => e = .returned (.tuple #[]) ∧ FTo w f A F (fsFree F i) w' := by
 have c2 := h.c2
 have i1 : (0 : Int) ≤ (i : Int) := by omega
 have i2 : (i : Int) < (F.N : Int) := by omega
 have H := Lib.hid h
 have HI := Lib.hid hi
 clear h hi
 go_enter Tryz.func63, Tryz.ntmps63
 go_wp2_with fail
 refine (lk_free A.lk F.lo (i : Int) w H.out.lock).mono ?_
 rintro e w1 ⟨rfl, hl, hk⟩
 have on := (FOn.refl H.out).toLk hl hk
 have he : (if 0 ≤ (i : Int) ∧ F.lo = (i : Int) then (-1 : Int) else F.lo) = (if F.lo = (i : Int) then -1 else F.lo) := by
   by_cases e : F.lo = (i : Int)
   · rw [if_pos e, if_pos ⟨i1, e⟩]
   · rw [if_neg e, if_neg (fun h => e h.2)]
 rw [he] at on
 have c4 := on.b.c4
 have k0 := on.b.k0 (i := i) HI.out
 have z0 := on.b.zc (i * 13)
 have ON := Lib.hid on
 clear on hl hk he c2
 go_wp2
 first | refine bodyPost_end (results_none rfl _ _ _) rfl ⟨rfl, ?_⟩ | refine bodyPost_ret (results_none rfl _ _ _) rfl ⟨rfl, ?_⟩
 exact (ON.out.toCa (i := i) (j := 0) HI.out (by omega) (.int .i64 3) { F.ca i with nx := 3 } rfl rfl).to
set_option maxRecDepth 100000 in
theorem fr_try (h : FrB w f A F) {i : Nat} (hi : i < F.N) : Calls Tryz.prog 59 #[.pointer (some ⟨f, 0, none⟩), .int .i64 (i : Int)] w fun e w' => e = .returned (.tuple #[]) ∧ FTo w f A F (fsTry F i) w' := by
 have c2 := h.c2
 have c4 := h.c4
 have i1 : (0 : Int) ≤ (i : Int) := by omega
 have i2 : (i : Int) < (F.N : Int) := by omega
 have H := Lib.hid h
 have HI := Lib.hid hi
 clear h hi
 go_enter Tryz.func59, Tryz.ntmps59
 go_wp2_with fail
 refine (lk_try A.lk F.lo (i : Int) w H.out.lock).mono ?_
 rintro e w1 ⟨rfl, hl, hk⟩
 have on := (FOn.refl H.out).toLk hl hk
 by_cases hlo : F.lo = -1
 · have he : decide (0 ≤ (i : Int) ∧ F.lo = -1) = true := decide_eq_true ⟨i1, hlo⟩
   rw [if_pos ⟨i1, hlo⟩] at on
   rw [he]
   have k6 := on.b.k6 (i := i) HI.out
   have z6 := on.b.zc (i * 13 + 6)
   have c4 := on.b.c4
   have ON := Lib.hid on
   have HL := Lib.hid hlo
   clear on hl hk he c2 hlo
   go_wp2_with (go_at_call 30; refine (fr_threads ON.out.b).mono ?_; rintro e w2 ⟨rfl, rfl⟩)
   have on2 := ON.out.toCa (i := i) (j := 6) HI.out (by omega) (.int .i64 (F.N : Int)) { F.ca i with lf := (F.N : Int) } rfl rfl
   refine (fr_next on2.b (i := i) HI.out).mono ?_
   rintro e w3 ⟨rfl, hs⟩
   have hs2 := on2.and hs
   rw [setCa_ca, setCa_setCa] at hs2
   have HS := Lib.hid hs2
   clear hs hs2
   go_wp2
   first | refine bodyPost_end (results_none rfl _ _ _) rfl ⟨rfl, ?_⟩ | refine bodyPost_ret (results_none rfl _ _ _) rfl ⟨rfl, ?_⟩
   unfold fsTry
   rw [if_pos HL.out]
   exact HS.out
 · have he : decide (0 ≤ (i : Int) ∧ F.lo = -1) = false := decide_eq_false (fun h => hlo h.2)
   rw [if_neg (fun h => hlo h.2)] at on
   rw [he]
   have k0 := on.b.k0 (i := i) HI.out
   have z0 := on.b.zc (i * 13)
   have ON := Lib.hid on
   have HL := Lib.hid hlo
   clear on hl hk he c2 hlo
   go_wp2
   first | refine bodyPost_end (results_none rfl _ _ _) rfl ⟨rfl, ?_⟩ | refine bodyPost_ret (results_none rfl _ _ _) rfl ⟨rfl, ?_⟩
   unfold fsTry
   rw [if_neg HL.out]
   exact (ON.out.toCa (i := i) (j := 0) HI.out (by omega) (.int .i64 3) { F.ca i with nx := 3 } rfl rfl).to
end
end Go.Proofs.YtcffeokbipjaoaaGreat
