/- Texts of this claim, one behind the other: Coi. -/
import Derived.Test.YtcffeokbipjaoaaGreatMtbm
namespace Go.Proofs.YtcffeokbipjaoaaGreat
open Go.ChangeShapes Go.WideShapes Go.RowKit Kn
set_option linter.unusedVariables false
set_option linter.unusedSimpArgs false
abbrev resT : TypeId := 39
theorem resT_not : resT ∉ tqTypes := by decide
def resv (a t b c s : Int) : Value := .agg #[.int .u8 a, .int .u64 t, .int .i64 b, .int .i64 c, .int .i64 s]
theorem last_ge (P : Nat → Prop) (N : Nat) (h : ∃ u, u < N ∧ P u) : ∃ u, u < N ∧ P u ∧ ∀ r, u < r → r < N → ¬ P r := by
 induction N with
 | zero => obtain ⟨u, hu, _⟩ := h; omega
 | succ N ih =>
   by_cases hN : P N
   · exact ⟨N, by omega, hN, fun r h1 h2 => by omega⟩
   · obtain ⟨u, hu, hp⟩ := h
     have hne : u ≠ N := fun e => hN (e ▸ hp)
     obtain ⟨v, hv, hpv, hr⟩ := ih ⟨u, by omega, hp⟩
     refine ⟨v, by omega, hpv, fun r h1 h2 => ?_⟩
     by_cases hrN : r = N
     · rw [hrN]; exact hN
     · exact hr r h1 (by omega)
theorem LastIs.uni {S : Cor} {u v : Nat} (h : LastIs S u) (h' : LastIs S v) : u = v := by
 rcases Nat.lt_trichotomy u v with c | c | c
 · have := h.2.2 v c h'.1; have := h'.2.1; omega
 · exact c
 · have := h'.2.2 u c h.1; have := h.2.1; omega
open Classical in
noncomputable def lastE (S : Cor) : Nat := if h : ∃ u, LastIs S u then Classical.choose h else 0
theorem lastE_is {S : Cor} (h : ∃ u, LastIs S u) : LastIs S (lastE S) := by
 unfold lastE; rw [dif_pos h]; exact Classical.choose_spec h
noncomputable def roomB (S : Cor) (t : Int) : Bool := decide (0 < S.q.m ∨ t < (lastE S : Int))
noncomputable def roomS (S : Cor) (t : Int) : Cor := if 0 < S.q.m then S else if t < (lastE S : Int) then settleS S (laE (S.q.L (lastE S))) 4 else S
section
variable {w w' w'' : World} {p q gc gm l g b : Nat} {r r' : Option Nat} {O Oq Oq' : Nat → Prop} {S S' : Cor} {T : TypeId} {cs : Array Value}
theorem CoreL.last_ex (h : CoreL w p O S) (hm : S.q.m = 0) : ∃ u, LastIs S u := by
 obtain ⟨q, gc, gm, l, r, Oq, h1, -⟩ := h.cells
 have hi := h1.que.inv
 have h0 : 0 < S.n := h1.ok.n1
 have ht : S.q.T 0 = true := by
   cases e : S.q.T 0 with
   | true => rfl
   | false => obtain ⟨j, hj, _⟩ := hi.fs 0 h0 e; omega
 obtain ⟨b0, b1, hb⟩ := hi.tr 0 h0 ht
 obtain ⟨u, hu, hp, hr⟩ := last_ge (fun u => 0 < (S.q.L u).length) S.N ⟨(S.q.R 0).b.toNat, by omega, List.length_pos_of_mem hb⟩
 exact ⟨u, hu, hp, fun r h1 h2 => by have := hr r h1 h2; omega⟩
theorem co_room (t : Int) (h : CoreL w p O S) (hK : S.K ≤ 1000) :
   Calls Tryz.prog 122 #[.pointer (some ⟨p, 0, none⟩), .int .i64 t] w fun e w' => e = .returned (.bool (roomB S t)) ∧ CStep w p O (roomS S t) w' := by
 unfold roomB roomS
 by_cases hm : 0 < S.q.m
 · rw [if_pos hm, decide_eq_true (.inl hm)]
   exact (co_room_free h hm).mono fun _ _ e => ⟨e.1, CStep.refl_ h e.2⟩
 · have hm0 : S.q.m = 0 := by omega
   have hl := lastE_is (h.last_ex hm0)
   rw [if_neg hm]
   by_cases ht : t < (lastE S : Int)
   · rw [if_pos ht, decide_eq_true (.inr ht)]
     exact co_room_yes h hm0 hl ht hK
   · rw [if_neg ht, decide_eq_false (by omega)]
     exact (co_room_no h hm0 hl (by omega)).mono fun _ _ e => ⟨e.1, CStep.refl_ h e.2⟩
theorem CoreL.box_ (h : CoreL w p O S) (hb : Blk w b T cs) (hT : T ∉ tqTypes) (hn : ¬ O b) (hk : Kept (fun k => k = b) w w') : CoreL w' p O S := by
 obtain ⟨⟨q, gc, gm, l, r, Oq, h1, h2⟩⟩ := h
 refine ⟨⟨q, gc, gm, l, r, Oq, h1.box_ hb hT ⟨fun e => hn ((h2 b).2 (.inl e)), fun e => hn ((h2 b).2 (.inr (.inl e))), fun e => hn ((h2 b).2 (.inr (.inr (.inl e)))), fun e => hn ((h2 b).2 (.inr (.inr (.inr (.inl e))))), fun e => hn ((h2 b).2 (.inr (.inr (.inr (.inr (.inl e))))))⟩ hk, h2⟩⟩
theorem CStep.blk (h : CStep w p O S w') (hb : Blk w b T cs) (hn : ¬ O b) : Blk w' b T cs := by
 obtain ⟨O1, h1, h2, h3⟩ := h
 exact hb.kept h3 hn
theorem CStep.box_ {w0 : World} (h : CStep w p O S w') (hst : Below w0.heap.size w0 w) (hb : Blk w' b T cs) (hT : T ∉ tqTypes) (hge : w0.heap.size ≤ b) (hlt : b < w.heap.size) (hn : ¬ O b) (hk : Kept (fun k => k = b) w' w'') : CStep w0 p O S w'' := by
 obtain ⟨O1, h1, h2, h3⟩ := h
 refine ⟨O1, h1.box_ hb hT (fun e => by rcases h2 b e with c | c; exact hn c; omega) hk, fun k hk => ?_, ?_⟩
 · rcases h2 k hk with c | c
   · exact .inl c
   · right; have := hst.size; omega
 · exact kept_step (kept_step (O := O) (Kept.of_below hst) (fun k hk => .inl hk) h3) (O' := fun k => k = b) (fun k hk => .inr (by omega)) hk
def put5 (w : World) (g : Nat) (a b c d e : Value) : World := ((((w.setCell ⟨g, 0, none⟩ a).setCell ⟨g, 1, none⟩ b).setCell ⟨g, 2, none⟩ c).setCell ⟨g, 3, none⟩ d).setCell ⟨g, 4, none⟩ e
theorem put5_blk {x0 x1 x2 x3 x4 a b c d e : Value} (h : Blk w g T #[x0, x1, x2, x3, x4]) : Blk (put5 w g a b c d e) g T #[a, b, c, d, e] := by
 have := ((((h.set_ 0 a).set_ 1 b).set_ 2 c).set_ 3 d).set_ 4 e
 simpa [put5] using this
theorem put5_kept {a b c d e : Value} : Kept (fun k => k = g) w (put5 w g a b c d e) :=
 ((((((Kept.refl (fun k => k = g) w).set_ (p := ⟨g, 0, none⟩) (.inl rfl) _).set_ (p := ⟨g, 1, none⟩) (.inl rfl) _).set_ (p := ⟨g, 2, none⟩) (.inl rfl) _).set_ (p := ⟨g, 3, none⟩) (.inl rfl) _).set_ (p := ⟨g, 4, none⟩) (.inl rfl) _)
end
end Go.Proofs.YtcffeokbipjaoaaGreat
