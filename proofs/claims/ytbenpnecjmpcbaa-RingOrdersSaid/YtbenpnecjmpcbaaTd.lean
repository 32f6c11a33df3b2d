/- A thread of the team begins an act, or does a step. -/
import Derived.Test.YtbenpnecjmpcbaaTc
namespace Go.Proofs.Ytbenpnecjmpcbaa
open Go.RowKit
set_option linter.unusedVariables false
set_option linter.unusedSimpArgs false
/-- The act that a pick begins, and its kind. -/
def tk0 (d : Int) : Int := if d.tmod 4 < 2 then 0 else 2
def tc0 (d v : Int) : Ac := if d.tmod 4 < 2 then ⟨2, 0, 0, v, 0, false, false⟩ else ⟨7, 0, 0, 0, 0, false, false⟩
theorem tc0_K (d v : Int) : AcK (tk0 d) (tc0 d v) := by
  unfold tk0 tc0
  split
  · exact .inl ⟨rfl, rfl, .inr (.inr (.inl rfl))⟩
  · exact .inr ⟨rfl, fun _ => rfl, .inr (.inr (.inl rfl))⟩
theorem tc0_nx (d v : Int) : (tc0 d v).nx = 2 ∨ (tc0 d v).nx = 7 := by
  unfold tc0
  split
  · exact .inl rfl
  · exact .inr rfl
theorem tc0_po (d v : Int) : (tc0 d v).po = 0 ∧ (tc0 d v).pl = 0 := by
  unfold tc0
  split <;> exact ⟨rfl, rfl⟩
theorem AcK.top {K : Int} {c : Ac} (h : AcK K c) : c.nx ≤ 10 ∧ 0 ≤ c.nx := by
  rcases h with ⟨-, -, h⟩ | ⟨-, -, h⟩ <;> omega
section
variable {B n : Nat} {A : Ta} {g : Rg} {ac : Nat → Option Ac} {K : Nat → Int}
theorem tm_begin {j : Nat} {d v : Int} (w : World) (h : TmAt w B n A g ac K) (hj : j < 6) (hj0 : ac j = none) (hB : B ≤ w.heap.size) :
    Calls Try.prog 18 #[.pointer (some ⟨A.t, 0, none⟩), .int .i64 (j : Int), .int .u8 d, .int .u64 v] w fun e w' => e = .returned (.tuple #[]) ∧ ∃ A', A'.t = A.t ∧ TmAt w' B n A' g (upd ac j (some (tc0 d v))) (upd K j (tk0 d)) ∧ Kept (TOwn A ac) w w' := by
  obtain ⟨cs, h1, h2, h3, h4⟩ := h.row
  obtain ⟨ta, tb⟩ := h4 j hj
  have hK := tc0_K d v
  by_cases hd : d.tmod 4 < 2
  · rw [show tc0 d v = ⟨2, 0, 0, v, 0, false, false⟩ from if_pos hd, show tk0 d = 0 from if_pos hd] at hK ⊢
    refine (tbegin_push w hj h1 h2 ta tb (decide_eq_true hd)).mono ?_
    rintro e w' ⟨rfl, hg⟩
    exact ⟨rfl, h.begun hj hj0 hB hK h1 hg⟩
  · rw [show tc0 d v = ⟨7, 0, 0, 0, 0, false, false⟩ from if_neg hd, show tk0 d = 2 from if_neg hd] at hK ⊢
    refine (tbegin_pop w hj h1 h2 ta tb (decide_eq_false hd)).mono ?_
    rintro e w' ⟨rfl, hg⟩
    exact ⟨rfl, h.begun hj hj0 hB hK h1 hg⟩
theorem tm_step {j k : Nat} {c : Ac} (w : World) (h : TmAt w B n A g ac K) (hj : j < 6) (hc : ac j = some c) (h2 : 2 ≤ c.nx) (hb : TBd k n g ac) (hk : k ≤ 100000) :
    Calls Try.prog 19 #[.pointer (some ⟨A.t, 0, none⟩), .int .i64 (j : Int)] w fun e w' => e = .returned (.bool true) ∧ TmAt w' B n A (rgS n g c) (upd ac j (some (acS n g c))) K ∧ Kept (TOwn A ac) w w' := by
  obtain ⟨cs, h1, h2', h3, h4⟩ := h.row
  obtain ⟨ta, tb⟩ := h4 j hj
  rw [hc] at ta tb
  obtain ⟨ha, hy, hK⟩ := h.act j c hj hc
  have hn := h.ring.n1
  obtain ⟨p1, p2⟩ := hb.po j c hc
  refine (tstep w hj h1 h2' h3 ta tb h.ring h.doc ha hy hK ⟨h2, hK.top.1⟩ (by omega) (by omega) (by have := hb.t; omega) (fun i => by have := hb.s i; omega)).mono ?_
  rintro e w' ⟨rfl, hr', hx', ha', hy', hk'⟩
  have tr := h.ring.apart h1 (by decide) (by decide)
  have tx := h.doc.apart h1 (by decide) (by decide)
  have tn : ¬ Sown (A.pa j) A.r A.s (A.py j) A.q A.b A.d A.t := by
    rintro ((e | e | e) | (e | e | e | e))
    · exact h1.other ha (by decide) e
    · exact tr.1 e
    · exact tr.2 e
    · exact h1.other hy (by decide) e
    · exact tx.1 e
    · exact tx.2.1 e
    · exact tx.2.2 e
  have jn := ne_some hc
  have up : ∀ {x}, upd ac j (some (acS n g c)) x ≠ none → ac x ≠ none := by
    intro x hx h0
    by_cases e : x = j
    · subst e; rw [hc] at h0; cases h0
    · apply hx; unfold upd; rw [if_neg e]; exact h0
  refine ⟨rfl, ⟨⟨cs, h1.kept hk' tn, h2', h3, fun i hi => ?_⟩, hr', hx', fun i x hi hx => ?_, fun i i' hi hi' hne hx hx2 => h.apa i i' hi hi' hne (up hx) (up hx2), fun k hk => h.low k ?_⟩, hk'.more fun k _ e => ?_⟩
  · obtain ⟨b1, b2⟩ := h4 i hi
    by_cases e : i = j
    · subst e
      rw [hc] at b1 b2
      rw [show upd ac i (some (acS n g c)) i = some (acS n g c) from by unfold upd; simp]
      exact ⟨b1, b2⟩
    · rw [show upd ac j (some (acS n g c)) i = ac i from by unfold upd; simp [e]]
      exact ⟨b1, b2⟩
  · rcases upd_some hx with ⟨rfl, e⟩ | ⟨e, e'⟩
    · cases e
      exact ⟨ha', hy', acS_K hK⟩
    · obtain ⟨c1, c2, c3⟩ := h.act i x hi e'
      have ⟨q1, q2⟩ := h.apa i j hi hj e (ne_some e') jn
      have r1 := h.ring.apart c1 (by decide) (by decide)
      have r2 := h.ring.apart c2 (by decide) (by decide)
      have x1 := h.doc.apart c1 (by decide) (by decide)
      have x2 := h.doc.apart c2 (by decide) (by decide)
      refine ⟨c1.kept hk' ?_, YAt.kept c2 hk' ?_, c3⟩
      · rintro ((e | e | e) | (e | e | e | e))
        · exact q1 e
        · exact r1.1 e
        · exact r1.2 e
        · exact Blk.other c1 hy (by decide) e
        · exact x1.1 e
        · exact x1.2.1 e
        · exact x1.2.2 e
      · rintro ((e | e | e) | (e | e | e | e))
        · exact Blk.other c2 ha (by decide) e
        · exact r2.1 e
        · exact r2.2 e
        · exact q2 e
        · exact x2.1 e
        · exact x2.2.1 e
        · exact x2.2.2 e
  · rcases hk with e | e | e | e | e | e | ⟨i, hi, hx, e⟩
    · exact .inl e
    · exact .inr (.inl e)
    · exact .inr (.inr (.inl e))
    · exact .inr (.inr (.inr (.inl e)))
    · exact .inr (.inr (.inr (.inr (.inl e))))
    · exact .inr (.inr (.inr (.inr (.inr (.inl e)))))
    · exact .inr (.inr (.inr (.inr (.inr (.inr ⟨i, hi, up hx, e⟩)))))
  · rcases e with (e | e | e) | (e | e | e | e)
    · exact .inr (.inr (.inr (.inr (.inr (.inr ⟨j, hj, jn, .inl e⟩)))))
    · exact .inr (.inl e)
    · exact .inr (.inr (.inl e))
    · exact .inr (.inr (.inr (.inr (.inr (.inr ⟨j, hj, jn, .inr e⟩)))))
    · exact .inr (.inr (.inr (.inl e)))
    · exact .inr (.inr (.inr (.inr (.inl e))))
    · exact .inr (.inr (.inr (.inr (.inr (.inl e)))))
end
/-- A done act, as the law notes it. -/
structure Dn where
  kind : Int
  v : Int
  b : Int
  e : Int
  well : Bool
  re : Int
def dnRow (x : Dn) : List Value := [.int .i64 x.kind, .int .u64 x.v, .int .i64 x.b, .int .i64 x.e, .bool x.well, .int .i64 x.re]
/-- What is noted of each thread's act. -/
def NowAt (w : World) (p : Nat) (N : Nat → Dn) : Prop := ∃ cs, Blk w p 58 cs ∧ cs.size = 36 ∧ ∀ j k, j < 6 → k < 6 → cs[j * 6 + k]? = (dnRow (N j))[k]?
section
variable {w w' : World} {p : Nat} {N : Nat → Dn}
theorem NowAt.val (h : NowAt w p N) {j k : Nat} {v : Value} (hj : j < 6) (hk : k < 6) (hv : (dnRow (N j))[k]? = some v) : w.cell? ⟨p, j * 6 + k, none⟩ = some v := by
  obtain ⟨cs, h1, -, h3⟩ := h
  exact h1.val ((h3 j k hj hk).trans hv)
theorem NowAt.free (h : NowAt w p N) (k : Nat) : w.frozen? ⟨p, k, none⟩ = false := by obtain ⟨cs, h1, -⟩ := h; exact h1.free k
theorem NowAt.kept {own : Nat → Prop} (h : NowAt w p N) (hk : Kept own w w') (hn : ¬ own p) : NowAt w' p N := by
  obtain ⟨cs, h1, h2⟩ := h
  exact ⟨cs, h1.kept hk hn, h2⟩
theorem NowAt.set (h : NowAt w p N) {j k : Nat} (hj : j < 6) (hk : k < 6) (v : Value) (x : Dn) (hx : ∀ i, i < 6 → (dnRow x)[i]? = if i = k then some v else (dnRow (N j))[i]?) : NowAt (w.setCell ⟨p, j * 6 + k, none⟩ v) p (upd N j x) := by
  obtain ⟨cs, h1, h2, h3⟩ := h
  refine ⟨_, h1.set_ _ _, by rw [Array.size_setIfInBounds]; exact h2, fun i l hi hl => ?_⟩
  by_cases e : i = j
  · subst e
    rw [show upd N i x i = x from by unfold upd; simp, hx l hl]
    by_cases e' : l = k
    · subst e'
      rw [get_set_same (by omega), if_pos rfl]
    · rw [get_set_far (by omega), if_neg e']
      exact h3 i l hi hl
  · rw [show upd N j x i = N i from by unfold upd; simp [e], get_set_far (by omega)]
    exact h3 i l hi hl
theorem upd_upd' {α : Type} (f : Nat → α) (i : Nat) (x y : α) : upd (upd f i x) i y = upd f i y := by
  funext k
  unfold upd
  split <;> rfl
end
end Go.Proofs.Ytbenpnecjmpcbaa
