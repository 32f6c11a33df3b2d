/- A log that is filled, and the list beside it: all that is asked of them. -/
import Derived.Test.YtidkemgibehpcaaTln
namespace Go.Proofs.Ytidkemgibehpcaa
open Go.RowKit
set_option linter.unusedVariables false
set_option linter.unusedSimpArgs false
/-- Behind p lies a log of L, at (A, c) the document's list of the same; n is how many. -/
structure Fil (w : World) (b0 : Nat) (W : World) (p : Nat) (r : Option Nat) (A : Option Addr) (c : Nat) (L : List Oc) (n : Nat) : Prop where
  log : LogAt b0 W p r L
  row : OwO rT W b0 (.slice A n c) L
  bel : Below w.heap.size w W
  len : L.length = n
  few : n ≤ 60
  ok : OkL L
  base : w.heap.size ≤ b0
  top : b0 ≤ W.heap.size
  at_ : b0 ≤ p
theorem fil_of {w W : World} {len cap : Nat} {A : Option Addr} {Q : Nat → Oc} (h : SeqAt w w.heap.size A len 6 fun i => ocRow (Q i)) (hlc : len ≤ cap) (hcm : cap ≤ maxLen) (hok : ∀ i, (Q i).ok) (hW : Below w.heap.size w W) {L : List Oc} {n : Nat} (hL : takeF Q (min len 60) = L) (hn : L.length = n) :
    Calls Try.prog 8 #[.slice A len cap] W fun e w' => ∃ p r A' c, e = .returned (.tuple #[.pointer (some ⟨p, 0, none⟩), .slice A' n c]) ∧ Fil w W.heap.size w' p r A' c L n ∧ Below W.heap.size W w' := by
  refine (lfilled W (SeqAt.below h hW) hW.size hlc hcm).mono ?_
  rintro e w' ⟨p, r, v, rfl, hp, hlog, hrow, hb⟩
  rw [hL] at hlog hrow
  obtain ⟨A', c, rfl, -⟩ := hrow.rd
  refine ⟨p, r, A', c, by rw [hn], ⟨hlog, by rw [← hn]; exact hrow, hW.trans (hb.mono hW.size), hn, ?_, ?_, hW.size, hb.size, hp⟩, hb⟩
  · rw [← hn, ← hL, takeF_len]; omega
  · rw [← hL]; exact okL_takeF hok _
theorem rd_own {t : TypeId} {W : World} {b n c : Nat} {A : Option Addr} {L : List Oc} (h : OwO t W b (.slice A n c) L) : RdO W W.heap.size A L := by
  obtain ⟨A', c', hv, hr, -⟩ := OwO.rd h
  injection hv with h1 h2 h3
  subst h1
  exact hr
section
variable {w W W' : World} {b0 p n : Nat} {r : Option Nat} {A : Option Addr} {c : Nat} {L : List Oc}
theorem Fil.below (h : Fil w b0 W p r A c L n) (hb : Below W.heap.size W W') : Fil w b0 W' p r A c L n :=
  ⟨h.log.below hb, OwO.below h.row hb, h.bel.trans (hb.mono h.bel.size), h.len, h.few, h.ok, h.base, Nat.le_trans h.top hb.size, h.at_⟩
theorem Fil.alloc (h : Fil w b0 W p r A c L n) (o : Obj) : Fil w b0 (W.alloc o) p r A c L n := h.below ((Below.refl _ _).alloc (Nat.le_refl _) _)
theorem Fil.rd (h : Fil w b0 W p r A c L n) : RdO W W.heap.size A L := by
  obtain ⟨A', c', hv, hr, -⟩ := OwO.rd h.row
  injection hv with h1 h2 h3
  subst h1
  exact hr
theorem Fil.len_ (h : Fil w b0 W p r A c L n) : Calls Try.prog 11 #[.pointer (some ⟨p, 0, none⟩)] W fun e w' => e = .returned (.int .i64 (n : Int)) ∧ W = w' := by
  rw [← h.len]; exact tlen W h.log
theorem Fil.some_ (h : Fil w b0 W p r A c L n) (tier why : Int) {S : List Oc} (hS : L.filter (someB tier why) = S) : Calls Try.prog 9 #[.slice A n c, .int .i64 tier, .int .u8 why] W fun e w' => ∃ A' c', e = .returned (.slice A' S.length c') ∧ OwO rT w' W.heap.size (.slice A' S.length c') S ∧ Below W.heap.size W w' := by
  rw [← h.len, ← hS]
  refine (rsome tier why W h.rd (Nat.le_refl _) (by have := h.len; have := h.few; omega)).mono ?_
  rintro e w' ⟨v', rfl, ho, hb⟩
  obtain ⟨A', c', rfl, -⟩ := ho.rd
  exact ⟨A', c', rfl, ho, hb⟩
theorem Fil.rsince_ (h : Fil w b0 W p r A c L n) (m : Int) {S : List Oc} (hS : L.drop m.toNat = S) : Calls Try.prog 19 #[.slice A n c, .int .i64 m] W fun e w' => ∃ A' c', e = .returned (.slice A' S.length c') ∧ OwO rT w' W.heap.size (.slice A' S.length c') S ∧ Below W.heap.size W w' := by
  rw [← h.len, ← hS]
  refine (rsince m W h.rd (Nat.le_refl _) (by have := h.len; have := h.few; omega)).mono ?_
  rintro e w' ⟨v', rfl, ho, hb⟩
  obtain ⟨A', c', rfl, -⟩ := ho.rd
  exact ⟨A', c', rfl, ho, hb⟩
theorem Fil.count_ (h : Fil w b0 W p r A c L n) (tier why : Int) {S : List Oc} (hS : L.filter (someB tier why) = S) : Calls Try.prog 12 #[.pointer (some ⟨p, 0, none⟩), .int .i64 tier, .int .u8 why] W fun e w' => e = .returned (.int .i64 (S.length : Int)) ∧ Below W.heap.size W w' := by
  rw [← hS]
  exact tcount tier why W h.log (by have := h.len; have := h.few; omega)
theorem Fil.long_ (h : Fil w b0 W p r A c L n) (tier : Int) {S : List Oc} (hS : L.filter (someB tier 1) = S) {m : Int} {o : Bool} (hm : lonE S = (m, o)) : Calls Try.prog 10 #[.pointer (some ⟨p, 0, none⟩), .int .i64 tier] W fun e w' => e = .returned (.tuple #[.int .i64 m, .bool o]) ∧ Below W.heap.size W w' := by
  have := tlongest tier W h.log (by have := h.len; have := h.few; omega)
  rw [show (L.filter fun o => isOfB tier o && whyB 1 o) = S from hS, hm] at this
  exact this
theorem Fil.spread_ (h : Fil w b0 W p r A c L n) (tier : Int) {S : List Oc} (hS : L.filter (someB tier 1) = S) {t : Nat} (ht : topK S = t) : Calls Try.prog 14 #[.pointer (some ⟨p, 0, none⟩), .int .i64 tier] W fun e w' => ∃ A' c', e = .returned (.slice A' t c') ∧ w'.ownsRow W.heap.size 3 1 (.slice A' t c') t (rowF (cntK S) t) ∧ Below W.heap.size W w' := by
  refine (tspread tier W h.log (by have := h.len; have := h.few; omega) h.ok).mono ?_
  rw [show (L.filter fun o => isOfB tier o && whyB 1 o) = S from hS, ht]
  rintro e w' ⟨v, rfl, ho, hb⟩
  obtain ⟨A', c', rfl⟩ := own_form ho
  exact ⟨A', c', rfl, ho, hb⟩
theorem Fil.rspread_ (h : Fil w b0 W p r A c L n) (tier : Int) {S : List Oc} (hS : L.filter (someB tier 1) = S) {t : Nat} (ht : topK S = t) : Calls Try.prog 15 #[.slice A n c, .int .i64 tier] W fun e w' => ∃ A' c', e = .returned (.slice A' t c') ∧ w'.ownsRow W.heap.size 3 1 (.slice A' t c') t (rowF (cntK S) t) ∧ Below W.heap.size W w' := by
  have hh := rspread (c := c) tier W h.rd (Nat.le_refl _) (by have := h.len; have := h.few; omega) h.ok
  rw [h.len, hS, ht] at hh
  refine hh.mono ?_
  rintro e w' ⟨v, rfl, ho, hb⟩
  obtain ⟨A', c', rfl⟩ := own_form ho
  exact ⟨A', c', rfl, ho, hb⟩
theorem Fil.since_ (h : Fil w b0 W p r A c L n) (m : Int) {S : List Oc} (hS : L.drop m.toNat = S) : Calls Try.prog 18 #[.pointer (some ⟨p, 0, none⟩), .int .i64 m] W fun e w' => ∃ A' c', e = .returned (.slice A' S.length c') ∧ OwO tT w' W.heap.size (.slice A' S.length c') S ∧ Below W.heap.size W w' := by
  rw [← hS]
  refine (tsince m W h.log (by have := h.len; have := h.few; omega)).mono ?_
  rintro e w' ⟨v', rfl, ho, hb⟩
  obtain ⟨A', c', rfl, -⟩ := ho.rd
  exact ⟨A', c', rfl, ho, hb⟩
/-- A row of ours, as the document has it. -/
theorem own_ {b : Nat} {S : List Oc} {A' : Option Addr} {c' : Nat} (h : OwO tT W b (.slice A' S.length c') S) (hl : S.length ≤ 1000) : Calls Try.prog 17 #[.slice A' S.length c'] W fun e w' => ∃ A' c', e = .returned (.slice A' S.length c') ∧ OwO rT w' W.heap.size (.slice A' S.length c') S ∧ Below W.heap.size W w' := by
  obtain ⟨A2, c2, hv, hr, -⟩ := OwO.rd h
  injection hv with h1 h2 h3
  subst h1
  refine (lown W hr (Nat.le_refl _) hl).mono ?_
  rintro e w' ⟨v', rfl, ho, hb⟩
  obtain ⟨A', c', rfl, -⟩ := ho.rd
  exact ⟨A', c', rfl, ho, hb⟩
theorem same_ {b b' : Nat} {S : List Oc} {A' A2 : Option Addr} {c' c2 : Nat} (h : OwO rT W b (.slice A' S.length c') S) (h' : OwO rT W b' (.slice A2 S.length c2) S) (hl : S.length ≤ 1000) : Calls Try.prog 16 #[.slice A' S.length c', .slice A2 S.length c2] W fun e w' => e = .returned (.bool true) ∧ Below W.heap.size W w' := by
  obtain ⟨_, _, hv, hr, -⟩ := OwO.rd h
  injection hv with h1 h2 h3
  subst h1
  obtain ⟨_, _, hv, hr', -⟩ := OwO.rd h'
  injection hv with h1 h2 h3
  subst h1
  exact rsame W hr hr' (Nat.le_refl _) (Nat.le_refl _) hl
theorem Fil.collect_ (h : Fil w b0 W p r A c L n) {k : Nat} (why : Int) {S : List Oc} (hS : L.filter (whyB why) = S) (hk : k + 1 < W.heap.size) (c0 : W.cell? ⟨k, 0, none⟩ = some (.pointer (some ⟨p, 0, none⟩))) (c1 : W.cell? ⟨k + 1, 0, none⟩ = some (.int .u8 why)) :
    Calls Try.prog 20 #[.func (.func 30) #[] (tlv k)] W fun e w' => ∃ A' c', e = .returned (.slice A' S.length c') ∧ OwO tT w' W.heap.size (.slice A' S.length c') S ∧ Below W.heap.size W w' := by
  rw [← hS]
  refine (tcollect W h.log (by have := h.len; have := h.few; omega) hk c0 c1).mono ?_
  rintro e w' ⟨v', rfl, ho, hb⟩
  obtain ⟨A', c', rfl, -⟩ := ho.rd
  exact ⟨A', c', rfl, ho, hb⟩
end
theorem row_below {W W' : World} {b n sz : Nat} {t : TypeId} {v : Value} {xs : List Value} (h : W.ownsRow b t sz v n xs) (hb : Below W.heap.size W W') : W'.ownsRow b t sz v n xs := own_kept h (Kept.of_below (own := fun _ => False) hb) (fun _ _ _ h => h)
/-- What Longest says of a list. -/
theorem lon_facts (D : List Oc) : ((lonE D).2 = decide (0 < D.length)) ∧ ((lonE D).2 = false → (lonE D).1 = 0) ∧ (∀ o ∈ D, o.f ≤ (lonE D).1) ∧ ((lonE D).2 = true → ∃ o ∈ D, o.f = (lonE D).1) := by
  have key : ∀ n, ∀ D : List Oc, D.length = n → ((lonE D).2 = decide (0 < D.length)) ∧ ((lonE D).2 = false → (lonE D).1 = 0) ∧ (∀ o ∈ D, o.f ≤ (lonE D).1) ∧ ((lonE D).2 = true → ∃ o ∈ D, o.f = (lonE D).1) := by
    intro n
    induction n with
    | zero =>
      intro D h
      obtain rfl := List.length_eq_zero_iff.1 h
      exact ⟨rfl, fun _ => rfl, fun o ho => absurd ho (by simp), fun h => by cases h⟩
    | succ n ih =>
      intro D h
      obtain ⟨l, a, rfl⟩ : ∃ l a, D = l ++ [a] := ⟨D.dropLast, D.getLast ((by intro e; subst e; cases h)), (List.dropLast_concat_getLast _).symm⟩
      have hl : l.length = n := by simpa using h
      obtain ⟨h1, h2, h3, h4⟩ := ih l hl
      rw [lonE_snoc]
      unfold lonS
      by_cases hc : (lonE l).2 = false ∨ (lonE l).1 < a.f
      · rw [if_pos hc]
        refine ⟨by simp, fun h => (by cases h), fun o ho => ?_, fun _ => ⟨a, by simp, rfl⟩⟩
        rcases List.mem_append.1 ho with ho | ho
        · rcases hc with hc | hc
          · rw [hc] at h1
            have : l.length = 0 := by simpa using h1.symm
            rw [List.length_eq_zero_iff.1 this] at ho
            cases ho
          · have := h3 o ho
            show o.f ≤ a.f
            omega
        · rw [List.mem_singleton.1 ho]
          exact Int.le_refl _
      · rw [if_neg hc]
        have ht : (lonE l).2 = true := by
          cases hh : (lonE l).2
          · exact absurd (.inl hh) hc
          · rfl
        refine ⟨by rw [ht]; simp, fun h => (by rw [ht] at h; cases h), fun o ho => ?_, fun _ => ?_⟩
        · rcases List.mem_append.1 ho with ho | ho
          · exact h3 o ho
          · rw [List.mem_singleton.1 ho]
            have : ¬ (lonE l).1 < a.f := fun e => hc (.inr e)
            omega
        · obtain ⟨o, ho, he⟩ := h4 ht
          exact ⟨o, List.mem_append_left _ ho, he⟩
  exact key _ D rfl
end Go.Proofs.Ytidkemgibehpcaa
