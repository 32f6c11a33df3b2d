/- The document's example of a ring; capacities; a queue in a slice. -/
import Derived.Test.YtbenpnecjmpcbaaRngi
import Derived.ArgAppend
namespace Go.Proofs.Ytbenpnecjmpcbaa
open Go.RowKit
set_option linter.unusedVariables false
section
variable {r s n : Nat} {g : Rg} {l : List Int}
theorem trypush_yes (v : Int) (w : World) (h : RingAt w r s n g) (hq : Rest n g l) (hn : 2 ≤ n) (hT : g.T ≤ 900000) (hl : l.length < n) :
    Calls Try.prog 15 #[.pointer (some ⟨r, 0, none⟩), .int .u64 v] w fun e w' => e = .returned (.bool true) ∧ (∃ g', RingAt w' r s n g' ∧ Rest n g' (l ++ [v]) ∧ g'.T = g.T + 1 ∧ g'.H = g.H) ∧ Kept (fun k => k = r ∨ k = s) w w' :=
  (rtrypush v w h hq hn hT).mono fun e w' ⟨h1, _, h3⟩ => ⟨(h1 hl).1, (h1 hl).2, h3⟩
theorem trypush_no (v : Int) (w : World) (h : RingAt w r s n g) (hq : Rest n g l) (hn : 2 ≤ n) (hT : g.T ≤ 900000) (hl : l.length = n) :
    Calls Try.prog 15 #[.pointer (some ⟨r, 0, none⟩), .int .u64 v] w fun e w' => e = .returned (.bool false) ∧ RingAt w' r s n g ∧ Kept (fun k => k = r ∨ k = s) w w' :=
  (rtrypush v w h hq hn hT).mono fun e w' ⟨_, h2, h3⟩ => ⟨(h2 hl).1, (h2 hl).2, h3⟩
theorem trypop_yes {x : Int} (w : World) (h : RingAt w r s n g) (hq : Rest n g (x :: l)) (hT : g.T ≤ 900000) :
    Calls Try.prog 11 #[.pointer (some ⟨r, 0, none⟩)] w fun e w' => e = .returned (.tuple #[.int .u64 x, .bool true]) ∧ (∃ g', RingAt w' r s n g' ∧ Rest n g' l ∧ g'.T = g.T ∧ g'.H = g.H + 1) ∧ Kept (fun k => k = r ∨ k = s) w w' :=
  (rtrypop w h hq hT).mono fun e w' ⟨h1, _, h3⟩ => ⟨(h1 _ _ rfl).1, (h1 _ _ rfl).2, h3⟩
theorem trypop_no (w : World) (h : RingAt w r s n g) (hq : Rest n g []) (hT : g.T ≤ 900000) :
    Calls Try.prog 11 #[.pointer (some ⟨r, 0, none⟩)] w fun e w' => e = .returned (.tuple #[.int .u64 0, .bool false]) ∧ RingAt w' r s n g ∧ Kept (fun k => k = r ∨ k = s) w w' :=
  (rtrypop w h hq hT).mono fun e w' ⟨_, h2, h3⟩ => ⟨(h2 rfl).1, (h2 rfl).2, h3⟩
end
set_option maxHeartbeats 1000000 in
theorem awaker (w : World) : Calls Try.prog 7 #[] w fun e w' => e = .returned (.bool true) ∧ Below w.heap.size w w' := by
  go_enter Try.func7, Try.ntmps7
  go_wp2_with fail
  refine (rnew 2 _ (.inl rfl)).mono ?_
  rintro e w1 ⟨r, s, g, rfl, hr, hs, h1, q1, t1, k1, b1⟩
  have H1 := Lib.hid h1
  have Q1 := Lib.hid q1
  have T1 := Lib.hid t1
  clear h1 q1 t1 k1
  go_wp2_with fail
  refine (trypush_yes 5 _ H1.out Q1.out (by omega) (by rw [T1.out]; omega) (by simp)).mono ?_
  rintro e w2 ⟨rfl, ⟨g2, h2, q2, t2, _⟩, k2⟩
  have H2 := Lib.hid h2
  have Q2 := Lib.hid q2
  have T2 := Lib.hid t2
  clear h2 q2 t2
  go_wp2_with fail
  refine (trypush_yes 6 _ H2.out Q2.out (by omega) (by rw [T2.out, T1.out]; omega) (by simp)).mono ?_
  rintro e w3 ⟨rfl, ⟨g3, h3, q3, t3, _⟩, k3⟩
  have H3 := Lib.hid h3
  have Q3 := Lib.hid q3
  have T3 := Lib.hid t3
  clear h3 q3 t3
  go_wp2_with fail
  refine (trypush_no 7 _ H3.out Q3.out (by omega) (by rw [T3.out, T2.out, T1.out]; omega) (by simp)).mono ?_
  rintro e w4 ⟨rfl, h4, k4⟩
  have H4 := Lib.hid h4
  clear h4
  go_wp2_with fail
  refine (trypop_yes (x := 5) (l := [6]) _ H4.out Q3.out (by rw [T3.out, T2.out, T1.out]; omega)).mono ?_
  rintro e w5 ⟨rfl, _, k5⟩
  go_wp2
  go_ret
  exact ⟨rfl, b1.trans ((((k2.trans k3).trans k4).trans k5).below (fun k hk => by omega) b1.size)⟩
def capE (x : Int) : Nat := if x % 3 = 0 then 2 else if x % 3 = 1 then 4 else 8
theorem capE_cases (x : Int) : capE x = 2 ∨ capE x = 4 ∨ capE x = 8 := by
  unfold capE
  by_cases h0 : x % 3 = 0
  · rw [if_pos h0]; exact .inl rfl
  · by_cases h1 : x % 3 = 1
    · rw [if_neg h0, if_pos h1]; exact .inr (.inl rfl)
    · rw [if_neg h0, if_neg h1]; exact .inr (.inr rfl)
set_option maxHeartbeats 1000000 in
theorem rcapy (x : Int) (w : World) (h0 : 0 ≤ x) (h1 : x ≤ 255) :
    Calls Try.prog 16 #[.int .u8 x] w fun e w' => e = .returned (.int .i64 (capE x : Int)) ∧ w = w' := by
  have hm : x.tmod 3 = x % 3 := Int.tmod_eq_emod_of_nonneg h0
  have hc : x % 3 = 0 ∨ x % 3 = 1 ∨ x % 3 = 2 := by omega
  rcases hc with c | c | c
  · have hE : capE x = 2 := by unfold capE; rw [if_pos c]
    rw [hE]
    clear hm hE
    go_enter Try.func16, Try.ntmps16
    go_wp2
    go_ret
    exact ⟨rfl, rfl⟩
  · have hE : capE x = 4 := by unfold capE; rw [if_neg (by omega), if_pos c]
    rw [hE]
    clear hm hE
    go_enter Try.func16, Try.ntmps16
    go_wp2
    go_ret
    exact ⟨rfl, rfl⟩
  · have hE : capE x = 8 := by unfold capE; rw [if_neg (by omega), if_neg (by omega)]
    rw [hE]
    clear hm hE
    go_enter Try.func16, Try.ntmps16
    go_wp2
    go_ret
    exact ⟨rfl, rfl⟩
/-- The slice v holds the numbers l, in a block of its own that begins at base or beyond, from some place in it on. -/
def QAt (w : World) (base : Nat) (v : Value) (l : List Int) : Prop :=
  ∃ A cap, v = .slice A l.length cap ∧ l.length ≤ cap ∧ (A = none → cap = 0) ∧ ∀ ad, A = some ad → ∃ g o cs, ad = ⟨g, o, none⟩ ∧ base ≤ g ∧ Blk w g 33 cs ∧ o + cap ≤ cs.size ∧ ∀ k, (hk : k < l.length) → cs[o + k]? = some (.int .u64 l[k])
def ownU (w : World) (k : Nat) : Prop := ∃ cs, Blk w k 33 cs
theorem QAt.nil (w : World) (base : Nat) : QAt w base (.slice none 0 0) [] := ⟨none, 0, rfl, Nat.le_refl _, fun _ => rfl, fun ad h => by cases h⟩
theorem QAt.kept {w w' : World} {base : Nat} {v : Value} {l : List Int} {own : Nat → Prop} (h : QAt w base v l) (hk : Kept own w w') (hn : ∀ k cs, Blk w k 33 cs → ¬ own k) : QAt w' base v l := by
  obtain ⟨A, cap, e, h1, h2, h3⟩ := h
  refine ⟨A, cap, e, h1, h2, fun ad ha => ?_⟩
  obtain ⟨g, o, cs, e1, e2, b, e3, e4⟩ := h3 ad ha
  exact ⟨g, o, cs, e1, e2, b.kept hk (hn _ _ b), e3, e4⟩
theorem QAt.below {w w' : World} {base : Nat} {v : Value} {l : List Int} (h : QAt w base v l) (hb : Below w.heap.size w w') : QAt w' base v l := h.kept (own := fun _ => False) (Kept.of_below hb) fun _ _ _ => id
theorem QAt.of_own {w : World} {base : Nat} {v : Value} {l : List Int} (h : w.ownsRow base 33 1 v l.length (l.map (Value.int .u64))) : QAt w base v l := by
  rcases h.2 with ⟨rfl, e⟩ | ⟨g, cap, cur, rfl, hb, hh, hn, _, hs, ht⟩
  · have : l = [] := List.eq_nil_of_length_eq_zero e
    subst this
    exact QAt.nil w base
  · refine ⟨_, cap, rfl, hn, (fun e => by cases e), fun ad e => ?_⟩
    cases e
    refine ⟨g, 0, cur, rfl, hb, hh, by omega, fun k hk => ?_⟩
    have h3 : (cur.toList.take (l.length * 1))[k]? = some (.int .u64 l[k]) := by rw [ht]; simp [hk]
    rw [List.getElem?_take_of_lt (by omega)] at h3
    simpa using h3
theorem uinfo : (Try.prog.info? 33).map (fun i => (i.zero, i.size, i.bytes)) = some (some (.int .u64 0), 1, 8) := by kernel_rfl
/-- One more at the end of a queue. -/
theorem wpList_qappend {w : World} {ops : Array Oper} {rest : List Oper} {o : Oper} {a : Act} {Q : Exit → Act → World → Prop} (hgd : o.guard = none) (s x : Operand)
    (hop : o.op = .call { callee := .builtin .append, args := #[s, x], argTypes := #[29, 29] }) (base : Nat) (v : Value) (l : List Int) (y : Int) (hs : a.eval s = v) (hq : QAt w base v l) (hl : l.length ≤ 1000)
    (b : Nat) (hx : a.eval x = .slice (some ⟨b, 0, none⟩) 1 1) (hb : w.cell? ⟨b, 0, none⟩ = some (.int .u64 y)) (hbase : base ≤ w.heap.size)
    (hK : ∀ v' w', QAt w' base v' (l ++ [y]) → Below base w w' → Kept (ownU w) w w' → wpList Try.prog ops Q rest (a.put o.dst v') w') : wpList Try.prog ops Q (o :: rest) a w := by
  obtain ⟨i0, hi0, hz0, hz1, hz2⟩ := info_parts uinfo
  obtain ⟨A, cap, rfl, hlc, hnone, hsome⟩ := hq
  have hnews : ∀ j u, ([Value.int .u64 y] : List Value)[j]? = some u → w.cell? ((⟨b, 0, none⟩ : Addr).add j) = some u := by
    intro j u hj
    match j, hj with
    | 0, hj => simp at hj; subst hj; simpa [Addr.add] using hb
  have hgrow : ∀ v' w', w'.ownsRow w.heap.size 33 1 v' (l.length + 1) (l.map (Value.int .u64) ++ [.int .u64 y]) → w.grownBy w' none → wpList Try.prog ops Q rest (a.put o.dst v') w' := by
    intro v' w' ho hg
    have hbw : Below w.heap.size w w' := (Below.refl _ _).grown hg (Nat.le_refl _) fun k e => by cases e
    have hq' : QAt w' w.heap.size v' (l ++ [y]) := QAt.of_own (by rw [List.length_append, List.map_append]; exact ho)
    refine hK v' w' ?_ (hbw.mono hbase) (Kept.of_below hbw)
    obtain ⟨A', c', e1, e2, e3, e4⟩ := hq'
    refine ⟨A', c', e1, e2, e3, fun ad h => ?_⟩
    obtain ⟨g, o', cs, f1, f2, f3⟩ := e4 ad h
    exact ⟨g, o', cs, f1, by omega, f3⟩
  cases A with
  | none =>
    have hc := hnone rfl
    subst hc
    have hl0 : l.length = 0 := by omega
    exact wpList_append_grows w hgd s x 29 hop 33 i0 (.int .u64 0) 1 8 Try.underlying29 hi0 hz0 hz1 hz2 rfl (by decide) none l.length 0 (l.map (Value.int .u64)) hs (fun _ => ⟨hl0, rfl⟩) (by simp) (fun _ h => by cases h)
      ⟨b, 0, none⟩ 1 1 [.int .u64 y] hx rfl hnews (by intro u hu; simp at hu; subst hu; rfl) (by omega) (by unfold maxLen; omega) (by omega) hgrow
  | some ad =>
    obtain ⟨g, o', cs, rfl, hgb, hB, hoc, hcs⟩ := hsome ad rfl
    refine wpList_append_arg w hgd s x 29 hop 33 i0 (.int .u64 0) 1 8 Try.underlying29 hi0 hz0 hz1 hz2 rfl (by decide) g o' l.length cap (l.map (Value.int .u64)) hs (by simp) ?_
      ⟨b, 0, none⟩ 1 1 [.int .u64 y] hx rfl hnews (by intro u hu; simp at hu; subst hu; rfl) ?_ (by unfold maxLen; omega) (by omega) ?_ (fun _ => hgrow)
    · intro j u hj
      rw [List.getElem?_map] at hj
      obtain ⟨z, hz, rfl⟩ := Option.map_eq_some_iff.1 hj
      have hjl : j < l.length := by
        rcases Nat.lt_or_ge j l.length with c | c
        · exact c
        · rw [List.getElem?_eq_none c] at hz; cases hz
      rw [List.getElem?_eq_getElem hjl] at hz
      have := hB.val (hcs j hjl)
      rw [Option.some.inj hz] at this
      exact this
    · intro hr j hj
      have : j = 0 := by simpa using hj
      subst this
      refine ⟨?_, hB.free _⟩
      rw [hB.val (Array.getElem?_eq_getElem (show o' + l.length * 1 + 0 < cs.size by omega))]; rfl
    · intro hr
      have hset : w.setCells g (o' + l.length * 1) [.int .u64 y] = w.setCell ⟨g, o' + l.length, none⟩ (.int .u64 y) := by simp [World.setCells]
      rw [hset]
      refine hK _ _ ⟨some ⟨g, o', none⟩, cap, by simp, by simp; omega, (fun e => by cases e), fun ad e => ?_⟩ ((Below.refl _ _).setCell (p := ⟨g, o' + l.length, none⟩) hgb _) (Kept.set_ (own := ownU w) (Kept.refl _ _) (.inl ⟨cs, hB⟩) _)
      cases e
      refine ⟨g, o', _, rfl, hgb, hB.set_ (o' + l.length) (.int .u64 y), by simpa using hoc, fun k hk => ?_⟩
      simp only [List.length_append, List.length_cons, List.length_nil] at hk
      by_cases e : k < l.length
      · rw [get_set_far (by omega), List.getElem_append_left e]; exact hcs k e
      · obtain rfl : k = l.length := by omega
        rw [get_set_same (by omega), List.getElem_append_right (Nat.le_refl _)]; simp
/-- The first one goes. -/
theorem QAt.tail {w : World} {base : Nat} {x : Int} {l : List Int} {A : Option Addr} {cap : Nat} (h : QAt w base (.slice A (l.length + 1) cap) (x :: l)) : ∃ g o, A = some ⟨g, o, none⟩ ∧ 1 ≤ cap ∧ w.cell? ⟨g, o, none⟩ = some (.int .u64 x) ∧ QAt w base (.slice (if cap = 1 then some ⟨g, o, none⟩ else some ⟨g, o + 1, none⟩) l.length (cap - 1)) l := by
  obtain ⟨A', cap', e, h1, h2, h3⟩ := h
  simp only [List.length_cons, Value.slice.injEq] at e
  obtain ⟨rfl, -, rfl⟩ := e
  simp only [List.length_cons] at h1
  cases A with
  | none => exact absurd (h2 rfl) (by omega)
  | some ad =>
    obtain ⟨g, o, cs, rfl, hg, hB, hoc, hcs⟩ := h3 ad rfl
    have h0 := hcs 0 (by simp)
    refine ⟨g, o, rfl, by omega, hB.val (by simpa using h0), ?_⟩
    by_cases c : cap = 1
    · rw [if_pos c]
      exact ⟨_, _, rfl, by omega, (fun e => by cases e), fun ad e => by cases e; exact ⟨g, o, cs, rfl, hg, hB, by omega, fun k hk => by omega⟩⟩
    · rw [if_neg c]
      refine ⟨_, _, rfl, by omega, (fun e => by cases e), fun ad e => ?_⟩
      cases e
      refine ⟨g, o + 1, cs, rfl, hg, hB, by omega, fun k hk => ?_⟩
      have := hcs (k + 1) (by simp; omega)
      rw [show o + 1 + k = o + (k + 1) by omega]
      simpa using this
end Go.Proofs.Ytbenpnecjmpcbaa
