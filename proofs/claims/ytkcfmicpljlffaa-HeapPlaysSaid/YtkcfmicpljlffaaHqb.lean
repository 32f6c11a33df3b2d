/- The program's heap beside the document's: the same calls of both. -/
import Derived.Test.YtkcfmicpljlffaaHqa
namespace Go.Proofs.Ytkcfmicpljlffaa
open Go.ChangeShapes Go.WideShapes Go.RowKit Go.Deep
set_option linter.unusedVariables false
set_option linter.unusedSimpArgs false
/-- A call: what is done, the member, the key, the tie. -/
structure Ha where
  d : Int
  i : Int
  k : Int
  t : Int
def haRow (q : Ha) : List Value := [.int .u8 q.d, .int .i64 q.i, .int .i64 q.k, .int .u64 q.t]
def Ha.ok (q : Ha) : Prop := (0 ≤ q.d ∧ q.d ≤ 255) ∧ (-9223372036854775808 ≤ q.i ∧ q.i ≤ 9223372036854775807) ∧ (-9223372036854775808 ≤ q.k ∧ q.k ≤ 9223372036854775807) ∧ (0 ≤ q.t ∧ q.t ≤ 18446744073709551615)
section
variable {H : Type} {enc : TypeId × Value → H} {w : World}
theorem cut1_ {cs : List Value} {o : Nat} {v : Value} (h : (cs.drop o).take 1 = [v]) : cs[o]? = some v := by
  have := congrArg (·[0]?) h
  simpa using this
theorem ha_row_ {P : Program} {t : TypeId} {f0 f1 f2 f3 : Field} {spare : Nat → Bool} {held : Bool} {fuel : Nat} {cs : List Value} {x : DataW H × List MemPlace} (hs : P.underlying t = some (.struct #[f0, f1, f2, f3])) (hone : oneCellFields P #[f0, f1, f2, f3] = true)
    (hu : P.underlying f0.type = some (.int .u8)) (hi : P.underlying f1.type = some (.int .i64)) (hi' : P.underlying f2.type = some (.int .i64)) (hi2 : P.underlying f3.type = some (.int .u64)) (h : DataW.trod enc P w 0 spare held fuel t cs = some x) :
    ∃ q : Ha, q.ok ∧ ∀ k, k < 4 → cs[k]? = (haRow q)[k]? := by
  obtain ⟨xs, n, _, rfl, hl, hlen, hf⟩ := DataW.trod_struct hs h
  match xs, hlen with
  | [y0, y1, y2, y3], _ =>
    obtain ⟨o0, k0⟩ := hone_of hone 0 f0 rfl
    obtain ⟨a, ea, -, wa⟩ := DataW.trod_int hu (hf 0 _ rfl)
    rw [o0, k0] at ea
    obtain ⟨o1, k1⟩ := hone_of hone 1 f1 rfl
    obtain ⟨b, eb, -, wb⟩ := DataW.trod_int hi (hf 1 _ rfl)
    rw [o1, k1] at eb
    obtain ⟨o2, k2⟩ := hone_of hone 2 f2 rfl
    obtain ⟨c, ec, -, wc⟩ := DataW.trod_int hi' (hf 2 _ rfl)
    rw [o2, k2] at ec
    obtain ⟨o3, k3⟩ := hone_of hone 3 f3 rfl
    obtain ⟨d, ed, -, wd⟩ := DataW.trod_int hi2 (hf 3 _ rfl)
    rw [o3, k3] at ed
    refine ⟨⟨a, b, c, d⟩, ⟨wf_u8 wa, wf_i64 wb, wf_i64 wc, wf_u64 wd⟩, fun k hk => ?_⟩
    match k, hk with
    | 0, _ => exact cut1_ ea
    | 1, _ => exact cut1_ eb
    | 2, _ => exact cut1_ ec
    | 3, _ => exact cut1_ ed
theorem ha_row {spare : Nat → Bool} {held : Bool} {fuel : Nat} {cs : List Value} {x : DataW H × List MemPlace} (h : DataW.trod enc Try.prog w 0 spare held fuel 34 cs = some x) :
    ∃ q : Ha, q.ok ∧ ∀ k, k < 4 → cs[k]? = (haRow q)[k]? := by
  exact ha_row_ Try.underlying34 (by kernel_rfl) Try.underlying5 Try.underlying3 Try.underlying2 Try.underlying32 h
theorem ha_cells : Try.prog.cellsOf 34 = 4 := by kernel_rfl
theorem open_has {fuel : Nat} {A : Option Addr} {len cap : Nat} {x : DataW H × List MemPlace} (h : DataW.trod enc Try.prog w 0 (fun _ => true) true fuel 22 [.slice A len cap] = some x) :
    len ≤ cap ∧ cap ≤ maxLen ∧ ∃ Q : Nat → Ha, SeqAt w w.heap.size A len 4 (fun i => haRow (Q i)) ∧ ∀ i, i < len → (Q i).ok := by
  obtain ⟨h1, h2, row, hs, hr⟩ := open_seq Try.underlying22 ha_cells (by omega) h
  have hq : ∀ i, ∃ q : Ha, i < len → q.ok ∧ ∀ k, k < 4 → (row i)[k]? = (haRow q)[k]? := by
    intro i
    by_cases hi : i < len
    · obtain ⟨_, n, y, hy⟩ := hr i hi
      obtain ⟨q, hq⟩ := ha_row hy
      exact ⟨q, fun _ => hq⟩
    · exact ⟨⟨0, 0, 0, 0⟩, fun h => absurd h hi⟩
  refine ⟨h1, h2, fun i => (hq i).choose, fun h0 => ?_, fun i hi => ((hq i).choose_spec hi).1⟩
  obtain ⟨b, off, e, hb, hc⟩ := hs h0
  exact ⟨b, off, e, hb, fun i hi k hk => (hc i hi k hk).trans (((hq i).choose_spec hi).2 k hk)⟩
end

open Classical in
noncomputable def putR (n : Nat) (L : List En) (i : Int) : Int := if i < 0 ∨ (n : Int) ≤ i then 1 else if hasE i L = true then 10 else 0
open Classical in
noncomputable def putL (n : Nat) (L : List En) (i k t : Int) : List En := if putR n L i = 0 then insE ⟨k, t, i⟩ L else L
open Classical in
noncomputable def remR (n : Nat) (L : List En) (i : Int) : Int := if i < 0 ∨ (n : Int) ≤ i then 1 else if hasE i L = true then 0 else 3
open Classical in
noncomputable def remL (n : Nat) (L : List En) (i : Int) : List En := if remR n L i = 0 then remE i L else L
/-- Both heaps, and an act's box. -/
structure Hd (v w : World) (p x n ga : Nat) (Lh Ld : List En) (q : Ha) : Prop where
  h : HeapL v.heap.size w p n Lh
  d : DocL v.heap.size w x n Ld
  b : Below v.heap.size v w
  a : Blk w ga 34 #[.int .u8 q.d, .int .i64 q.i, .int .i64 q.k, .int .u64 q.t]
  hx : v.heap.size ≤ x
  hd : Ld.length ≤ 1000
  dd : Ld.Pairwise fun a b => a.m ≠ b.m
section
variable {v w w' : World} {p x n ga : Nat} {Lh Ld : List En} {q : Ha}
theorem okH_a : okH 34 := ⟨by decide, by decide, by decide⟩
theorem Hd.below (h : Hd v w p x n ga Lh Ld q) (hb : Below w.heap.size w w') : Hd v w' p x n ga Lh Ld q :=
  ⟨h.h.below hb, h.d.below hb, h.b.trans (hb.mono h.b.size), h.a.below_ hb h.a.size, h.hx, h.hd, h.dd⟩
theorem Hd.drew (h : Hd v w p x n ga Lh Ld q) : Hd v w.drew p x n ga Lh Ld q := h.below (Below.refl _ _).drew
theorem Hd.drewN (h : Hd v w p x n ga Lh Ld q) (k : Nat) : Hd v (w.drewN k) p x n ga Lh Ld q := h.below (below_drewN_ (Below.refl _ _) _)
theorem Hd.ofT {L' : List En} (h : Hd v w p x n ga Lh Ld q) (h' : HeapL v.heap.size w' p n L') (hb : Below v.heap.size w w') (ht : TKept okH w w') : Hd v w' p x n ga L' Ld q :=
  ⟨h', h.d.tkept ht okH_x okH_e, h.b.trans hb, ht.blk _ _ _ h.a okH_a, h.hx, h.hd, h.dd⟩
theorem Hd.ofK {L' : List En} (h : Hd v w p x n ga Lh Ld q) (h' : DocL v.heap.size w' x n L') (hl : L'.length ≤ 1000) (hd : L'.Pairwise fun a b => a.m ≠ b.m) (hk : Kept (fun g => g = x) w w') : Hd v w' p x n ga Lh L' q := by
  obtain ⟨vx, bx, _⟩ := h.d.ex
  exact ⟨h.h.keptx bx okH_x hk, h', h.b.trans (hk.below (fun g hg => by rw [hg]; exact h.hx) h.b.size), h.a.kept hk (h.a.other bx (by decide)), h.hx, hl, hd⟩
theorem distinct_ins {e : En} {L : List En} (h : L.Pairwise fun a b => a.m ≠ b.m) (hm : ∀ a ∈ L, a.m ≠ e.m) : (insE e L).Pairwise fun a b => a.m ≠ b.m := by
  induction L with
  | nil => simp [insE]
  | cons a l ih =>
    rw [List.pairwise_cons] at h
    unfold insE
    split
    · refine List.Pairwise.cons (fun x hx => ?_) (List.Pairwise.cons h.1 h.2)
      exact Ne.symm (hm x hx)
    · refine List.Pairwise.cons (fun x hx => ?_) (ih h.2 fun b hb => hm b (List.mem_cons_of_mem _ hb))
      rcases mem_ins.1 hx with rfl | hx
      · exact hm a (List.mem_cons_self ..)
      · exact h.1 x hx
theorem int_nat {i : Int} (h : ¬ (i < 0 ∨ (n : Int) ≤ i)) : ∃ j : Nat, i = (j : Int) ∧ j < n := ⟨i.toNat, by omega, by omega⟩
theorem hd_put (i k t : Int) (w : World) (h : Hd v w p x n ga Lh Ld q) : Calls Try.prog 16 #[.pointer (some ⟨p, 0, none⟩), .int .i64 i, .int .i64 k, .int .u64 t] w fun e w' => e = .returned (.int .i64 (putR n Lh i)) ∧ Hd v w' p x n ga (putL n Lh i k t) Ld q := by
  by_cases h1 : i < 0 ∨ (n : Int) ≤ i
  · have e1 : putR n Lh i = 1 := by unfold putR; rw [if_pos h1]
    have e2 : putL n Lh i k t = Lh := by unfold putL; rw [e1, if_neg (by decide)]
    rw [e1, e2]
    refine (lput_out i k t h1 w h.h).mono ?_
    rintro e w' ⟨rfl, rfl⟩
    exact ⟨rfl, h⟩
  · obtain ⟨j, rfl, hj⟩ := int_nat h1
    cases hh : hasE (j : Int) Lh
    · have e1 : putR n Lh (j : Int) = 0 := by unfold putR; rw [if_neg h1, hh, if_neg (by decide)]
      have e2 : putL n Lh (j : Int) k t = insE ⟨k, t, j⟩ Lh := by unfold putL; rw [if_pos e1]
      rw [e1, e2]
      refine (lput_new2 k t hj hh w h.h).mono ?_
      rintro e w' ⟨rfl, h2, hb, ht⟩
      exact ⟨rfl, h.ofT h2 hb ht⟩
    · have e1 : putR n Lh (j : Int) = 10 := by unfold putR; rw [if_neg h1, hh, if_pos rfl]
      have e2 : putL n Lh (j : Int) k t = Lh := by unfold putL; rw [e1, if_neg (by decide)]
      rw [e1, e2]
      refine (lput_busy k t hj hh w h.h).mono ?_
      rintro e w' ⟨rfl, rfl⟩
      exact ⟨rfl, h⟩
theorem hd_rput (e : En) (w : World) (h : Hd v w p x n ga Lh Ld q) (hl : Ld.length + 1 ≤ 1000) : Calls Try.prog 17 #[.pointer (some ⟨x, 0, none⟩), e.r] w fun e' w' => e' = .returned (.int .i64 (putR n Ld e.m)) ∧ Hd v w' p x n ga Lh (putL n Ld e.m e.k e.t) q := by
  have hl2 := h.hd
  by_cases h1 : e.m < 0 ∨ (n : Int) ≤ e.m
  · have e1 : putR n Ld e.m = 1 := by unfold putR; rw [if_pos h1]
    have e2 : putL n Ld e.m e.k e.t = Ld := by unfold putL; rw [e1, if_neg (by decide)]
    rw [e1, e2]
    refine (rput_out e h1 w h.d).mono ?_
    rintro e w' ⟨rfl, hb⟩
    exact ⟨rfl, h.below hb⟩
  · obtain ⟨j, hej, hj⟩ := int_nat h1
    rw [hej]
    cases hh : hasE (j : Int) Ld
    · have e1 : putR n Ld (j : Int) = 0 := by unfold putR; rw [if_neg (by rw [← hej]; exact h1), hh, if_neg (by decide)]
      have e2 : putL n Ld (j : Int) e.k e.t = insE e Ld := by unfold putL; rw [if_pos e1, ← hej]
      rw [e1, e2]
      refine (rput_new e hej hj w h.d h.b.size (by omega) hh).mono ?_
      rintro e' w' ⟨rfl, h2, hk⟩
      refine ⟨rfl, h.ofK h2 (by rw [len_ins]; omega) ?_ hk⟩
      have hno := hasE_no.1 hh
      rw [← hej] at hno
      exact distinct_ins h.dd hno
    · have e1 : putR n Ld (j : Int) = 10 := by unfold putR; rw [if_neg (by rw [← hej]; exact h1), hh, if_pos rfl]
      have e2 : putL n Ld (j : Int) e.k e.t = Ld := by unfold putL; rw [e1, if_neg (by decide)]
      rw [e1, e2]
      refine (rput_find e hej hj w h.d (by omega) hh).mono ?_
      rintro e' w' ⟨rfl, hb⟩
      exact ⟨rfl, h.below hb⟩
theorem hd_rem (i : Int) (w : World) (h : Hd v w p x n ga Lh Ld q) : Calls Try.prog 10 #[.pointer (some ⟨p, 0, none⟩), .int .i64 i] w fun e w' => e = .returned (.int .i64 (remR n Lh i)) ∧ Hd v w' p x n ga (remL n Lh i) Ld q := by
  by_cases h1 : i < 0 ∨ (n : Int) ≤ i
  · have e1 : remR n Lh i = 1 := by unfold remR; rw [if_pos h1]
    have e2 : remL n Lh i = Lh := by unfold remL; rw [e1, if_neg (by decide)]
    rw [e1, e2]
    refine (lrem_out i h1 w h.h).mono ?_
    rintro e w' ⟨rfl, rfl⟩
    exact ⟨rfl, h⟩
  · obtain ⟨j, rfl, hj⟩ := int_nat h1
    cases hh : hasE (j : Int) Lh
    · have e1 : remR n Lh (j : Int) = 3 := by unfold remR; rw [if_neg h1, hh, if_neg (by decide)]
      have e2 : remL n Lh (j : Int) = Lh := by unfold remL; rw [e1, if_neg (by decide)]
      rw [e1, e2]
      refine (lrem_none hj hh w h.h).mono ?_
      rintro e w' ⟨rfl, hb⟩
      exact ⟨rfl, h.below hb⟩
    · have e1 : remR n Lh (j : Int) = 0 := by unfold remR; rw [if_neg h1, hh, if_pos rfl]
      have e2 : remL n Lh (j : Int) = remE j Lh := by unfold remL; rw [if_pos e1]
      rw [e1, e2]
      refine (lrem_yes2 hj hh w h.h).mono ?_
      rintro e w' ⟨rfl, h2, hb, ht⟩
      exact ⟨rfl, h.ofT h2 hb ht⟩
theorem hd_rrem (i : Int) (w : World) (h : Hd v w p x n ga Lh Ld q) : Calls Try.prog 11 #[.pointer (some ⟨x, 0, none⟩), .int .i64 i] w fun e w' => e = .returned (.int .i64 (remR n Ld i)) ∧ Hd v w' p x n ga Lh (remL n Ld i) q := by
  have hl2 := h.hd
  by_cases h1 : i < 0 ∨ (n : Int) ≤ i
  · have e1 : remR n Ld i = 1 := by unfold remR; rw [if_pos h1]
    have e2 : remL n Ld i = Ld := by unfold remL; rw [e1, if_neg (by decide)]
    rw [e1, e2]
    refine (rrem_out i h1 w h.d).mono ?_
    rintro e w' ⟨rfl, rfl⟩
    exact ⟨rfl, h⟩
  · obtain ⟨j, rfl, hj⟩ := int_nat h1
    cases hh : hasE (j : Int) Ld
    · have e1 : remR n Ld (j : Int) = 3 := by unfold remR; rw [if_neg h1, hh, if_neg (by decide)]
      have e2 : remL n Ld (j : Int) = Ld := by unfold remL; rw [e1, if_neg (by decide)]
      rw [e1, e2]
      refine (rrem_none hj w h.d (by omega) hh).mono ?_
      rintro e w' ⟨rfl, rfl⟩
      exact ⟨rfl, h⟩
    · have e1 : remR n Ld (j : Int) = 0 := by unfold remR; rw [if_neg h1, hh, if_pos rfl]
      have e2 : remL n Ld (j : Int) = remE j Ld := by unfold remL; rw [if_pos e1]
      rw [e1, e2]
      refine (rrem_yes hj w h.d h.b.size (by omega) hh h.dd).mono ?_
      rintro e w' ⟨rfl, h2, hk⟩
      exact ⟨rfl, h.ofK h2 (Nat.le_trans (List.length_filter_le _ _) hl2) (h.dd.sublist (List.filter_sublist)) hk⟩
end
end Go.Proofs.Ytkcfmicpljlffaa
