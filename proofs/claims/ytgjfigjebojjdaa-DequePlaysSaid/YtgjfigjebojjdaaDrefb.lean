/- What the document's calls on rows answer, and what they leave. -/
import Derived.Test.YtgjfigjebojjdaaDref
import Derived.Deep.QuietTactic
import Derived.BigQuiet
import Derived.Deep.RegionLaw
namespace Go.Proofs.Ytgjfigjebojjdaa
open Go.RowKit Go.Shelf
set_option linter.unusedVariables false
/-- Two lists of the same members are one. -/
theorem equal_same {base base' : Nat} {A B : Option Addr} {k c c' : Nat} {l : List Nat} (w : World) (ha : w.ownsRow base 3 1 (.slice A k c) k (ints l)) (hb : w.ownsRow base' 3 1 (.slice B k c') k (ints l)) (hk : k ≤ 1000000) :
    Calls Try.prog 62 #[.slice A k c, .slice B k c'] w fun e w' => e = .returned (.bool true) ∧ ∃ n, w' = w.drewN n := by
  have HA := Lib.hid ha
  have HB := Lib.hid hb
  clear ha hb
  go_enter Try.func62, Try.ntmps62
  go_wp2
  go_loopw [13] (fun s wr => ∃ j n : Nat, j ≤ k ∧ s = .int .i64 j ∧ wr = w.drewN n) (fun s _ => k - (intOf s).toNat)
  case atStart => exact ⟨0, 0, Nat.zero_le _, rfl, rfl⟩
  case round =>
    obtain ⟨j, n, hj, rfl, rfl⟩ := hrel
    by_cases hlt : j < k
    · obtain ⟨g, rfl, _, _, x, hx, hc⟩ := ints_at HA.out hlt
      obtain ⟨g', rfl, _, _, y, hy, hc'⟩ := ints_at HB.out hlt
      obtain rfl : y = x := by rw [hx] at hy; exact (Option.some.inj hy).symm
      clear hx hy
      have hj0 : (0 : Int) ≤ (j : Int) := by omega
      have hj1 : (j : Int) < (k : Int) := by omega
      go_wp2_with fail
      go_quiet (fail)
      go_wp2
      go_roundw
      case rel => exact ⟨j + 1, _, by omega, by go_num, rfl⟩
      case measure => simp [intOf]; omega
    · go_wp2
      go_ret
      exact ⟨rfl, n, rfl⟩
section
variable {base q g N cap M : Nat} {L : Nat → List Nat} {v : Nat → Value}
set_option maxRecDepth 100000 in
set_option maxHeartbeats 4000000 in
theorem rpush_any (r i : Int) (w : World) (h : RefAt w base q g N cap M L v) (hL : Lists N M L) (hM : M ≤ 1024) (hbw : base ≤ w.heap.size) :
    Calls Try.prog 36 #[.pointer (some ⟨q, 0, none⟩), .int .i64 r, .int .i64 i] w fun e w' => e = .returned (.int .i64 (pushE N M L r i)) ∧ ∃ v', RefAt w' base q g N cap M (pushQ N M L r i) v' ∧ Below base w w' ∧ Kept (ownD w) w w' := by
  have q0 := h.h0
  have q1 := h.h1
  have n8 := h.n8
  have nc := h.nc
  by_cases hr : r < 0 ∨ (N : Int) ≤ r
  · have hE : pushE N M L r i = 1 := by unfold pushE; rw [if_pos hr]
    have hQ : pushQ N M L r i = L := by unfold pushQ; rw [hE, if_neg (by decide)]
    rw [hE, hQ]
    have H0 := Lib.hid h
    clear h hE hQ
    rcases hr with hr | hr
    · go_enter Try.func36, Try.ntmps36
      go_wp2
      go_ret
      exact ⟨rfl, v, H0.out, Below.refl _ _, Kept.refl _ _⟩
    · have hr0 : 0 ≤ r := by omega
      go_enter Try.func36, Try.ntmps36
      go_wp2
      go_ret
      exact ⟨rfl, v, H0.out, Below.refl _ _, Kept.refl _ _⟩
  obtain ⟨rn, rfl⟩ : ∃ k : Nat, r = (k : Int) := ⟨r.toNat, by omega⟩
  have hrN : rn < N := by omega
  by_cases hi : i < 0 ∨ (M : Int) ≤ i
  · have hE : pushE N M L rn i = 1 := by unfold pushE; rw [if_neg hr, if_pos hi]
    have hQ : pushQ N M L rn i = L := by unfold pushQ; rw [hE, if_neg (by decide)]
    rw [hE, hQ]
    have H0 := Lib.hid h
    clear h hE hQ hr
    rcases hi with hi | hi
    · go_enter Try.func36, Try.ntmps36
      go_wp2
      go_ret
      exact ⟨rfl, v, H0.out, Below.refl _ _, Kept.refl _ _⟩
    · have hi0 : 0 ≤ i := by omega
      go_enter Try.func36, Try.ntmps36
      go_wp2
      go_ret
      exact ⟨rfl, v, H0.out, Below.refl _ _, Kept.refl _ _⟩
  obtain ⟨k, rfl⟩ : ∃ k : Nat, i = (k : Int) := ⟨i.toNat, by omega⟩
  have hkM : k < M := by omega
  by_cases hb : inB N L k = true
  · have hE : pushE N M L rn k = 10 := by unfold pushE; rw [if_neg hr, if_neg hi, Int.toNat_natCast, if_pos hb]
    have hQ : pushQ N M L rn k = L := by unfold pushQ; rw [hE, if_neg (by decide)]
    rw [hE, hQ]
    obtain ⟨r', hr', hx⟩ := inB_iff.1 hb
    have hW : whE N M L (k : Int) = (r' : Int) := by unfold whE; rw [if_neg hi, Int.toNat_natCast]; exact hL.whF hr' hx
    have HW := Lib.hid hW
    have HL := Lib.hid hL
    have H0 := Lib.hid h
    clear h hE hQ hr hi hb hx hW hL
    go_enter Try.func36, Try.ntmps36
    go_wp2_with (go_at_call 41; refine (rwhere_any _ _ H0.out HL.out hM).mono ?_; rintro e w1 ⟨rfl, rfl⟩; rw [HW.out])
    go_ret
    exact ⟨rfl, v, H0.out, Below.refl _ _, Kept.refl _ _⟩
  · have hE : pushE N M L rn k = 0 := by unfold pushE; rw [if_neg hr, if_neg hi, Int.toNat_natCast, if_neg hb]
    have hQ : pushQ N M L rn k = pushL L rn k := by unfold pushQ; rw [hE, if_pos rfl]; simp
    rw [hE, hQ]
    have hb' : inB N L k = false := by simpa using hb
    have hW : whE N M L (k : Int) = -1 := by unfold whE; rw [if_neg hi, Int.toNat_natCast]; exact whF_none N fun r hr => inB_not hb' hr
    have hlen := hL.len hrN
    have HW := Lib.hid hW
    have HL := Lib.hid hL
    have H0 := Lib.hid h
    obtain ⟨A, c, hv⟩ := h.form hrN
    have c1 := h.row hrN
    have zg := h.zg rn
    have ho := h.own rn hrN
    have hqg : g ≠ q := by obtain ⟨cs, b, _, _⟩ := h.rows; exact b.other h.head (by decide)
    have hlq := h.lq
    have hlg := h.lg
    have hne1 : (v rn).ownBlock ≠ some q := fun e => by
      rcases ho.2 with ⟨e1, _⟩ | ⟨g', cap', cur, e1, _, hh, _⟩
      · rw [e1] at e; cases e
      · rw [e1] at e
        have : g' = q := by simpa [Value.ownBlock] using e
        subst this
        exact Blk.other (t := 3) (cs := cur) hh h.head (by decide) rfl
    have hne2 : (v rn).ownBlock ≠ some g := fun e => by
      obtain ⟨cs, b, _, _⟩ := h.rows
      rcases ho.2 with ⟨e1, _⟩ | ⟨g', cap', cur, e1, _, hh, _⟩
      · rw [e1] at e; cases e
      · rw [e1] at e
        have : g' = g := by simpa [Value.ownBlock] using e
        subst this
        exact Blk.other (t := 3) (cs := cur) hh b (by decide) rfl
    rw [hv] at c1 ho hne1 hne2
    have HV := Lib.hid hv
    have HO := Lib.hid ho
    have HNE1 := Lib.hid hne1
    have HNE2 := Lib.hid hne2
    obtain ⟨i0, hi0, hz0, hz1, hz2⟩ := info_parts iinfoc
    have hr0 : (0 : Int) ≤ (rn : Int) := by omega
    have hr1 : (rn : Int) < (N : Int) := by omega
    clear h hE hQ hr hi hb hb' hW hL hv ho hne1 hne2
    go_enter Try.func36, Try.ntmps36
    go_wp2_with (go_at_call 41; refine (rwhere_any _ _ H0.out HL.out hM).mono ?_; rintro e w1 ⟨rfl, rfl⟩; rw [HW.out])
    go_region_law
      ((refine step_append_lies _ (by rfl) _ _ _ (by rfl) base 3 i0 _ 1 8 Try.underlying59 hi0 hz0 hz1 hz2 rfl (by omega) (.slice A (L rn).length c) (L rn).length (ints (L rn)) (by rfl) ((HO.out.alloc _).drew)
          ⟨w.heap.size, 0, none⟩ 1 1 [.int .i64 (k : Int)] (by rfl) (by rfl) (World.news_of_block (cs := #[.int .i64 (k : Int)]) (t := 3) (fr := (0, 0)) (heap_alloc_new w _)) (by simp [Value.oneCell'])
          (by omega) (by unfold maxLen; omega) (by omega) (by simp; omega) (w.heap.size + 1) (by simp) ?_; intro gg cap1 w1 hown1 hgrow hat hlt; have zg1 : w1.frozen? ⟨g, rn, none⟩ = false := (hgrow.frozen_far _ (by simp; omega) (Ne.symm HNE2.out)).trans ((H0.out.alloc_ _).drew_.zg rn); have cg1 := (hgrow.cell_far ⟨g, rn, none⟩ (by simp; omega) (Ne.symm HNE2.out)).trans ((H0.out.alloc_ _).drew_.row hrN); have cq1 := (hgrow.cell_far ⟨q, 0, none⟩ (by simp; omega) (Ne.symm HNE1.out)).trans ((H0.out.alloc_ _).drew_.h0)))
    all_goals
      go_wp2
      go_ret
      have hgr : (w.alloc (.cells #[.int .i64 (k : Int)] 3)).grownBy w1 (v rn).ownBlock := by rw [HV.out]; exact ⟨hgrow.os, hgrow.tape, hgrow.output, hgrow.size, hgrow.block⟩
      refine ⟨rfl, _, RefAt.put (H0.out.alloc_ (.cells #[.int .i64 (k : Int)] 3)) hrN (L' := pushL L rn k) (l := L rn ++ [k]) hgr (by rw [List.length_append, ints_snoc]; exact hown1) (fun k' e => ?_) (fun j hj => rfl), ?_, ?_⟩
      · have e' : gg = k' := by simpa [Value.ownBlock] using e
        subst e'
        rw [HV.out]
        rcases hat with c | c
        · exact .inl c
        · exact .inr (by simp; omega)
      · exact (((Below.refl base w).alloc hbw _).grown hgr (by simp; omega) (fun k' e => by rw [HV.out] at e; exact (HO.out.lt k' e).1)).setCell (p := ⟨g, rn, none⟩) H0.out.gb _
      · exact (((Kept.refl (ownD w) w).alloc_ _).grown hgr (fun k' e => .inl (ownD_row HO.out (by rw [HV.out] at e; exact e)))).set_ (.inl H0.out.ownG) _
end
end Go.Proofs.Ytgjfigjebojjdaa
