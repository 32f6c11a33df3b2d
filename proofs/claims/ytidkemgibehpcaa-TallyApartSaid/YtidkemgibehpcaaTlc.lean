/- Add, Since, Copy. -/
import Derived.Test.YtidkemgibehpcaaTlb
import Derived.Deep.AppendLies
import Derived.Deep.RegionLaw
namespace Go.Proofs.Ytidkemgibehpcaa
open Go.RowKit Go.ChangeShapes Go.WideShapes Go.Deep
set_option linter.unusedVariables false
set_option linter.unusedSimpArgs false
theorem Blk.kept_by {w w' : World} {g : Nat} {t : TypeId} {cs : Array Value} {row : Option Nat} (h : Blk w g t cs) (hg : w.grownBy w' row) (hr : row ≠ some g) : Blk w' g t cs :=
  (hg.block g h.size (fun e => hr e.symm)).trans h
theorem own_list {t : TypeId} {w : World} {base : Nat} {v : Value} {L : List Oc} {o : Oc} : OwO t w base v (L ++ [o]) ↔ w.ownsRow base t 6 v (L.length + 1) (flatO L ++ ocRow o) := by
  show w.ownsRow base t 6 v (L ++ [o]).length (flatO (L ++ [o])) ↔ _
  rw [flatO_append, flatO_one, List.length_append]
  exact Iff.rfl
section
variable {base p : Nat} {r : Option Nat} {w w' : World} {L : List Oc}
set_option maxHeartbeats 4000000 in
theorem tadd (o : Oc) (w : World) (h : LogAt base w p r L) (hl : L.length ≤ 1000) (hbw : base ≤ w.heap.size) : Calls Try.prog 23 #[.pointer (some ⟨p, 0, none⟩), o.v] w fun e w' => e = .returned (.tuple #[]) ∧
    ∃ r', (r' = r ∨ ∃ g, r' = some g ∧ w.heap.size ≤ g) ∧ LogAt base w' p r' (L ++ [o]) ∧ Kept (fun k => k = p ∨ r = some k) w w' := by
  have hp := h.lt
  obtain ⟨A, c, h0, -, -, ho, hb, hr⟩ := h.slice
  have z0 := hb.free 0
  have HO := Lib.hid ho
  have HB := Lib.hid hb
  have HR := Lib.hid hr
  have hrp : r ≠ some p := fun e => by
    obtain ⟨cs, hc⟩ := (h.row e).2
    exact hc.other hb (by decide) rfl
  have HRP := Lib.hid hrp
  have HNE := Lib.hid (show (Value.slice A L.length c).ownBlock ≠ some p by rw [hr]; exact hrp)
  clear h ho hb hr hrp
  obtain ⟨oa, ob, oc, od, oe, of_⟩ := o
  obtain ⟨i0, hi0, hz0, hz1, hz2⟩ := inf_of tlinfo
  have H1C := oc_one (o := ⟨oa, ob, oc, od, oe, of_⟩)
  go_enter Try.func23, Try.ntmps23
  go_wp2_with fail
  go_region_law ((refine step_append_lies _ (by rfl) _ _ _ (by rfl) base tT i0 oc0.v 6 48 Try.underlying22 hi0 hz0 hz1 hz2 rfl (by decide) (.slice A L.length c) L.length (flatO L) (by rfl) (((HO.out.alloc _).drew).alloc _) ⟨w.heap.size + 1, 0, none⟩ 1 1 [.int .u64 oa, .int .i64 ob, .int .i64 oc, .int .u8 od, .int .i64 oe, .int .i64 of_] (by rfl) (by rfl) (World.news_of_block (cs := #[.int .u64 oa, .int .i64 ob, .int .i64 oc, .int .u8 od, .int .i64 oe, .int .i64 of_]) (t := tT) (fr := (0, 0)) (Blk.new_ (by simp))) H1C (by omega) (by have := maxbig; omega) (by omega) (by simp; omega) (w.heap.size + 2) (by simp) ?_; intro gg cap1 w1 hown1 hgrow hat hlt; have zg1 : w1.frozen? ⟨p, 0, none⟩ = false := (hgrow.frozen_far _ (by simp; omega) (Ne.symm HNE.out)).trans (((HB.out.alloc_ _).drew_.alloc_ _).free 0); have cg1 := (hgrow.cell_far ⟨p, 0, none⟩ (by simp; omega) (Ne.symm HNE.out)).trans (((HB.out.alloc_ _).drew_.alloc_ _).val rfl)))
  all_goals
    go_wp2
    refine bodyPost_end (results_none rfl _ _ _) rfl ?_
    refine ⟨rfl, some gg, ?_, ⟨_, (((HB.out.alloc_ _).drew_.alloc_ _).kept_by hgrow HNE.out).set_ 0 _, ?_, rfl⟩, ?_⟩
    · rcases hat with e | e
      · exact .inl (by rw [← HR.out, e])
      · exact .inr ⟨gg, rfl, by omega⟩
    · have hh : OwO tT w1 base (.slice (some ⟨gg, 0, none⟩) (L.length + 1) cap1) (L ++ [⟨oa, ob, oc, od, oe, of_⟩]) := own_list.2 hown1
      exact OwO.kept (own := fun k => k = p) hh ((Kept.refl (fun k => k = p) w1).set_ (p := ⟨p, 0, none⟩) (.inl rfl) _) fun g e1 e2 => by
        obtain ⟨cs, hc⟩ := (OwO.own_lt hh e1).2
        exact hc.other (((HB.out.alloc_ _).drew_.alloc_ _).kept_by hgrow HNE.out) (by decide) e2
    · exact (((((Kept.refl _ w).alloc_ _).drew_).alloc_ _).grown hgrow (fun k e => .inl (.inr (by rw [← HR.out]; exact e)))).set_ (p := ⟨p, 0, none⟩) (.inl (.inl rfl)) _
theorem RdO.drop {B n : Nat} {A : Option Addr} (h : RdO w B A L) (hn : n < L.length) : ∃ b off, A = some ⟨b, off, none⟩ ∧ RdO w B (some ⟨b, off + n * 6, none⟩) (L.drop n) := by
  obtain ⟨b, off, e, hb, hc⟩ := h (by omega)
  refine ⟨b, off, e, fun _ => ⟨b, off + n * 6, rfl, hb, fun i hi k hk => ?_⟩⟩
  rw [List.length_drop] at hi
  have := hc (n + i) (by omega) k hk
  have e1 : (L.drop n)[i]! = L[n + i]! := by
    rw [getElem!_pos (L.drop n) i (by rw [List.length_drop]; exact hi), getElem!_pos L (n + i) (by omega), List.getElem_drop]
  show _ = (ocRow (L.drop n)[i]!)[k]?
  rw [e1]
  show _ = (ocRow L[n + i]!)[k]?
  rw [← this, show off + n * 6 + i * 6 + k = off + (n + i) * 6 + k from by omega]
set_option maxHeartbeats 4000000 in
theorem tsince_none (n : Int) (w : World) (h : LogAt base w p r L) (hl : L.length ≤ 1000) (hn : L.length ≤ n.toNat) : Calls Try.prog 18 #[.pointer (some ⟨p, 0, none⟩), .int .i64 n] w fun e w' => ∃ v', e = .returned v' ∧ OwO tT w' w.heap.size v' (L.drop n.toNat) ∧ Below w.heap.size w w' := by
  have hd : L.drop n.toNat = [] := List.drop_eq_nil_of_le hn
  rw [hd]
  have H := Lib.hid h
  obtain ⟨m, hm⟩ : ∃ m, L.length = m := ⟨_, rfl⟩
  have HM := Lib.hid hm
  rw [hm] at hl hn
  clear h hd hm
  by_cases hn0 : n < 0
  · obtain rfl : m = 0 := by omega
    go_enter Try.func18, Try.ntmps18
    go_wp2_with (go_at_call 11; refine (tlen _ H.out).mono ?_; rintro e w1 ⟨rfl, rfl⟩; rw [HM.out])
    go_ret
    exact ⟨_, rfl, OwO.nil_ _ _ _, Below.refl _ _⟩
  · have hn1 : ¬ n < (m : Int) := by omega
    go_enter Try.func18, Try.ntmps18
    go_wp2_with (go_at_call 11; refine (tlen _ H.out).mono ?_; rintro e w1 ⟨rfl, rfl⟩; rw [HM.out])
    go_ret
    exact ⟨_, rfl, OwO.nil_ _ _ _, Below.refl _ _⟩
set_option maxHeartbeats 4000000 in
theorem tsince_some (n : Int) (w : World) (h : LogAt base w p r L) (hl : L.length ≤ 1000) (hn : n.toNat < L.length) : Calls Try.prog 18 #[.pointer (some ⟨p, 0, none⟩), .int .i64 n] w fun e w' => ∃ v', e = .returned v' ∧ OwO tT w' w.heap.size v' (L.drop n.toNat) ∧ Below w.heap.size w w' := by
  obtain ⟨A, c, h0, hd, hA, ho, hb, hr⟩ := h.slice
  obtain ⟨g, hg, rfl⟩ : ∃ g, r = some g ∧ A = some ⟨g, 0, none⟩ := by
    rcases hA with ⟨_, h1, _⟩ | h1
    · omega
    · exact h1
  obtain ⟨b, off, e, hd2⟩ := hd.drop hn
  injection e with e
  injection e with e1 e2
  subst e1 e2
  obtain ⟨A', c', hv, -, hc⟩ := ho.rd
  injection hv with hv1 hv2 hv3
  subst hv3
  have hc1 : L.length ≤ c := by
    rcases hc with ⟨_, h1, _⟩ | ⟨g', _, _, _, _, cs, _, _, h1, _⟩
    · rw [← hv1] at h1; cases h1
    · exact h1
  have hcl := tclone (c := c - n.toNat) w hd2 (.inr ⟨_, rfl⟩) (Nat.le_refl _) (by rw [List.length_drop]; omega)
  rw [List.length_drop] at hcl
  have H := Lib.hid h
  obtain ⟨m, hm⟩ : ∃ m, L.length = m := ⟨_, rfl⟩
  have HM := Lib.hid hm
  rw [hm] at hl hn h0 hc1 hcl
  clear h hd hA ho hb hr hd2 hc hv1 hv2 hm hg
  by_cases hn0 : n < 0
  · have hm0 : ¬ (m : Int) ≤ 0 := by omega
    have hm2 : decide ((m : Int) ≤ 0) = false := decide_eq_false hm0
    obtain ⟨q, hq⟩ : ∃ q, n.toNat = q := ⟨_, rfl⟩
    have hq0 : n.toNat = 0 := by omega
    rw [hq] at hcl ⊢
    rw [hq0] at hq
    subst hq
    simp only [Nat.zero_mul, Nat.add_zero, Nat.sub_zero] at hcl
    have HC := Lib.hid hcl
    clear hcl
    go_enter Try.func18, Try.ntmps18
    go_wp2_with (first | (go_at_call 11; refine (tlen _ H.out).mono ?_; rintro e w1 ⟨rfl, rfl⟩; rw [HM.out]) | (go_at_call 28; refine HC.out.mono ?_; rintro e w1 ⟨v1, rfl, hv1, hb1⟩; obtain ⟨A1, c1, rfl, -⟩ := hv1.rd; have HV := Lib.hid hv1; have HB := Lib.hid hb1; clear hv1 hb1))
    go_ret
    exact ⟨_, rfl, HV.out, HB.out⟩
  · have hn1 : n < (m : Int) := by omega
    have hn2 : decide ((m : Int) ≤ n) = false := decide_eq_false (by omega)
    have hn3 : 0 ≤ n := by omega
    rw [Nat.zero_add] at hcl
    obtain ⟨D, hD⟩ : ∃ D, L.drop n.toNat = D := ⟨_, rfl⟩
    rw [hD] at hcl ⊢
    clear hD
    have HC := Lib.hid hcl
    clear hcl
    go_enter Try.func18, Try.ntmps18
    go_wp2_with (first | (go_at_call 11; refine (tlen _ H.out).mono ?_; rintro e w1 ⟨rfl, rfl⟩; rw [HM.out]) | (go_at_call 28; refine HC.out.mono ?_; rintro e w1 ⟨v1, rfl, hv1, hb1⟩; obtain ⟨A1, c1, rfl, -⟩ := hv1.rd; have HV := Lib.hid hv1; have HB := Lib.hid hb1; clear hv1 hb1))
    go_ret
    exact ⟨_, rfl, HV.out, HB.out⟩
theorem tsince (n : Int) (w : World) (h : LogAt base w p r L) (hl : L.length ≤ 1000) : Calls Try.prog 18 #[.pointer (some ⟨p, 0, none⟩), .int .i64 n] w fun e w' => ∃ v', e = .returned v' ∧ OwO tT w' w.heap.size v' (L.drop n.toNat) ∧ Below w.heap.size w w' := by
  by_cases hn : n.toNat < L.length
  · exact tsince_some n w h hl hn
  · exact tsince_none n w h hl (by omega)
set_option maxHeartbeats 4000000 in
theorem tcopy (w : World) (h : LogAt base w p r L) (hl : L.length ≤ 1000) : Calls Try.prog 22 #[.pointer (some ⟨p, 0, none⟩)] w fun e w' => ∃ p' r', e = .returned (.pointer (some ⟨p', 0, none⟩)) ∧ w.heap.size ≤ p' ∧ LogAt w.heap.size w' p' r' L ∧ Below w.heap.size w w' := by
  obtain ⟨A, c, h0, hd, hA, ho, hb, hr⟩ := h.slice
  have hA' : A = none ∧ L.length = 0 ∧ c = 0 ∨ ∃ ad, A = some ad := by
    rcases hA with h1 | ⟨g, _, h1⟩
    · exact .inl h1
    · exact .inr ⟨_, h1⟩
  have HA := Lib.hid hA'
  have HD := Lib.hid hd
  clear h hd hA ho hb hr hA'
  go_enter Try.func22, Try.ntmps22
  go_wp2_with (first | (go_at_call 28; refine (tclone _ HD.out HA.out (Nat.le_refl _) (by omega)).mono ?_; rintro e w1 ⟨v1, rfl, hv1, hb1⟩; obtain ⟨A1, c1, rfl, -⟩ := hv1.rd; have HV := Lib.hid hv1; have HB := Lib.hid hb1; have hz1 := hb1.size; clear hv1 hb1) | fail)
  go_ret
  exact ⟨w1.heap.size, _, rfl, hz1, ⟨_, Blk.made _ _ _, HV.out.below ((Below.refl _ _).alloc (Nat.le_refl _) _), rfl⟩, HB.out.alloc hz1 _⟩
set_option maxHeartbeats 1000000 in
theorem tcopy_nil (w : World) : Calls Try.prog 22 #[.pointer none] w fun e w' => e = .returned (.pointer none) ∧ w = w' := by
  go_enter Try.func22, Try.ntmps22
  go_wp2_with fail
  go_ret
  exact ⟨rfl, rfl⟩
set_option maxHeartbeats 1000000 in
theorem tadd_nil (o : Oc) (w : World) : Calls Try.prog 23 #[.pointer none, o.v] w fun e w' => e = .returned (.tuple #[]) ∧ Below w.heap.size w w' := by
  go_enter Try.func23, Try.ntmps23
  go_wp2_with fail
  exact bodyPost_end (results_none rfl _ _ _) rfl ⟨rfl, (Below.refl _ _).alloc (Nat.le_refl _) _⟩
set_option maxHeartbeats 1000000 in
theorem tsince_nil (n : Int) (w : World) : Calls Try.prog 18 #[.pointer none, .int .i64 n] w fun e w' => e = .returned (.slice none 0 0) ∧ w = w' := by
  by_cases hn0 : n < 0
  · go_enter Try.func18, Try.ntmps18
    go_wp2_with (go_at_call 11; refine (tlen_nil _).mono ?_; rintro e w1 ⟨rfl, rfl⟩)
    go_ret
    exact ⟨rfl, rfl⟩
  · have hn1 : 0 ≤ n := by omega
    go_enter Try.func18, Try.ntmps18
    go_wp2_with (go_at_call 11; refine (tlen_nil _).mono ?_; rintro e w1 ⟨rfl, rfl⟩)
    go_ret
    exact ⟨rfl, rfl⟩
end
end Go.Proofs.Ytidkemgibehpcaa
