/- The document's Remove, Row and New on rows. -/
import Derived.Test.YtgjfigjebojjdaaDrefb
namespace Go.Proofs.Ytgjfigjebojjdaa
open Go.RowKit Go.Shelf
set_option linter.unusedVariables false
theorem grown_of_below {w w' : World} (h : Below w.heap.size w w') (row : Option Nat) : w.grownBy w' row := ⟨h.os, h.tape, h.output, h.size, fun k hk _ => h.block k hk⟩
section
variable {base q g N cap M : Nat} {L : Nat → List Nat} {v : Nat → Value}
set_option maxRecDepth 100000 in
set_option maxHeartbeats 4000000 in
theorem rrem_any (i : Int) (w : World) (h : RefAt w base q g N cap M L v) (hL : Lists N M L) (hM : M ≤ 1024) (hbw : base ≤ w.heap.size) :
    Calls Try.prog 38 #[.pointer (some ⟨q, 0, none⟩), .int .i64 i] w fun e w' => e = .returned (.int .i64 (remE N M L i)) ∧ ∃ v', RefAt w' base q g N cap M (remQ N M L i) v' ∧ Below base w w' ∧ Kept (ownD w) w w' := by
  have q0 := h.h0
  have q1 := h.h1
  have n8 := h.n8
  have nc := h.nc
  by_cases hi : i < 0 ∨ (M : Int) ≤ i
  · have hE : remE N M L i = 1 := by unfold remE; rw [if_pos hi]
    have hQ : remQ N M L i = L := by unfold remQ; rw [hE, if_neg (by decide)]
    rw [hE, hQ]
    have H0 := Lib.hid h
    clear h hE hQ
    rcases hi with hi | hi
    · go_enter Try.func38, Try.ntmps38
      go_wp2
      go_ret
      exact ⟨rfl, v, H0.out, Below.refl _ _, Kept.refl _ _⟩
    · have hi0 : 0 ≤ i := by omega
      go_enter Try.func38, Try.ntmps38
      go_wp2
      go_ret
      exact ⟨rfl, v, H0.out, Below.refl _ _, Kept.refl _ _⟩
  obtain ⟨x, rfl⟩ : ∃ k : Nat, i = (k : Int) := ⟨i.toNat, by omega⟩
  have hxM : x < M := by omega
  by_cases hb : inB N L x = true
  · have hE : remE N M L x = 0 := by unfold remE; rw [if_neg hi, Int.toNat_natCast, if_pos hb]
    have hQ : remQ N M L x = remL N L x := by unfold remQ; rw [hE, if_pos rfl]; simp
    rw [hE, hQ]
    obtain ⟨r, hr, hx⟩ := inB_iff.1 hb
    have hW : whE N M L (x : Int) = (r : Int) := by unfold whE; rw [if_neg hi, Int.toNat_natCast]; exact hL.whF hr hx
    have hlen := hL.len hr
    have HW := Lib.hid hW
    have HL := Lib.hid hL
    have H0 := Lib.hid h
    have HX := Lib.hid hx
    obtain ⟨A, c, hv⟩ := h.form hr
    have ho := h.own r hr
    rw [hv] at ho
    have HV := Lib.hid hv
    have HO := Lib.hid ho
    have hlq := h.lq
    have hlg := h.lg
    obtain ⟨i0, hi0, hz0, hz1, hz2⟩ := info_parts iinfoc
    clear h hE hQ hi hb hx hW hL hv ho
    go_enter Try.func38, Try.ntmps38
    go_wp2_with (go_at_call 41; refine (rwhere_any _ _ H0.out HL.out hM).mono ?_; rintro e w1 ⟨rfl, rfl⟩; rw [HW.out])
    go_loopw [6, 7] (fun s6 s7 wr => ∃ k m : Nat, k ≤ (L r).length ∧ m ≤ k ∧ s7 = .int .i64 k ∧ wr.ownsRow w.heap.size 3 1 s6 m (ints (((L r).take k).filter (fun y => y != x))) ∧ Below w.heap.size w wr) (fun _ s _ => (L r).length - (intOf s).toNat)
    case atStart => exact ⟨0, 0, Nat.zero_le _, Nat.le_refl _, rfl, World.ownsRow_nil _ _ _ _, Below.refl _ _⟩
    case round =>
      obtain ⟨k, m, hk, hmk, rfl, hown, hbr⟩ := hrel
      have q0r := (hbr.cell (p := ⟨q, 0, none⟩) hlq).trans q0
      have HOW := Lib.hid hown
      obtain ⟨Al, cl, rfl⟩ := own_form hown
      have hR := H0.out.below hbr
      have c1 := hR.row hr
      rw [HV.out] at c1
      have zg := hR.zg r
      have HR := Lib.hid hR
      have hzr := hbr.size
      clear hown hR
      by_cases hkl : k < (L r).length
      · obtain ⟨gg, rfl, hgb, hgl, y, hy, hcy⟩ := ints_at HO.out hkl
        have hcy' := (hbr.cell (p := ⟨gg, k, none⟩) hgl).trans hcy
        have hyM := HL.out.lt r hr y (List.mem_of_getElem? hy)
        by_cases hyx : y = x
        · have hfl : ((L r).take (k + 1)).filter (fun z => z != x) = ((L r).take k).filter (fun z => z != x) := by
            rw [List.take_add_one, hy, List.filter_append]; simp [hyx]
          have HF := Lib.hid hfl
          subst hyx
          clear hy hfl
          go_wp2
          go_roundw
          case rel => exact ⟨k + 1, m, by omega, by omega, by go_num, by rw [HF.out]; exact HOW.out, hbr⟩
          case measure => simp [intOf]; omega
        · have hne : ((y : Int) != (x : Int)) = true := bne_iff_ne.2 (by omega)
          have hfl : ((L r).take (k + 1)).filter (fun z => z != x) = ((L r).take k).filter (fun z => z != x) ++ [y] := by
            rw [List.take_add_one, hy, List.filter_append]; simp [hyx]
          have HF := Lib.hid hfl
          clear hy hfl hyx
          go_wp2_with (at_builtin; refine wpList_append_own _ rfl (.tmp 47) (.tmp 58) 59 rfl w.heap.size 3 i0 (.int .i64 0) 1 8 Try.underlying59 hi0 hz0 hz1 hz2 rfl (by decide) _ _ _ rfl (HOW.out.alloc _) ⟨wr.heap.size, 0, none⟩ 1 1 [.int .i64 (y : Int)] rfl rfl (by intro j u hj; match j, hj with | 0, hj => simp at hj; subst hj; (try simp [Addr.add]); (try exact (Blk.new_ (by simp)).val rfl)) (by intro u hu; simp at hu; subst hu; rfl) (by unfold maxLen; omega) (by omega) (by simp; omega) ?_; intro v7 w7 hown7 hg7 _; have HO7 := Lib.hid hown7; have HG7 := Lib.hid hg7; clear hown7 hg7)
          go_roundw
          case rel => exact ⟨k + 1, m + 1, by omega, by omega, by go_num, by rw [HF.out, ints_snoc]; exact HO7.out, (hbr.alloc hbr.size _).grown HG7.out (by simp; omega) (fun g' e => own_base (HOW.out.alloc (.cells #[.int .i64 (y : Int)] 3)) e)⟩
          case measure => simp [intOf]; omega
      · obtain rfl : k = (L r).length := by omega
        have hfl : ((L r).take (L r).length).filter (fun z => z != x) = remL N L x r := by
          rw [List.take_length]; unfold remL; rw [if_pos hr]
        have HF := Lib.hid hfl
        clear hfl
        have hm : (remL N L x r).length = m := by
          have := HOW.out.1
          rw [HF.out, ints_len] at this
          omega
        have HM := Lib.hid hm
        clear hm
        go_wp2
        go_ret
        refine ⟨rfl, _, RefAt.put H0.out hr (L' := remL N L x) (l := remL N L x r) (grown_of_below hbr _) (by rw [HM.out, ← HF.out]; exact HOW.out.mono hbw) (fun k' e => .inr (HOW.out.lt k' e).1) (fun j hj => ?_), ?_, ?_⟩
        · by_cases e : j = r
          · rw [if_pos e, e]
          · rw [if_neg e]; exact HL.out.rem_far hr HX.out e
        · exact (hbr.mono hbw).setCell (p := ⟨g, r, none⟩) H0.out.gb _
        · exact (Kept.of_below hbr).set_ (.inl H0.out.ownG) _
  · have hb' : inB N L x = false := by simpa using hb
    have hE : remE N M L x = 3 := by unfold remE; rw [if_neg hi, Int.toNat_natCast, if_neg hb]
    have hQ : remQ N M L x = L := by unfold remQ; rw [hE, if_neg (by decide)]
    rw [hE, hQ]
    have hW : whE N M L (x : Int) = -1 := by unfold whE; rw [if_neg hi, Int.toNat_natCast]; exact whF_none N fun r hr => inB_not hb' hr
    have HW := Lib.hid hW
    have HL := Lib.hid hL
    have H0 := Lib.hid h
    clear h hE hQ hi hb hb' hW hL
    go_enter Try.func38, Try.ntmps38
    go_wp2_with (go_at_call 41; refine (rwhere_any _ _ H0.out HL.out hM).mono ?_; rintro e w1 ⟨rfl, rfl⟩; rw [HW.out])
    go_ret
    exact ⟨rfl, v, H0.out, Below.refl _ _, Kept.refl _ _⟩
end
end Go.Proofs.Ytgjfigjebojjdaa
