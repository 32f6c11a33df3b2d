/- A text's lines, as the document takes them apart. -/
import Derived.Test.YtbajmmgdnegoiaaDoorCtd
import Derived.StillTailTactics
import Derived.Laws.OwnMore
import Derived.Test.YtbajmmgdnegoiaaDoorBlkb
namespace Go.Proofs.YtbajmmgdnegoiaaDoor
open Go.ChangeShapes Go.WideShapes Go.ChangeAt Go.RowKit Kn
set_option linter.unusedVariables false
set_option linter.unusedSimpArgs false
/-- One byte more. -/
def stepL (out : List (List UInt8)) (c : UInt8) : List (List UInt8) := if c = 10 then out ++ [[]] else out.dropLast ++ [out.getLast?.getD [] ++ [c]]
def linesF (l : List UInt8) : List (List UInt8) := l.foldl stepL [[]]
theorem linesF_snoc (l : List UInt8) (c : UInt8) : linesF (l ++ [c]) = stepL (linesF l) c := by unfold linesF; rw [List.foldl_append]; rfl
theorem stepL_nl (o : List (List UInt8)) (l : List UInt8) : stepL (o ++ [l]) 10 = o ++ [l] ++ [[]] := by unfold stepL; rw [if_pos rfl]
theorem stepL_by (o : List (List UInt8)) (l : List UInt8) (c : UInt8) (h : c ≠ 10) : stepL (o ++ [l]) c = o ++ [l ++ [c]] := by unfold stepL; rw [if_neg h]; simp
theorem linesF_last (l : List UInt8) : ∃ o x, linesF l = o ++ [x] ∧ o.length ≤ l.length ∧ x.length ≤ l.length := by
  have key : ∀ (n : Nat) (l : List UInt8), l.length = n → ∃ o x, linesF l = o ++ [x] ∧ o.length ≤ l.length ∧ x.length ≤ l.length := by
    intro n
    induction n with
    | zero => intro l h; rw [List.length_eq_zero_iff.1 h]; exact ⟨[], [], rfl, by simp, by simp⟩
    | succ n ih =>
      intro l h
      rcases List.eq_nil_or_concat l with e | ⟨a, c, e⟩
      · rw [e] at h; simp at h
      · rw [List.concat_eq_append] at e
        subst e
        rw [List.length_append] at h
        obtain ⟨o, x, e1, e2, e3⟩ := ih a (by simpa using h)
        rw [linesF_snoc, e1]
        by_cases hc : c = 10
        · subst hc
          rw [stepL_nl]
          exact ⟨o ++ [x], [], rfl, by simp; omega, by simp⟩
        · rw [stepL_by _ _ _ hc]
          exact ⟨o, x ++ [c], rfl, by simp; omega, by simp; omega⟩
  exact key _ l rfl
/-- Lines as values. -/
def strs (L : List (List UInt8)) : List Value := L.map fun l => .string (mkT l)
theorem strs_app (a b : List (List UInt8)) : strs (a ++ b) = strs a ++ strs b := by unfold strs; rw [List.map_append]
theorem strs_len (a : List (List UInt8)) : (strs a).length = a.length := by unfold strs; rw [List.length_map]
abbrev sT : TypeId := 9
theorem str_info : (Tryd.prog.info? sT).map (fun i => (i.zero, i.size, i.bytes)) = some (some (.string ⟨#[]⟩), 1, 16) := by kernel_rfl
theorem inf_of {t : TypeId} {z : Option Value} {s b : Nat} (h : (Tryd.prog.info? t).map (fun i => (i.zero, i.size, i.bytes)) = some (z, s, b)) : ∃ i, Tryd.prog.info? t = some i ∧ i.zero = z ∧ i.size = s ∧ i.bytes = b := by
  cases hq : Tryd.prog.info? t with
  | none => rw [hq] at h; cases h
  | some i =>
    rw [hq] at h
    simp only [Option.map_some, Option.some.injEq, Prod.mk.injEq] at h
    exact ⟨i, rfl, h.1, h.2.1, h.2.2⟩
/-- The lines that have been taken apart, and where they lie. -/
def LnR (w0 : World) (s : ByteArray) (v : Value) (k : Nat) (w : World) : Prop :=
  w.ownsRow w0.heap.size sT 1 v (linesF (s.data.toList.take k)).length (strs (linesF (s.data.toList.take k))) ∧ Below w0.heap.size w0 w
theorem take_next (s : ByteArray) (k : Nat) (h : k < s.size) : s.data.toList.take (k + 1) = s.data.toList.take k ++ [s[k]] := by
  rw [List.take_add_one]
  have : s.data.toList[k]? = some s[k] := by
    have hk : k < s.data.toList.length := by rw [Array.length_toList]; exact h
    rw [List.getElem?_eq_getElem hk]
    rfl
  rw [this]
  rfl
set_option maxRecDepth 20000 in
set_option maxHeartbeats 4000000 in
theorem rlines (s : ByteArray) (hs : s.size ≤ 21000) (w : World) : Calls Tryd.prog 23 #[.string s] w fun e w' => ∃ v, e = .returned v ∧ w'.ownsRow w.heap.size sT 1 v (linesF s.data.toList).length (strs (linesF s.data.toList)) ∧ Below w.heap.size w w' := by
  obtain ⟨i0, hi, hz0, hz1, hz2⟩ := inf_of str_info
  have HI := Lib.hid (And.intro hi (And.intro hz0 (And.intro hz1 hz2)))
  clear hi hz0 hz1 hz2
  have hsz : s.data.toList.length = s.size := by rw [Array.length_toList]; rfl
  go_enter Tryd.func23, Tryd.ntmps23
  go_wp2_with fail
  go_loopw [3, 4] (fun s3 s4 wr => ∃ k : Nat, k ≤ s.size ∧ s4 = .int .i64 (k : Int) ∧ LnR w s s3 k wr) (fun _ s4 _ => s.size + 1 - (intOf s4).toNat)
  case atStart => exact ⟨0, by omega, rfl, by
    refine ⟨?_, (Below.refl _ _).alloc (Nat.le_refl _) _⟩
    rw [List.take_zero]
    exact World.ownsRow_lit _ #[.string ⟨#[]⟩] 1 (Nat.le_refl _) (by unfold maxLen; omega) rfl⟩
  case round =>
    obtain ⟨k, hk, rfl, hrow, hb⟩ := hrel
    obtain ⟨o, x, hox, ho1, hx1⟩ := linesF_last (s.data.toList.take k)
    rw [hox] at hrow
    have hkl : (s.data.toList.take k).length = k := by rw [List.length_take]; omega
    rw [hkl] at ho1 hx1
    have hlen : (o ++ [x]).length = o.length + 1 := by simp
    rw [hlen] at hrow
    obtain ⟨g, cap, rfl, hg0, hg1⟩ := own_at hrow (by omega)
    have HROW := Lib.hid hrow
    have HB := Lib.hid hb
    have HX := Lib.hid hox
    clear hrow hb hox
    have hbs := HB.out.size
    have k1 : IntKind.i64.wrap ((k : Int) + 1) = (k : Int) + 1 := IntWalk.i64_in _ (by omega)
    have k0 : (0 : Int) ≤ (k : Int) := by omega
    have HTN := Lib.hid (take_next s k)
    by_cases hks : k < s.size
    · have k2 : decide ((k : Int) < (s.size : Int)) = true := by simp; omega
      obtain ⟨c, hc⟩ : ∃ c, s[k] = c := ⟨_, rfl⟩
      have hT := HTN.out hks
      rw [hc] at hT
      have hT2 := linesF_snoc (s.data.toList.take k) c
      rw [← hT, HX.out] at hT2
      have HT2 := Lib.hid hT2
      clear hT hT2 HTN
      by_cases h10 : c = 10
      · subst h10
        have h10' : ((s[k].toNat : Int) == 10) = true := by rw [hc]; rfl
        clear hc
        go_wp2_with (at_builtin; refine wpList_append_own _ rfl (.tmp 16) (.tmp 17) 50 rfl w.heap.size sT i0 (.string ⟨#[]⟩) 1 16 Tryd.underlying50 HI.out.1 HI.out.2.1 HI.out.2.2.1 HI.out.2.2.2 rfl (by decide) (.slice (some ⟨g, 0, none⟩) (o.length + 1) cap) (o.length + 1) (strs (o ++ [x])) rfl (HROW.out.alloc _) ⟨wr.heap.size, 0, none⟩ 1 1 [.string ⟨#[]⟩] rfl rfl (by intro j u hj; match j, hj with | 0, hj => simp at hj; subst hj; exact (Blk.new_ (by simp)).val rfl) (by intro u hu; simp at hu; subst hu; rfl) (by unfold maxLen; omega) (by omega) (by simp; omega) ?_; intro v7 w7 hown7 hg7 _; have HO7 := Lib.hid hown7; have HG7 := Lib.hid hg7; clear hown7 hg7)
        have hB7 := (HB.out.alloc (by omega) (.cells #[.string ⟨#[]⟩] sT)).grown HG7.out (by simp; omega) (fun k hk => (show g = k by simpa [Value.ownBlock] using hk) ▸ hg0)
        go_wp2_with fail
        refine ⟨⟨k + 1, by omega, by go_num, ?_, hB7⟩, by simp [intOf]; omega⟩
        rw [HT2.out, stepL_nl]
        have := HO7.out
        have e5 : (o ++ [x] ++ [([] : List UInt8)]).length = o.length + 1 + 1 := by simp
        rw [e5, strs_app (o ++ [x])]
        exact this
      · have h10' : ((s[k].toNat : Int) == 10) = false := by
          rw [hc]
          simp only [beq_eq_false_iff_ne, ne_eq]
          intro e
          exact h10 (by rw [← UInt8.ofNat_toNat (x := c), show c.toNat = 10 by omega]; rfl)
        have c1 : wr.cell? ⟨g, o.length, none⟩ = some (.string (mkT x)) := by
          rw [HROW.out.cellAt o.length (by omega), strs_app, List.getElem?_append_right (by rw [strs_len]; omega), strs_len, Nat.sub_self]
          rfl
        have z1 : wr.frozen? ⟨g, o.length, none⟩ = false := HROW.out.frozenAt _
        have e1 : IntKind.i64.wrap ((o.length : Int) + 1 - 1) = (o.length : Int) := by rw [IntWalk.i64_in _ (by omega)]; omega
        have e1' : IntKind.i64.wrap (o.length : Int) = (o.length : Int) := IntWalk.i64_in _ (by omega)
        have b1 : (k : Int) + 1 ≤ (s.size : Int) := by omega
        have b2 : (k : Int) ≤ (k : Int) + 1 := by omega
        have b3 : ((k : Int) + 1).toNat = k + 1 := by omega
        have b4 : (0 : Int) ≤ (k : Int) + 1 := by omega
        have b5 : k + 1 ≤ s.size := by omega
        have l0 : (0 : Int) ≤ (o.length : Int) := by omega
        have l1 : (o.length : Int) < (o.length : Int) + 1 := by omega
        have e2 : s.extract k (k + 1) = mkT [c] := by
          have : s = mkT s.data.toList := (mkT_of s).symm
          rw [this, mkT_extract]
          congr 1
          have hk2 : k < s.data.toList.length := by omega
          rw [Nat.add_sub_cancel_left, List.drop_eq_getElem_cons hk2]
          simp only [List.take_succ_cons, List.take_zero, List.cons.injEq, and_true]
          rw [← hc]
          rfl
        have s1 : (mkT [c]).size = 1 := by rw [mkT_size]; rfl
        have s2 : (mkT x).size ≤ 21000 := by rw [mkT_size]; omega
        have q1 : ¬ 9223372036854775807 < (mkT x).size + (mkT [c]).size := by omega
        have q2 : ¬ 9223372036854775807 < (mkT x).size + 1 := by omega
        clear hc
        go_upto_region 7 with fail
        go_still_tail 13, (by kernel_rfl)
        go_wp2_with fail
        refine ⟨⟨k + 1, by omega, by go_num, ?_, (HB.out.setCell hg0 _).drew⟩, by simp [intOf]; omega⟩
        rw [HT2.out, stepL_by _ _ _ h10, mkT_app]
        have e5 : (o ++ [x ++ [c]]).length = o.length + 1 := by simp
        have st := (HROW.out.stored o.length (.string (mkT (x ++ [c])))).1
        have e6 : (strs (o ++ [x])).set o.length (.string (mkT (x ++ [c]))) = strs (o ++ [x ++ [c]]) := by
          rw [strs_app, strs_app, List.set_append_right _ _ (by rw [strs_len]; omega), strs_len, Nat.sub_self]
          rfl
        rw [e5, ← e6]
        exact st.drew
    · have k2 : decide ((k : Int) < (s.size : Int)) = false := by simp; omega
      have e : k = s.size := by omega
      subst e
      go_wp2_with fail
      go_ret
      have e : linesF s.data.toList = o ++ [x] := by rw [← HX.out, List.take_of_length_le (by omega)]
      rw [e, hlen]
      exact ⟨_, rfl, HROW.out, HB.out⟩
end Go.Proofs.YtbajmmgdnegoiaaDoor
