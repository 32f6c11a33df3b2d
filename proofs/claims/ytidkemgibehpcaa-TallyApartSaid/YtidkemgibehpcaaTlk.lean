/- The law's own and filled; the document's Some, Since, Same. -/
import Derived.Test.YtidkemgibehpcaaTld
import Derived.Deep.LoopGhost
namespace Go.Proofs.Ytidkemgibehpcaa
open Go.RowKit
set_option linter.unusedVariables false
set_option linter.unusedSimpArgs false
theorem take_snoc_ {L : List Oc} {k : Nat} (h : k < L.length) : L.take (k + 1) = L.take k ++ [L[k]!] := by
  rw [List.take_add_one, List.getElem?_eq_getElem h, getElem!_pos L k h]; rfl
section
variable {w : World} {B : Nat} {A : Option Addr} {c : Nat} {L : List Oc}
set_option maxRecDepth 20000 in
set_option maxHeartbeats 2000000 in
theorem lown (w : World) (h : RdO w B A L) (hB : B ≤ w.heap.size) (hl : L.length ≤ 1000) :
    Calls Try.prog 17 #[.slice A L.length c] w fun e w' => ∃ v', e = .returned v' ∧ OwO rT w' w.heap.size v' L ∧ Below w.heap.size w w' := by
  obtain ⟨m, hm⟩ : ∃ m, L.length = m := ⟨_, rfl⟩
  have HM := Lib.hid hm
  have HR := Lib.hid h
  rw [hm] at hl ⊢
  clear h hm
  go_enter Try.func17, Try.ntmps17
  go_wp2_with fail
  go_loopw [3, 8] (fun s3 s8 wr => ∃ (k : Nat) (Ao : Option Addr) (co : Nat), k ≤ m ∧ s8 = .int .i64 (k : Int) ∧ s3 = .slice Ao k co ∧ OwO rT wr w.heap.size (.slice Ao k co) (L.take k) ∧ Below w.heap.size w wr) (fun _ s _ => m - (intOf s).toNat)
  case atStart => exact ⟨0, none, 0, Nat.zero_le _, rfl, rfl, OwO.nil_ _ _ _, Below.refl _ _⟩
  case round =>
    obtain ⟨k, Ao, co, hk, rfl, rfl, ho, hb⟩ := hrel
    have hsz := hb.size
    by_cases hkm : k < m
    · have hkL : k < L.length := by rw [HM.out]; exact hkm
      have hts := take_snoc_ hkL
      obtain ⟨g, off, rfl, hg, r0, r1, r2, r3, r4, r5⟩ := RdO.cells (SeqAt.below HR.out (hb.mono hB)) hkL
      obtain ⟨⟨ya, yb, yc, yd, ye, yf⟩, hy⟩ : ∃ y, L[k]! = y := ⟨_, rfl⟩
      rw [hy] at r0 r1 r2 r3 r4 r5 hts
      have HO := Lib.hid ho
      have HB := Lib.hid hb
      have HTS := Lib.hid hts
      have HLEN := Lib.hid (show (L.take k ++ [(⟨ya, yb, yc, yd, ye, yf⟩ : Oc)]).length = k + 1 by rw [← hts, List.length_take]; omega)
      have HLT := Lib.hid (show (L.take k).length ≤ 10000 by rw [List.length_take]; omega)
      have k0 : (0 : Int) ≤ (k : Int) := by omega
      have k1 : (k : Int) < (m : Int) := by omega
      clear ho hb hts hy
      go_wp2_with (at_builtin; refine wpList_oc (z := ⟨ya, yb, yc, yd, ye, yf⟩) (g := wr.heap.size + 1) rlinfo Try.underlying25 rfl (.tmp 12) (.tmp 14) rfl rfl (by simp only [Act.eval]; first | rfl | simp) ((HO.out.below ((Below.refl _ _).alloc (Nat.le_refl _) _)).below ((Below.refl _ _).alloc (Nat.le_refl _) _)) (Blk.new_ (by simp)) HLT.out (by simp; omega) ?_; intro v5 w5 hown5 hg5 _; obtain ⟨A5, c5, e5, -⟩ := hown5.rd; rw [HLEN.out] at e5; subst e5; rw [← HTS.out] at hown5; have HO5 := Lib.hid hown5; have HB5 := Lib.hid (((HB.out.alloc hsz _).alloc (by simp; omega) _).grown hg5 (by simp; omega) (fun k e => (HO.out.own_lt e).1)); clear hown5 hg5)
      exact ⟨⟨k + 1, A5, c5, by omega, by go_num, rfl, HO5.out, HB5.out⟩, by simp [intOf]; omega⟩
    · obtain rfl : k = m := by omega
      go_wp2_with fail
      go_ret
      refine ⟨_, rfl, ?_, hb⟩
      rwa [List.take_of_length_le (by rw [HM.out]; exact Nat.le_refl _)] at ho
theorem drop_snoc_ {n k : Nat} (h : k < L.length) : (L.take (k + 1)).drop n = if n ≤ k then (L.take k).drop n ++ [L[k]!] else (L.take k).drop n := by
  rw [take_snoc_ h]
  split
  · rw [List.drop_append_of_le_length (by rw [List.length_take]; omega)]
  · rw [List.drop_eq_nil_of_le (by rw [List.length_append, List.length_take]; simp; omega), List.drop_eq_nil_of_le (by rw [List.length_take]; omega)]
theorem filter_snoc_ {f : Oc → Bool} {k : Nat} (h : k < L.length) : (L.take (k + 1)).filter f = if f L[k]! then (L.take k).filter f ++ [L[k]!] else (L.take k).filter f := by
  rw [take_snoc_ h, List.filter_append]
  cases hf : f L[k]! with
  | true => rw [List.filter_cons_of_pos hf]; rfl
  | false => rw [List.filter_cons_of_neg (by rw [hf]; decide)]; simp
set_option maxRecDepth 20000 in
set_option maxHeartbeats 2000000 in
theorem rsince (n : Int) (w : World) (h : RdO w B A L) (hB : B ≤ w.heap.size) (hl : L.length ≤ 1000) :
    Calls Try.prog 19 #[.slice A L.length c, .int .i64 n] w fun e w' => ∃ v', e = .returned v' ∧ OwO rT w' w.heap.size v' (L.drop n.toNat) ∧ Below w.heap.size w w' := by
  obtain ⟨m, hm⟩ : ∃ m, L.length = m := ⟨_, rfl⟩
  have HM := Lib.hid hm
  have HR := Lib.hid h
  rw [hm] at hl ⊢
  clear h hm
  go_enter Try.func19, Try.ntmps19
  go_wp2_with fail
  go_loopw [5, 10] (fun s3 s8 wr => ∃ (k : Nat) (Ao : Option Addr) (co : Nat) (Lo : List Oc), k ≤ m ∧ s8 = .int .i64 (k : Int) ∧ s3 = .slice Ao Lo.length co ∧ Lo = (L.take k).drop n.toNat ∧ OwO rT wr w.heap.size (.slice Ao Lo.length co) Lo ∧ Below w.heap.size w wr) (fun _ s _ => m - (intOf s).toNat)
  case atStart => exact ⟨0, none, 0, [], Nat.zero_le _, rfl, rfl, by simp, OwO.nil_ _ _ _, Below.refl _ _⟩
  case round =>
    obtain ⟨k, Ao, co, Lo, hk, rfl, rfl, hlo, ho, hb⟩ := hrel
    have hsz := hb.size
    have hlol : Lo.length ≤ 1000 := by rw [hlo, List.length_drop, List.length_take]; omega
    by_cases hkm : k < m
    · have hkL : k < L.length := by rw [HM.out]; exact hkm
      have hts := drop_snoc_ (n := n.toNat) hkL
      obtain ⟨g, off, rfl, hg, r0, r1, r2, r3, r4, r5⟩ := RdO.cells (SeqAt.below HR.out (hb.mono hB)) hkL
      obtain ⟨⟨ya, yb, yc, yd, ye, yf⟩, hy⟩ : ∃ y, L[k]! = y := ⟨_, rfl⟩
      rw [hy] at r0 r1 r2 r3 r4 r5 hts
      have HO := Lib.hid ho
      have HB := Lib.hid hb
      have HLT := Lib.hid (show Lo.length ≤ 10000 by omega)
      have k0 : (0 : Int) ≤ (k : Int) := by omega
      have k1 : (k : Int) < (m : Int) := by omega
      by_cases hn : n ≤ (k : Int)
      · rw [if_pos (by omega), ← hlo] at hts
        obtain ⟨L5, hL5⟩ : ∃ L5, Lo ++ [(⟨ya, yb, yc, yd, ye, yf⟩ : Oc)] = L5 := ⟨_, rfl⟩
        rw [hL5] at hts
        have HTS := Lib.hid hL5
        have HHT := Lib.hid hts
        have HLEN := Lib.hid (show (Lo ++ [(⟨ya, yb, yc, yd, ye, yf⟩ : Oc)]).length = L5.length by rw [hL5])
        have HTS := Lib.hid hL5.symm
        clear ho hb hts hy hlo hL5
        go_wp2_with (at_builtin; refine wpList_oc (z := ⟨ya, yb, yc, yd, ye, yf⟩) (g := wr.heap.size + 1) rlinfo Try.underlying25 rfl (.tmp 18) (.tmp 20) rfl rfl (by simp only [Act.eval]; first | rfl | simp) ((HO.out.below ((Below.refl _ _).alloc (Nat.le_refl _) _)).below ((Below.refl _ _).alloc (Nat.le_refl _) _)) (Blk.new_ (by simp)) HLT.out (by simp; omega) ?_; intro v5 w5 hown5 hg5 _; obtain ⟨A5, c5, e5, -⟩ := hown5.rd; rw [HLEN.out] at e5; subst e5; rw [← HTS.out] at hown5; have HO5 := Lib.hid hown5; have HB5 := Lib.hid (((HB.out.alloc hsz _).alloc (by simp; omega) _).grown hg5 (by simp; omega) (fun k e => (HO.out.own_lt e).1)); clear hown5 hg5)
        exact ⟨⟨k + 1, A5, c5, L5, by omega, by go_num, rfl, HHT.out.symm, HO5.out, HB5.out⟩, by simp [intOf]; omega⟩
      · rw [if_neg (by omega), ← hlo] at hts
        have HHT := Lib.hid hts
        have hn2 : decide (n ≤ (k : Int)) = false := decide_eq_false hn
        clear ho hb hts hy hlo
        go_wp2_with fail
        exact ⟨⟨k + 1, Ao, co, Lo, by omega, by go_num, rfl, HHT.out.symm, HO.out.below ((Below.refl _ _).alloc (Nat.le_refl _) _), HB.out.alloc hsz _⟩, by simp [intOf]; omega⟩
    · obtain rfl : k = m := by omega
      go_wp2_with fail
      go_ret
      refine ⟨_, rfl, ?_, hb⟩
      rw [List.take_of_length_le (by rw [HM.out]; exact Nat.le_refl _)] at hlo
      rw [← hlo]; exact ho
def someB (tier why : Int) (o : Oc) : Bool := isOfB tier o && whyB why o
theorem someB_yes {tier why : Int} {o : Oc} (h1 : tier < 0 ∨ tier = o.b) (h2 : why = 0 ∨ why = o.d) : someB tier why o = true := by
  unfold someB isOfB whyB
  rcases h1 with h1 | h1 <;> rcases h2 with h2 | h2 <;> simp [h1, h2]
theorem someB_no {tier why : Int} {o : Oc} (h : (¬ tier < 0 ∧ ¬ tier = o.b) ∨ (¬ why = 0 ∧ ¬ why = o.d)) : someB tier why o = false := by
  unfold someB isOfB whyB
  rcases h with ⟨h1, h2⟩ | ⟨h1, h2⟩
  · have h3 : ¬ o.b = tier := fun e => h2 e.symm
    simp [h1, h3]
  · have h3 : ¬ o.d = why := fun e => h2 e.symm
    simp [h1, h3]
set_option maxRecDepth 20000 in
set_option maxHeartbeats 4000000 in
theorem rsome (tier why : Int) (w : World) (h : RdO w B A L) (hB : B ≤ w.heap.size) (hl : L.length ≤ 1000) :
    Calls Try.prog 9 #[.slice A L.length c, .int .i64 tier, .int .u8 why] w fun e w' => ∃ v', e = .returned v' ∧ OwO rT w' w.heap.size v' (L.filter (someB tier why)) ∧ Below w.heap.size w w' := by
  obtain ⟨m, hm⟩ : ∃ m, L.length = m := ⟨_, rfl⟩
  have HM := Lib.hid hm
  have HR := Lib.hid h
  rw [hm] at hl ⊢
  clear h hm
  go_enter Try.func9, Try.ntmps9
  go_wp2_with fail
  go_loopw [7, 12] (fun s3 s8 wr => ∃ (k : Nat) (Ao : Option Addr) (co : Nat) (Lo : List Oc), k ≤ m ∧ s8 = .int .i64 (k : Int) ∧ s3 = .slice Ao Lo.length co ∧ Lo = (L.take k).filter (someB tier why) ∧ OwO rT wr w.heap.size (.slice Ao Lo.length co) Lo ∧ Below w.heap.size w wr) (fun _ s _ => m - (intOf s).toNat)
  case atStart => exact ⟨0, none, 0, [], Nat.zero_le _, rfl, rfl, by simp, OwO.nil_ _ _ _, Below.refl _ _⟩
  case round =>
    obtain ⟨k, Ao, co, Lo, hk, rfl, rfl, hlo, ho, hb⟩ := hrel
    have hsz := hb.size
    have hlol : Lo.length ≤ 1000 := by rw [hlo]; exact Nat.le_trans (List.length_filter_le _ _) (by rw [List.length_take]; omega)
    by_cases hkm : k < m
    · have hkL : k < L.length := by rw [HM.out]; exact hkm
      have hts := filter_snoc_ (f := someB tier why) hkL
      obtain ⟨g, off, rfl, hg, r0, r1, r2, r3, r4, r5⟩ := RdO.cells (SeqAt.below HR.out (hb.mono hB)) hkL
      obtain ⟨⟨ya, yb, yc, yd, ye, yf⟩, hy⟩ : ∃ y, L[k]! = y := ⟨_, rfl⟩
      rw [hy] at r0 r1 r2 r3 r4 r5 hts
      have HO := Lib.hid ho
      have HB := Lib.hid hb
      have HLT := Lib.hid (show Lo.length ≤ 10000 by omega)
      have k0 : (0 : Int) ≤ (k : Int) := by omega
      have k1 : (k : Int) < (m : Int) := by omega
      by_cases hs : someB tier why ⟨ya, yb, yc, yd, ye, yf⟩ = true
      · rw [if_pos hs, ← hlo] at hts
        obtain ⟨L5, hL5⟩ : ∃ L5, Lo ++ [(⟨ya, yb, yc, yd, ye, yf⟩ : Oc)] = L5 := ⟨_, rfl⟩
        rw [hL5] at hts
        have HHT := Lib.hid hts
        have HLEN := Lib.hid (show (Lo ++ [(⟨ya, yb, yc, yd, ye, yf⟩ : Oc)]).length = L5.length by rw [hL5])
        by_cases h1 : tier < 0
        · by_cases h2 : why = 0
          · have h2' : (why == 0) = true := by simpa using h2
            try clear h2
            try clear h3
            try clear h4
            try clear hs
            have HTS := Lib.hid hL5.symm
            clear ho hb hts hy hlo hL5
            go_wp2_with (at_builtin; refine wpList_oc (z := ⟨ya, yb, yc, yd, ye, yf⟩) (g := wr.heap.size + 1) rlinfo Try.underlying25 rfl (.tmp 34) (.tmp 36) rfl rfl (by simp only [Act.eval]; first | rfl | simp) ((HO.out.below ((Below.refl _ _).alloc (Nat.le_refl _) _)).below ((Below.refl _ _).alloc (Nat.le_refl _) _)) (Blk.new_ (by simp)) HLT.out (by simp; omega) ?_; intro v5 w5 hown5 hg5 _; obtain ⟨A5, c5, e5, -⟩ := hown5.rd; rw [HLEN.out] at e5; subst e5; rw [← HTS.out] at hown5; have HO5 := Lib.hid hown5; have HB5 := Lib.hid (((HB.out.alloc hsz _).alloc (by simp; omega) _).grown hg5 (by simp; omega) (fun k e => (HO.out.own_lt e).1)); clear hown5 hg5)
            exact ⟨⟨k + 1, A5, c5, L5, by omega, by go_num, rfl, HHT.out.symm, HO5.out, HB5.out⟩, by simp [intOf]; omega⟩
          · by_cases h3 : why = yd
            · have h3' : (why == yd) = true := by simpa using h3
              have h2' : (why == 0) = false := by simpa using h2
              try clear h2
              try clear h3
              try clear h4
              try clear hs
              have HTS := Lib.hid hL5.symm
              clear ho hb hts hy hlo hL5
              go_wp2_with (at_builtin; refine wpList_oc (z := ⟨ya, yb, yc, yd, ye, yf⟩) (g := wr.heap.size + 1) rlinfo Try.underlying25 rfl (.tmp 34) (.tmp 36) rfl rfl (by simp only [Act.eval]; first | rfl | simp) ((HO.out.below ((Below.refl _ _).alloc (Nat.le_refl _) _)).below ((Below.refl _ _).alloc (Nat.le_refl _) _)) (Blk.new_ (by simp)) HLT.out (by simp; omega) ?_; intro v5 w5 hown5 hg5 _; obtain ⟨A5, c5, e5, -⟩ := hown5.rd; rw [HLEN.out] at e5; subst e5; rw [← HTS.out] at hown5; have HO5 := Lib.hid hown5; have HB5 := Lib.hid (((HB.out.alloc hsz _).alloc (by simp; omega) _).grown hg5 (by simp; omega) (fun k e => (HO.out.own_lt e).1)); clear hown5 hg5)
              exact ⟨⟨k + 1, A5, c5, L5, by omega, by go_num, rfl, HHT.out.symm, HO5.out, HB5.out⟩, by simp [intOf]; omega⟩
            · rw [someB_no (.inr ⟨h2, h3⟩)] at hs; cases hs
        · by_cases h4 : tier = yb
          · have h4' : (tier == yb) = true := by simpa using h4
            have h1' : decide (tier < 0) = false := decide_eq_false h1
            by_cases h2 : why = 0
            · have h2' : (why == 0) = true := by simpa using h2
              try clear h2
              try clear h3
              try clear h4
              try clear hs
              have HTS := Lib.hid hL5.symm
              clear ho hb hts hy hlo hL5
              go_wp2_with (at_builtin; refine wpList_oc (z := ⟨ya, yb, yc, yd, ye, yf⟩) (g := wr.heap.size + 1) rlinfo Try.underlying25 rfl (.tmp 34) (.tmp 36) rfl rfl (by simp only [Act.eval]; first | rfl | simp) ((HO.out.below ((Below.refl _ _).alloc (Nat.le_refl _) _)).below ((Below.refl _ _).alloc (Nat.le_refl _) _)) (Blk.new_ (by simp)) HLT.out (by simp; omega) ?_; intro v5 w5 hown5 hg5 _; obtain ⟨A5, c5, e5, -⟩ := hown5.rd; rw [HLEN.out] at e5; subst e5; rw [← HTS.out] at hown5; have HO5 := Lib.hid hown5; have HB5 := Lib.hid (((HB.out.alloc hsz _).alloc (by simp; omega) _).grown hg5 (by simp; omega) (fun k e => (HO.out.own_lt e).1)); clear hown5 hg5)
              exact ⟨⟨k + 1, A5, c5, L5, by omega, by go_num, rfl, HHT.out.symm, HO5.out, HB5.out⟩, by simp [intOf]; omega⟩
            · by_cases h3 : why = yd
              · have h3' : (why == yd) = true := by simpa using h3
                have h2' : (why == 0) = false := by simpa using h2
                try clear h2
                try clear h3
                try clear h4
                try clear hs
                have HTS := Lib.hid hL5.symm
                clear ho hb hts hy hlo hL5
                go_wp2_with (at_builtin; refine wpList_oc (z := ⟨ya, yb, yc, yd, ye, yf⟩) (g := wr.heap.size + 1) rlinfo Try.underlying25 rfl (.tmp 34) (.tmp 36) rfl rfl (by simp only [Act.eval]; first | rfl | simp) ((HO.out.below ((Below.refl _ _).alloc (Nat.le_refl _) _)).below ((Below.refl _ _).alloc (Nat.le_refl _) _)) (Blk.new_ (by simp)) HLT.out (by simp; omega) ?_; intro v5 w5 hown5 hg5 _; obtain ⟨A5, c5, e5, -⟩ := hown5.rd; rw [HLEN.out] at e5; subst e5; rw [← HTS.out] at hown5; have HO5 := Lib.hid hown5; have HB5 := Lib.hid (((HB.out.alloc hsz _).alloc (by simp; omega) _).grown hg5 (by simp; omega) (fun k e => (HO.out.own_lt e).1)); clear hown5 hg5)
                exact ⟨⟨k + 1, A5, c5, L5, by omega, by go_num, rfl, HHT.out.symm, HO5.out, HB5.out⟩, by simp [intOf]; omega⟩
              · rw [someB_no (.inr ⟨h2, h3⟩)] at hs; cases hs
          · rw [someB_no (.inl ⟨h1, h4⟩)] at hs; cases hs
      · rw [if_neg hs, ← hlo] at hts
        have HHT := Lib.hid hts
        by_cases h1 : tier < 0
        · have h2 : ¬ why = 0 := fun e => hs (someB_yes (.inl h1) (.inl e))
          have h3 : ¬ why = yd := fun e => hs (someB_yes (.inl h1) (.inr e))
          have h2' : (why == 0) = false := by simpa using h2
          have h3' : (why == yd) = false := by simpa using h3
          try clear h2
          try clear h3
          try clear h4
          try clear hs
          clear ho hb hts hy hlo
          go_wp2_with fail
          exact ⟨⟨k + 1, Ao, co, Lo, by omega, by go_num, rfl, HHT.out.symm, HO.out.below ((Below.refl _ _).alloc (Nat.le_refl _) _), HB.out.alloc hsz _⟩, by simp [intOf]; omega⟩
        · have h1' : decide (tier < 0) = false := decide_eq_false h1
          by_cases h4 : tier = yb
          · have h4' : (tier == yb) = true := by simpa using h4
            have h2 : ¬ why = 0 := fun e => hs (someB_yes (.inr h4) (.inl e))
            have h3 : ¬ why = yd := fun e => hs (someB_yes (.inr h4) (.inr e))
            have h2' : (why == 0) = false := by simpa using h2
            have h3' : (why == yd) = false := by simpa using h3
            try clear h2
            try clear h3
            try clear h4
            try clear hs
            clear ho hb hts hy hlo
            go_wp2_with fail
            exact ⟨⟨k + 1, Ao, co, Lo, by omega, by go_num, rfl, HHT.out.symm, HO.out.below ((Below.refl _ _).alloc (Nat.le_refl _) _), HB.out.alloc hsz _⟩, by simp [intOf]; omega⟩
          · have h4' : (tier == yb) = false := by simpa using h4
            try clear h2
            try clear h3
            try clear h4
            try clear hs
            clear ho hb hts hy hlo
            go_wp2_with fail
            exact ⟨⟨k + 1, Ao, co, Lo, by omega, by go_num, rfl, HHT.out.symm, HO.out.below ((Below.refl _ _).alloc (Nat.le_refl _) _), HB.out.alloc hsz _⟩, by simp [intOf]; omega⟩
    · obtain rfl : k = m := by omega
      go_wp2_with fail
      go_ret
      refine ⟨_, rfl, ?_, hb⟩
      rw [List.take_of_length_le (by rw [HM.out]; exact Nat.le_refl _)] at hlo
      rw [← hlo]; exact ho
end
end Go.Proofs.Ytidkemgibehpcaa
