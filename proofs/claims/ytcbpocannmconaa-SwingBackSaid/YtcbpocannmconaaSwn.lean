/- Rows of whole numbers: cloned; each made small. -/
import Derived.Test.YtcbpocannmconaaSwm
namespace Go.Proofs.Ytcbpocannmconaa
open Go.RowKit
set_option linter.unusedVariables false
set_option linter.unusedSimpArgs false
theorem iinfo : (Try.prog.info? 2).map (fun i => (i.zero, i.size, i.bytes)) = some (some (.int .i64 0), 1, 8) := by kernel_rfl
def intR (K : Nat → Int) (n : Nat) : List Value := (List.range n).map fun i => .int .i64 (K i)
theorem intR_len (K : Nat → Int) (n : Nat) : (intR K n).length = n := by simp [intR]
theorem intR_get (K : Nat → Int) {n i : Nat} (h : i < n) : (intR K n)[i]? = some (.int .i64 (K i)) := by
  unfold intR; rw [List.getElem?_map, List.getElem?_range h]; rfl
theorem intR_congr {K K' : Nat → Int} {n : Nat} (h : ∀ i, i < n → K i = K' i) : intR K n = intR K' n := by
  unfold intR
  refine List.map_congr_left fun i hi => ?_
  rw [h i (List.mem_range.1 hi)]
def upI (K : Nat → Int) (j : Nat) (x : Int) (i : Nat) : Int := if i = j then x else K i
theorem intR_set (K : Nat → Int) (n j : Nat) (x : Int) : (intR K n).set j (.int .i64 x) = intR (upI K j x) n := by
  refine List.ext_getElem? fun i => ?_
  by_cases hi : i < n
  · rw [List.getElem?_set, intR_len, intR_get _ hi, intR_get _ hi]
    by_cases e : j = i
    · subst e; simp [upI, hi]
    · simp [upI, e, Ne.symm e]
  · rw [List.getElem?_eq_none (by simp [intR_len]; omega), List.getElem?_eq_none (by rw [intR_len]; omega)]
/-- A row of whole numbers of our own. -/
def OwI (w : World) (base : Nat) (v : Value) (n : Nat) (K : Nat → Int) : Prop := w.ownsRow base 2 1 v n (intR K n)
theorem OwI.below {w w' : World} {base n : Nat} {v : Value} {K : Nat → Int} (h : OwI w base v n K) (hb : Below w.heap.size w w') : OwI w' base v n K := own_kept h (Kept.of_below (own := fun _ => False) hb) (fun _ _ _ h => h)
theorem OwI.congr_ {w : World} {base n : Nat} {v : Value} {K K' : Nat → Int} (h : OwI w base v n K) (hc : ∀ i, i < n → K i = K' i) : OwI w base v n K' := by
  unfold OwI; rw [← intR_congr hc]; exact h
theorem OwI.at_ {w : World} {base n g c : Nat} {K : Nat → Int} (h : OwI w base (.slice (some ⟨g, 0, none⟩) n c) n K) {i : Nat} (hi : i < n) : w.cell? ⟨g, i, none⟩ = some (.int .i64 (K i)) := by
  have e := World.ownsRow.cellAt (size := 1) h i (by omega)
  rw [e]; exact intR_get K hi
theorem OwI.free {w : World} {base n g c : Nat} {K : Nat → Int} (h : OwI w base (.slice (some ⟨g, 0, none⟩) n c) n K) (i : Nat) : w.frozen? ⟨g, i, none⟩ = false := World.ownsRow.frozenAt (size := 1) h i
theorem OwI.set_ {w : World} {base n g c : Nat} {K : Nat → Int} (h : OwI w base (.slice (some ⟨g, 0, none⟩) n c) n K) (j : Nat) (x : Int) : OwI (w.setCell ⟨g, j, none⟩ (.int .i64 x)) base (.slice (some ⟨g, 0, none⟩) n c) n (upI K j x) := by
  have := (World.ownsRow.stored (size := 1) h j (.int .i64 x)).1
  rw [intR_set] at this
  exact this
theorem OwI.lo {w : World} {base n g c : Nat} {K : Nat → Int} (h : OwI w base (.slice (some ⟨g, 0, none⟩) n c) n K) : base ≤ g ∧ g < w.heap.size := by
  rcases h.2 with ⟨e, _⟩ | ⟨g', cap, cur, e, hb, hg, _⟩
  · cases e
  · injection e with e _ _; injection e with e; injection e with e; subst e
    exact ⟨hb, Blk.size (cs := cur) hg⟩
theorem OwI.seq {w : World} {base n : Nat} {v : Value} {K : Nat → Int} (h : OwI w base v n K) : ∃ A c, v = .slice A n c ∧ SeqAt w w.heap.size A n 1 (fun i => [.int .i64 (K i)]) := by
  rcases h.2 with ⟨rfl, rfl⟩ | ⟨g, cap, cur, rfl, hb, hg, _⟩
  · exact ⟨_, _, rfl, fun h0 => by omega⟩
  · refine ⟨_, _, rfl, fun h0 => ⟨g, 0, rfl, Blk.size (cs := cur) hg, fun i hi k hk => ?_⟩⟩
    obtain rfl : k = 0 := by omega
    have e : (0 + i * 1 + 0) = i := by omega
    rw [e]
    exact OwI.at_ (K := K) h hi
section
variable {A : Option Addr} {len cap B : Nat} {K : Nat → Int} {w : World}
set_option maxHeartbeats 2000000 in
theorem cloneI_any (hs : SeqAt w w.heap.size A len 1 (fun i => [.int .i64 (K i)])) (hl : len * 8 ≤ 140737488351232) :
    Calls Try.prog 18 #[.slice A len cap] w fun e w' => ∃ v', e = .returned v' ∧ OwI w' w.heap.size v' len K ∧ Below w.heap.size w w' := by
  have q22 : ∀ (w : World) (a : Option Addr) (n c n' c' : Nat), (binOp .eql 22 (.slice a n c) (.slice none n' c')).run Try.prog w = .ok (.bool a.isNone) w := fun w a n c n' c' => Lib.run_eql_slice_nil w _ _ a n c n' c' Try.underlying22
  cases A with
  | none =>
    have h0 : len = 0 := by
      rcases Nat.eq_zero_or_pos len with h | h
      · exact h
      · obtain ⟨b, off, e, _⟩ := hs h; cases e
    subst h0
    go_enter Try.func18, Try.ntmps18
    go_wp2_with fail
    go_ret
    exact ⟨_, rfl, World.ownsRow_nil _ _ _ _, Below.refl _ _⟩
  | some ad =>
    have HS := Lib.hid hs
    obtain ⟨i0, hi0, hz0, hz1, hz2⟩ := info_of iinfo
    clear hs
    have hn0 : (w.alloc (.cells #[] 2)).ownsRow w.heap.size 2 1 (.slice (some ⟨w.heap.size, 0, none⟩) 0 0) 0 [] := World.ownsRow_lit w #[] 0 (Nat.le_refl _) (by decide) rfl
    have HN := Lib.hid hn0
    clear hn0
    have hcell : ∀ j u, (intR K len)[j]? = some u → (w.alloc (.cells #[] 2)).cell? (ad.add j) = some u := by
      intro j u hj
      by_cases hjl : j < len
      · rw [intR_get K hjl] at hj
        injection hj with hj
        subst hj
        obtain ⟨b, off, e, hb, hc⟩ := HS.out (by omega)
        injection e with e
        subst e
        have := hc j hjl 0 (by omega)
        simp only [Nat.mul_one, Nat.add_zero, List.getElem?_cons_zero] at this
        have k := ((Below.refl w.heap.size w).alloc (Nat.le_refl _) (.cells #[] 2)).cell (p := ⟨b, off + j, none⟩) hb
        rw [← this, ← k]
        unfold Addr.add
        simp only
        split
        · next e => rw [e]; rfl
        · rfl
      · rw [List.getElem?_eq_none (by rw [intR_len]; omega)] at hj; cases hj
    have HC := Lib.hid hcell
    clear hcell
    go_enter Try.func18, Try.ntmps18
    go_wp2_with (at_builtin; refine wpList_append_own _ rfl (.tmp 5) (.tmp 6) 22 rfl w.heap.size 2 i0 (.int .i64 0) 1 8 Try.underlying22 hi0 hz0 hz1 hz2 rfl (by decide) _ 0 [] rfl HN.out ad len cap (intR K len) rfl (by rw [intR_len]; omega) HC.out (by intro u hu; obtain ⟨i, _, rfl⟩ := List.mem_map.1 hu; rfl) (by unfold maxLen; omega) (by omega) (by simp) ?_; intro v5 w5 hown5 hg5 _; have HO5 := Lib.hid hown5; have HG5 := Lib.hid hg5; clear hown5 hg5)
    go_ret
    refine ⟨_, rfl, ?_, ((Below.refl w.heap.size w).alloc (Nat.le_refl _) (.cells #[] 2)).grown HG5.out (by simp) (fun g' e => own_least HN.out e)⟩
    have := HO5.out
    rw [List.nil_append, Nat.zero_add] at this
    exact this
end
/-- The arguments' reach: a slice that is read takes at most 2^47 bytes. -/
theorem sized_len {H : Type} {enc : TypeId × Value → H} {P : Program} {w : World} {fuel : Nat} {t e : TypeId} {A : Option Addr} {len cap : Nat} {d : DataW H} {p : List MemPlace} {ts : List TypeId} {ds : List (DataW H)} {j : Nat} (ht : P.underlying t = some (.slice e)) (h : DataW.trod enc P w 0 (fun _ => true) true fuel t [.slice A len cap] = some (d, p))
    (hs : (DataW.weightsEach P ts ds).all (· ≤ reachBytes) = true) (hj : ts[j]? = some t) (hd : ds[j]? = some d) : len * P.bytesOf e ≤ 140737488351232 := by
  rcases Go.Deep.open_slice ht h with ⟨hc, _⟩ | ⟨a, len', cap', m, n, D, Pl, hc, _, hl, _, hm, hx, _⟩
  · simp only [List.cons.injEq, Value.slice.injEq, and_true] at hc
    obtain ⟨rfl, rfl, rfl⟩ := hc
    omega
  · simp only [List.cons.injEq, Value.slice.injEq, and_true] at hc
    obtain ⟨rfl, rfl, rfl⟩ := hc
    simp only [Prod.mk.injEq] at hx
    obtain ⟨rfl, rfl⟩ := hx
    have h1 := sized_slice hs hj hd ht
    simp only [List.length_map, List.length_range, reachBytes] at h1
    have : len * P.bytesOf e ≤ (len + (m - len)) * P.bytesOf e := Nat.mul_le_mul_right _ (by omega)
    omega
end Go.Proofs.Ytcbpocannmconaa
