/- A number is written and read; a text is cut at a byte. -/
import Derived.Test.YtbajmmgdnegoiaaDoorCni
import Derived.Lib.AppendIntMem
import Derived.Lib.AtoiErrMem
import Derived.Lib.ParseIntBTie
namespace Go.Proofs.YtbajmmgdnegoiaaDoor
open Go.ChangeShapes Go.WideShapes Go.ChangeAt Go.RowKit Kn
set_option linter.unusedVariables false
set_option linter.unusedSimpArgs false
/-- What the library reads of the package-level variables. -/
structure Std (w : World) : Prop where
  tab : Lib.TabIs Tryd.prog w "internal/strconv.uint64pow10" .u64 Lib.pow10Tab
  es : ∃ tp p, w.cell? ⟨2, 0, none⟩ = some (.iface tp p)
  er : ∃ tp p, w.cell? ⟨3, 0, none⟩ = some (.iface tp p)
theorem Std.below {w w' : World} (h : Std w) (hb : Below w.heap.size w w') : Std w' := by
  obtain ⟨h1, ⟨t2, p2, h2⟩, ⟨t3, p3, h3⟩⟩ := h
  refine ⟨?_, ⟨t2, p2, (hb.cell (klt h2)).trans h2⟩, ⟨t3, p3, (hb.cell (klt h3)).trans h3⟩⟩
  unfold Lib.TabIs World.var? at h1 ⊢
  cases hg : Tryd.prog.globalNamed "internal/strconv.uint64pow10" with
  | none => rw [hg] at h1; cases h1
  | some g =>
    rw [hg] at h1
    simp only [Option.bind_some] at h1 ⊢
    have hlt : g < w.heap.size := by
      refine Nat.lt_of_not_le fun c => ?_
      rw [Array.getElem?_eq_none c] at h1
      cases h1
    rw [hb.block g hlt]
    exact h1
def itoaB (n : Int) : ByteArray := ⟨(Lib.itoa n).toArray⟩
set_option maxHeartbeats 2000000 in
theorem decimal_any (n : Int) (h0 : -9223372036854775808 ≤ n) (h1 : n ≤ 9223372036854775807) (w : World) (hs : Std w) :
    Calls Tryd.prog 32 #[.int .i64 n] w fun e w' => e = .returned (.string (itoaB n)) ∧ Below w.heap.size w w' := by
  have hc := Tryd.strconv_FormatInt_10 n h0 h1 w hs.tab
  go_enter Tryd.func32, Tryd.ntmps32
  go_wp2_with fail
  refine hc.mono ?_
  rintro e w2 ⟨rfl, k, os, rfl⟩
  go_wp2_with fail
  go_ret
  exact ⟨rfl, Lib.below_grow _ _ (Nat.le_refl _) _ _⟩
/-- What a text's digits say, if they are just as they are written. -/
def numB (s : ByteArray) : Option Int := match Lib.parseIntB 64 s.data.toList with
  | .ok v => if itoaB v = s then some v else none
  | _ => none
def numV (s : ByteArray) : Value := match numB s with
  | some v => .tuple #[.int .i64 v, .bool true]
  | none => .tuple #[.int .i64 0, .bool false]
set_option maxHeartbeats 2000000 in
theorem number_any (s : ByteArray) (hl : s.size ≤ 1000000) (w : World) (hs : Std w) :
    Calls Tryd.prog 44 #[.string s] w fun e w' => e = .returned (numV s) ∧ Below w.heap.size w w' := by
  unfold numV numB
  have HS := Lib.hid hs
  cases hp : Lib.parseIntB 64 s.data.toList with
  | ok v =>
    have hv0 := Lib.parseIntB_bounds hp
    have hv : -9223372036854775808 ≤ v ∧ v ≤ 9223372036854775807 := by
      simp at hv0; omega
    clear hv0
    have hc := Tryd.strconv_ParseInt_10_at64_ok s (by omega) v hp w
    clear hp
    by_cases he : itoaB v = s
    · subst he
      simp only [if_true]
      go_enter Tryd.func44, Tryd.ntmps44
      go_wp2_with fail
      refine hc.mono ?_
      rintro e w2 ⟨rfl, hw⟩
      have hb : Below w.heap.size w w2 := by
        rcases hw with rfl | ⟨t, rfl⟩
        · exact Below.refl _ _
        · exact Lib.bytesWorld_below _ _ _
      clear hw
      go_wp2_with fail
      refine (decimal_any v hv.1 hv.2 _ (HS.out.below hb)).mono ?_
      rintro e w3 ⟨rfl, hb3⟩
      go_wp2_with fail
      go_ret2
      exact ⟨rfl, hb.trans (hb3.mono hb.size)⟩
    · have hne := bytes_ne he
      simp only [if_neg he]
      go_enter Tryd.func44, Tryd.ntmps44
      go_wp2_with fail
      refine hc.mono ?_
      rintro e w2 ⟨rfl, hw⟩
      have hb : Below w.heap.size w w2 := by
        rcases hw with rfl | ⟨t, rfl⟩
        · exact Below.refl _ _
        · exact Lib.bytesWorld_below _ _ _
      clear hw
      go_wp2_with fail
      refine (decimal_any v hv.1 hv.2 _ (HS.out.below hb)).mono ?_
      rintro e w3 ⟨rfl, hb3⟩
      go_wp2_with fail
      go_ret2
      exact ⟨rfl, hb.trans (hb3.mono hb.size)⟩
  | «syntax» =>
    obtain ⟨tp, p, hv⟩ := hs.es
    have hc := Tryd.strconv_ParseInt_10_at64_syntax s (by omega) hp _ w hv (.inr ⟨tp, p, rfl⟩)
    clear hp hs hv
    go_enter Tryd.func44, Tryd.ntmps44
    go_wp2_with fail
    refine hc.mono ?_
    rintro e w2 ⟨N, rfl, -, -, hb⟩
    go_wp2_with fail
    go_ret2
    exact ⟨rfl, hb⟩
  | range =>
    obtain ⟨tp, p, hv⟩ := hs.er
    have hc := Tryd.strconv_ParseInt_10_at64_range s (by omega) hp _ w hv (.inr ⟨tp, p, rfl⟩)
    clear hp hs hv
    obtain ⟨q, hq⟩ : ∃ q, Lib.intSat 64 s.data.toList = q := ⟨_, rfl⟩
    rw [hq] at hc
    clear hq
    go_enter Tryd.func44, Tryd.ntmps44
    go_wp2_with fail
    refine hc.mono ?_
    rintro e w2 ⟨N, rfl, -, -, hb⟩
    go_wp2_with fail
    go_ret2
    exact ⟨rfl, hb⟩
end Go.Proofs.YtbajmmgdnegoiaaDoor
