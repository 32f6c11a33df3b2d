/- A text is cut at a byte. -/
import Derived.Test.YtbajmmgdnegoiaaDoorCnk
import Derived.Lib.IndexLaws
import Derived.BigQuiet
import Derived.Deep.QuietTactic
namespace Go.Proofs.YtbajmmgdnegoiaaDoor
open Go.ChangeShapes Go.WideShapes Go.ChangeAt Go.RowKit Kn
set_option linter.unusedVariables false
set_option linter.unusedSimpArgs false
set_option maxHeartbeats 2000000 in
theorem slcut_no (s : ByteArray) (c : UInt8) (h : Lib.indexByte s.data.toList c = -1) (w : World) :
    Calls Tryd.prog 43 #[.string s, .string ⟨#[c]⟩] w fun e w' => e = .returned (.tuple #[.string s, .string ⟨#[]⟩, .bool false]) ∧ Below w.heap.size w w' := by
  have hc := Tryd.stringslite_Index_one s c w
  rw [h] at hc
  clear h
  go_enter Tryd.func43, Tryd.ntmps43
  go_wp2_with fail
  refine hc.mono ?_
  rintro e w2 ⟨rfl, rfl⟩
  go_wp2_with fail
  refine bodyPost_ret (v := .tuple #[.string s, .string ⟨#[]⟩, .bool false]) (by simp [results, Tryd.results43, go_sem, *]) rfl ⟨rfl, Below.refl _ _⟩
set_option maxHeartbeats 2000000 in
theorem slcut_yes (s : ByteArray) (c : UInt8) (i : Nat) (h : Lib.indexByte s.data.toList c = (i : Int)) (hi : i < s.size) (hs : s.size ≤ 1000000) (w : World) :
    Calls Tryd.prog 43 #[.string s, .string ⟨#[c]⟩] w fun e w' => e = .returned (.tuple #[.string (s.extract 0 i), .string (s.extract (i + 1) s.size), .bool true]) ∧ Below w.heap.size w w' := by
  have hc := Tryd.stringslite_Index_one s c w
  rw [h] at hc
  clear h
  have x1 : IntKind.i64.wrap ((i : Int) + 1) = (i : Int) + 1 := by rw [IntKind.wrap_i64]; omega
  have x2 : (0 : Int) ≤ (i : Int) := by omega
  have x3 : (i : Int) ≤ (s.size : Int) := by omega
  have x4 : (i : Int) + 1 ≤ (s.size : Int) := by omega
  have x5 : (0 : Int) ≤ (i : Int) + 1 := by omega
  go_enter Tryd.func43, Tryd.ntmps43
  go_wp2_with fail
  refine hc.mono ?_
  rintro e w2 ⟨rfl, rfl⟩
  go_wp2_with fail
  go_quiet (fail)
  go_wp2_with fail
  refine bodyPost_ret (v := .tuple #[.string (s.extract 0 i), .string (s.extract (i + 1) s.size), .bool true]) (by simp [results, Tryd.results43, go_sem, *]) rfl ⟨rfl, ((Bxs.nil_ _).drewN_ _).be⟩
/-- Where a text is cut. -/
def cutAt (s : ByteArray) (c : UInt8) : ByteArray × ByteArray × Bool := if Lib.indexByte s.data.toList c = -1 then (s, ⟨#[]⟩, false) else (s.extract 0 (Lib.indexByte s.data.toList c).toNat, s.extract ((Lib.indexByte s.data.toList c).toNat + 1) s.size, true)
theorem slcut_any (s : ByteArray) (c : UInt8) (hs : s.size ≤ 1000000) (w : World) :
    Calls Tryd.prog 43 #[.string s, .string ⟨#[c]⟩] w fun e w' => e = .returned (.tuple #[.string (cutAt s c).1, .string (cutAt s c).2.1, .bool (cutAt s c).2.2]) ∧ Below w.heap.size w w' := by
  unfold cutAt
  by_cases h : Lib.indexByte s.data.toList c = -1
  · rw [if_pos h]
    exact slcut_no s c h w
  · rw [if_neg h]
    have h1 := Lib.indexByte_ge s.data.toList c
    obtain ⟨i, hi⟩ : ∃ i : Nat, Lib.indexByte s.data.toList c = (i : Int) := ⟨(Lib.indexByte s.data.toList c).toNat, by omega⟩
    rw [hi, Int.toNat_natCast]
    have h2 := (Lib.indexByte_some hi).1
    have h3 : i < s.size := by
      have := (List.getElem?_eq_some_iff.1 h2).1
      simpa using this
    exact slcut_yes s c i hi h3 hs w
set_option maxHeartbeats 2000000 in
theorem scut_any (s : ByteArray) (c : UInt8) (hs : s.size ≤ 1000000) (w : World) :
    Calls Tryd.prog 33 #[.string s, .string ⟨#[c]⟩] w fun e w' => e = .returned (.tuple #[.string (cutAt s c).1, .string (cutAt s c).2.1, .bool (cutAt s c).2.2]) ∧ Below w.heap.size w w' := by
  have hc := slcut_any s c hs w
  obtain ⟨⟨a, b, d⟩, hp⟩ : ∃ p, cutAt s c = p := ⟨_, rfl⟩
  rw [hp] at hc ⊢
  clear hp
  go_enter Tryd.func33, Tryd.ntmps33
  go_wp2_with fail
  refine hc.mono ?_
  rintro e w2 ⟨rfl, hb⟩
  go_wp2_with fail
  refine bodyPost_ret (v := .tuple #[.string a, .string b, .bool d]) (by simp [results, Tryd.results33, go_sem, *]) rfl ⟨rfl, hb⟩
end Go.Proofs.YtbajmmgdnegoiaaDoor
