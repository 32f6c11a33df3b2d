/- What a line says, in one; a text is parsed. -/
import Derived.Test.YtbajmmgdnegoiaaDoorCnm
import Derived.Test.YtbajmmgdnegoiaaDoorCnv
import Derived.ScopeJumps
namespace Go.Proofs.YtbajmmgdnegoiaaDoor
open Go.ChangeShapes Go.WideShapes Go.ChangeAt Go.RowKit Kn
set_option linter.unusedVariables false
set_option linter.unusedSimpArgs false
/-- A line's error, and what it leaves. -/
def applyE (s : ByteArray) (sn : Nat → Bool) (v : Nat → Int) : Int × (Nat → Bool) × (Nat → Int) :=
  if noteL s then (0, sn, v) else match fidx (cutAt s 32).1, numB (cutAt s 32).2.1 with
    | some i, some n => if sn i then (2, sn, v) else (0, setB sn i true, setI v i n)
    | _, _ => (9, sn, v)
theorem fr2_or : ∀ i, i < 16 → fr2 i = 48 ∨ fr2 i = 50 ∨ fr2 i = 52 := by decide +kernel
section
variable {gf gc : Nat} {bx : Nat → Nat} {sn : Nat → Bool} {v : Nat → Int}
theorem apply_any (s : ByteArray) (hl : s.size ≤ 1000000) (w : World) (hs : Std w) (h : PAt w gf gc bx sn v) :
    Calls Tryd.prog 34 #[.string s, .slice (some ⟨gf, 0, none⟩) 16 16] w fun e w' => e = .returned (.int .i64 (applyE s sn v).1) ∧ PAt w' gf gc bx (applyE s sn v).2.1 (applyE s sn v).2.2 ∧ Kept (fun g => g = gf ∨ g = gc) w w' := by
  cases hn : noteL s with
  | true =>
    have hr : applyE s sn v = (0, sn, v) := by unfold applyE; simp [hn]
    rw [hr]
    refine (apply_note s hn w).mono ?_
    rintro e w2 ⟨rfl, rfl⟩
    exact ⟨rfl, h, Kept.refl _ _⟩
  | false =>
    obtain ⟨⟨nm, ds, d⟩, hc⟩ : ∃ p, cutAt s 32 = p := ⟨_, rfl⟩
    cases hi : fidx nm with
    | none =>
      have hr : applyE s sn v = (9, sn, v) := by unfold applyE; simp [hn, hc, hi]
      rw [hr]
      refine (apply_noname s nm ds d hn hc hi hl w hs h).mono ?_
      rintro e w2 ⟨rfl, hb⟩
      exact ⟨rfl, h.below hb, Kept.of_below hb⟩
    | some i =>
      cases hz : numB ds with
      | none =>
        have hr : applyE s sn v = (9, sn, v) := by unfold applyE; simp [hn, hc, hi, hz]
        rw [hr]
        refine (apply_nonum s nm ds d i hn hc hi hz hl w hs h).mono ?_
        rintro e w2 ⟨rfl, hb⟩
        exact ⟨rfl, h.below hb, Kept.of_below hb⟩
      | some n =>
        cases hsn : sn i with
        | true =>
          have hr : applyE s sn v = (2, sn, v) := by unfold applyE; simp [hn, hc, hi, hz, hsn]
          rw [hr]
          refine (apply_again s nm ds d i n hn hc hi hz hsn hl w hs h).mono ?_
          rintro e w2 ⟨rfl, hb⟩
          exact ⟨rfl, h.below hb, Kept.of_below hb⟩
        | false =>
          have hr : applyE s sn v = (0, setB sn i true, setI v i n) := by unfold applyE; simp [hn, hc, hi, hz, hsn]
          rw [hr]
          rcases fr2_or i (fidx_some hi).1 with hk | hk | hk
          · exact apply_set0 s nm ds d i n hk hn hc hi hz hsn hl w hs h
          · exact apply_set1 s nm ds d i n hk hn hc hi hz hsn hl w hs h
          · exact apply_set2 s nm ds d i n hk hn hc hi hz hsn hl w hs h
end
/-- All lines from here on: the first error, or what they leave. -/
def linesE : Nat → ByteArray → (Nat → Bool) → (Nat → Int) → Int × (Nat → Int)
  | 0, _, _, v => (0, v)
  | f + 1, s, sn, v =>
    if (applyE (cutAt s 10).1 sn v).1 = 0 then
      if (cutAt s 10).2.2 then linesE f (cutAt s 10).2.1 (applyE (cutAt s 10).1 sn v).2.1 (applyE (cutAt s 10).1 sn v).2.2
      else (0, (applyE (cutAt s 10).1 sn v).2.2)
    else ((applyE (cutAt s 10).1 sn v).1, v)
theorem cut_less {s : ByteArray} {c : UInt8} (h : (cutAt s c).2.2 = true) : (cutAt s c).2.1.size < s.size := by
  unfold cutAt at h ⊢
  split at h
  · cases h
  · rename_i hne
    rw [if_neg hne]
    have h1 := Lib.indexByte_ge s.data.toList c
    obtain ⟨i, hi⟩ : ∃ i : Nat, Lib.indexByte s.data.toList c = (i : Int) := ⟨(Lib.indexByte s.data.toList c).toNat, by omega⟩
    have h2 := (Lib.indexByte_some hi).1
    have h3 : i < s.size := by
      have := (List.getElem?_eq_some_iff.1 h2).1
      simpa using this
    show (s.extract _ s.size).size < s.size
    rw [ByteArray.size_extract]
    omega
theorem lines_more : ∀ (f f' : Nat) (s : ByteArray) (sn : Nat → Bool) (v : Nat → Int), s.size < f → s.size < f' → linesE f s sn v = linesE f' s sn v
  | 0, _, _, _, _, h, _ => absurd h (Nat.not_lt_zero _)
  | _ + 1, 0, _, _, _, _, h => absurd h (Nat.not_lt_zero _)
  | f + 1, f' + 1, s, sn, v, h, h' => by
    unfold linesE
    split
    · split
      · rename_i hm
        have := cut_less hm
        exact lines_more f f' _ _ _ (by omega) (by omega)
      · rfl
    · rfl
def dfv (i : Nat) : Int := [4, 64, 5, 100, 50, 10, 20, 1000, 2147483648, 4294967296, 1073741824, 0, 1099511627776, 64, 4, 4].getD i 0
def cfOf (v : Nat → Int) : Cf := ⟨v 0, v 1, v 2, v 3, v 4, v 5, v 6, v 7, v 8, v 9, v 10, v 11, v 12, v 13, v 14, v 15⟩
/-- A text's error. -/
def parseE (s : ByteArray) : Int := if 20000 < s.size then 7 else
  if (linesE (s.size + 1) s (fun _ => false) dfv).1 = 0 then validE (cfOf (linesE (s.size + 1) s (fun _ => false) dfv).2) else (linesE (s.size + 1) s (fun _ => false) dfv).1
def parseV (s : ByteArray) : Cf := if parseE s = 0 then cfOf (linesE (s.size + 1) s (fun _ => false) dfv).2 else ⟨0, 0, 0, 0, 0, 0, 0, 0, 0, 0, 0, 0, 0, 0, 0, 0⟩
end Go.Proofs.YtbajmmgdnegoiaaDoor
