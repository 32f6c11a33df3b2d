/- The row of fields. -/
import Derived.Test.YtbajmmgdnegoiaaDoorCng
import Derived.Deep.DeepCutAuto
import Derived.Deep.RegionHeld3
import Derived.BigRegion
import Derived.RegionTactic
import Derived.WalkSpells
namespace Go.Proofs.YtbajmmgdnegoiaaDoor
open Go.ChangeShapes Go.WideShapes Go.ChangeAt Go.RowKit Kn
set_option linter.unusedVariables false
set_option linter.unusedSimpArgs false
theorem Bxs.join {v w w' : World} {L M : List Bx1} (h : Bxs v w L) (k : Bxs w w' M) : Bxs v w' (L ++ M) := by
  have hL : ∀ i g T l, L[i]? = some (g, T, l) → g < w.heap.size := fun i g T l e => (h.bl i g T l e).size
  have cut : ∀ i g T l, (L ++ M)[i]? = some (g, T, l) → (i < L.length ∧ L[i]? = some (g, T, l)) ∨ (L.length ≤ i ∧ M[i - L.length]? = some (g, T, l)) := by
    intro i g T l e
    by_cases c : i < L.length
    · rw [List.getElem?_append_left c] at e; exact .inl ⟨c, e⟩
    · rw [List.getElem?_append_right (by omega)] at e; exact .inr ⟨by omega, e⟩
  refine ⟨fun i g T l e => ?_, fun i g T l e => ?_, fun i j g T l g' T' l' e e' hij => ?_, h.be.trans (k.be.mono h.be.size)⟩
  · rcases cut i g T l e with ⟨-, e1⟩ | ⟨-, e1⟩
    · exact (h.below k.be).bl i g T l e1
    · exact k.bl _ g T l e1
  · rcases cut i g T l e with ⟨-, e1⟩ | ⟨-, e1⟩
    · exact h.lo i g T l e1
    · exact Nat.le_trans h.be.size (k.lo _ g T l e1)
  · rcases cut i g T l e with ⟨c1, e1⟩ | ⟨c1, e1⟩ <;> rcases cut j g' T' l' e' with ⟨c2, e2⟩ | ⟨c2, e2⟩
    · exact h.ne i j g T l g' T' l' e1 e2 hij
    · have h1 := hL i g T l e1; have h2 := k.lo _ g' T' l' e2; omega
    · have h1 := hL j g' T' l' e2; have h2 := k.lo _ g T l e1; omega
    · exact k.ne _ _ g T l g' T' l' e1 e2 (by omega)
def fnm (i : Nat) : ByteArray := [⟨#[116, 105, 101, 114, 115]⟩, ⟨#[114, 111, 111, 109]⟩, ⟨#[116, 97, 114, 103, 101, 116]⟩, ⟨#[105, 110, 116, 101, 114, 118, 97, 108]⟩, ⟨#[104, 105, 103, 104]⟩, ⟨#[108, 111, 119]⟩, ⟨#[100, 119, 101, 108, 108]⟩, ⟨#[104, 111, 114, 105, 122, 111, 110]⟩, ⟨#[115, 101, 116, 112, 111, 105, 110, 116]⟩, ⟨#[107, 112]⟩, ⟨#[107, 105]⟩, ⟨#[107, 100]⟩, ⟨#[108, 105, 109, 105, 116]⟩, ⟨#[115, 116, 101, 112]⟩, ⟨#[116, 104, 114, 101, 97, 100, 115]⟩, ⟨#[114, 105, 110, 103]⟩].getD i ⟨#[]⟩
def fkd (i : Nat) : Nat := [0, 0, 1, 1, 1, 1, 1, 1, 2, 2, 2, 2, 2, 1, 0, 0].getD i 0
def fr1 (i : Nat) : Nat := [47, 49, 51].getD (fkd i) 0
def fr2 (i : Nat) : Nat := [48, 50, 52].getD (fkd i) 0
def fpt (i : Nat) : Nat := [78, 80, 82].getD (fkd i) 0
def rowF (i b : Nat) (s : Bool) : List Value := [.string (fnm i), .func (.func (fr1 i)) #[] #[.pointer (some ⟨b, 0, none⟩)], .func (.func (fr2 i)) #[] #[.pointer (some ⟨b, 0, none⟩)], .bool s]
/-- The fields, as they lie. -/
structure FlAt (w : World) (gf gc : Nat) (bx : Nat → Nat) (sn : Nat → Bool) : Prop where
  rows : ∃ cs, Blk w gf 67 cs ∧ ∀ i, i < 16 → ∀ j, j < 4 → cs[i * 4 + j]? = (rowF i (bx i) (sn i))[j]?
  boxes : ∀ i, i < 16 → Blk w (bx i) (fpt i) #[.pointer (some ⟨gc, i, none⟩)]
theorem fields_made (w w' : World) (gc gf b0 b1 b2 b3 b4 b5 b6 b7 b8 b9 b10 b11 b12 b13 b14 b15 : Nat) (h : Bxs w w' [(b0, 78, [.pointer (some ⟨gc, 0, none⟩)]), (b1, 78, [.pointer (some ⟨gc, 1, none⟩)]), (b2, 80, [.pointer (some ⟨gc, 2, none⟩)]), (b3, 80, [.pointer (some ⟨gc, 3, none⟩)]), (b4, 80, [.pointer (some ⟨gc, 4, none⟩)]), (b5, 80, [.pointer (some ⟨gc, 5, none⟩)]), (b6, 80, [.pointer (some ⟨gc, 6, none⟩)]), (b7, 80, [.pointer (some ⟨gc, 7, none⟩)]), (b8, 82, [.pointer (some ⟨gc, 8, none⟩)]), (b9, 82, [.pointer (some ⟨gc, 9, none⟩)]), (b10, 82, [.pointer (some ⟨gc, 10, none⟩)]), (b11, 82, [.pointer (some ⟨gc, 11, none⟩)]), (b12, 82, [.pointer (some ⟨gc, 12, none⟩)]), (b13, 80, [.pointer (some ⟨gc, 13, none⟩)]), (b14, 78, [.pointer (some ⟨gc, 14, none⟩)]), (b15, 78, [.pointer (some ⟨gc, 15, none⟩)]), (gf, 67, [.string ⟨#[116, 105, 101, 114, 115]⟩, .func (.func 47) #[] #[.pointer (some ⟨b0, 0, none⟩)], .func (.func 48) #[] #[.pointer (some ⟨b0, 0, none⟩)], .bool false, .string ⟨#[114, 111, 111, 109]⟩, .func (.func 47) #[] #[.pointer (some ⟨b1, 0, none⟩)], .func (.func 48) #[] #[.pointer (some ⟨b1, 0, none⟩)], .bool false, .string ⟨#[116, 97, 114, 103, 101, 116]⟩, .func (.func 49) #[] #[.pointer (some ⟨b2, 0, none⟩)], .func (.func 50) #[] #[.pointer (some ⟨b2, 0, none⟩)], .bool false, .string ⟨#[105, 110, 116, 101, 114, 118, 97, 108]⟩, .func (.func 49) #[] #[.pointer (some ⟨b3, 0, none⟩)], .func (.func 50) #[] #[.pointer (some ⟨b3, 0, none⟩)], .bool false, .string ⟨#[104, 105, 103, 104]⟩, .func (.func 49) #[] #[.pointer (some ⟨b4, 0, none⟩)], .func (.func 50) #[] #[.pointer (some ⟨b4, 0, none⟩)], .bool false, .string ⟨#[108, 111, 119]⟩, .func (.func 49) #[] #[.pointer (some ⟨b5, 0, none⟩)], .func (.func 50) #[] #[.pointer (some ⟨b5, 0, none⟩)], .bool false, .string ⟨#[100, 119, 101, 108, 108]⟩, .func (.func 49) #[] #[.pointer (some ⟨b6, 0, none⟩)], .func (.func 50) #[] #[.pointer (some ⟨b6, 0, none⟩)], .bool false, .string ⟨#[104, 111, 114, 105, 122, 111, 110]⟩, .func (.func 49) #[] #[.pointer (some ⟨b7, 0, none⟩)], .func (.func 50) #[] #[.pointer (some ⟨b7, 0, none⟩)], .bool false, .string ⟨#[115, 101, 116, 112, 111, 105, 110, 116]⟩, .func (.func 51) #[] #[.pointer (some ⟨b8, 0, none⟩)], .func (.func 52) #[] #[.pointer (some ⟨b8, 0, none⟩)], .bool false, .string ⟨#[107, 112]⟩, .func (.func 51) #[] #[.pointer (some ⟨b9, 0, none⟩)], .func (.func 52) #[] #[.pointer (some ⟨b9, 0, none⟩)], .bool false, .string ⟨#[107, 105]⟩, .func (.func 51) #[] #[.pointer (some ⟨b10, 0, none⟩)], .func (.func 52) #[] #[.pointer (some ⟨b10, 0, none⟩)], .bool false, .string ⟨#[107, 100]⟩, .func (.func 51) #[] #[.pointer (some ⟨b11, 0, none⟩)], .func (.func 52) #[] #[.pointer (some ⟨b11, 0, none⟩)], .bool false, .string ⟨#[108, 105, 109, 105, 116]⟩, .func (.func 51) #[] #[.pointer (some ⟨b12, 0, none⟩)], .func (.func 52) #[] #[.pointer (some ⟨b12, 0, none⟩)], .bool false, .string ⟨#[115, 116, 101, 112]⟩, .func (.func 49) #[] #[.pointer (some ⟨b13, 0, none⟩)], .func (.func 50) #[] #[.pointer (some ⟨b13, 0, none⟩)], .bool false, .string ⟨#[116, 104, 114, 101, 97, 100, 115]⟩, .func (.func 47) #[] #[.pointer (some ⟨b14, 0, none⟩)], .func (.func 48) #[] #[.pointer (some ⟨b14, 0, none⟩)], .bool false, .string ⟨#[114, 105, 110, 103]⟩, .func (.func 47) #[] #[.pointer (some ⟨b15, 0, none⟩)], .func (.func 48) #[] #[.pointer (some ⟨b15, 0, none⟩)], .bool false])]) (hg : w.heap.size ≤ gf) (l0 : b0 < gf) (l1 : b1 < gf) (l2 : b2 < gf) (l3 : b3 < gf) (l4 : b4 < gf) (l5 : b5 < gf) (l6 : b6 < gf) (l7 : b7 < gf) (l8 : b8 < gf) (l9 : b9 < gf) (l10 : b10 < gf) (l11 : b11 < gf) (l12 : b12 < gf) (l13 : b13 < gf) (l14 : b14 < gf) (l15 : b15 < gf) : ∃ bx : Nat → Nat, (∀ i, i < 16 → w.heap.size ≤ bx i ∧ bx i < gf) ∧ FlAt w' gf gc bx (fun _ => false) ∧ Below w.heap.size w w' := by
  refine ⟨fun i => [b0, b1, b2, b3, b4, b5, b6, b7, b8, b9, b10, b11, b12, b13, b14, b15].getD i 0, ?_, ⟨⟨_, h.bl 16 _ _ _ rfl, ?_⟩, ?_⟩, h.be⟩
  · intro i hi
    match i, hi with
    | 0, _ => exact ⟨h.lo 0 _ _ _ rfl, l0⟩
    | 1, _ => exact ⟨h.lo 1 _ _ _ rfl, l1⟩
    | 2, _ => exact ⟨h.lo 2 _ _ _ rfl, l2⟩
    | 3, _ => exact ⟨h.lo 3 _ _ _ rfl, l3⟩
    | 4, _ => exact ⟨h.lo 4 _ _ _ rfl, l4⟩
    | 5, _ => exact ⟨h.lo 5 _ _ _ rfl, l5⟩
    | 6, _ => exact ⟨h.lo 6 _ _ _ rfl, l6⟩
    | 7, _ => exact ⟨h.lo 7 _ _ _ rfl, l7⟩
    | 8, _ => exact ⟨h.lo 8 _ _ _ rfl, l8⟩
    | 9, _ => exact ⟨h.lo 9 _ _ _ rfl, l9⟩
    | 10, _ => exact ⟨h.lo 10 _ _ _ rfl, l10⟩
    | 11, _ => exact ⟨h.lo 11 _ _ _ rfl, l11⟩
    | 12, _ => exact ⟨h.lo 12 _ _ _ rfl, l12⟩
    | 13, _ => exact ⟨h.lo 13 _ _ _ rfl, l13⟩
    | 14, _ => exact ⟨h.lo 14 _ _ _ rfl, l14⟩
    | 15, _ => exact ⟨h.lo 15 _ _ _ rfl, l15⟩
    | n + 16, hh => exact absurd hh (by omega)
  · intro i hi j hj
    match i, hi with
    | 0, _ => exact (match j, hj with | 0, _ => rfl | 1, _ => rfl | 2, _ => rfl | 3, _ => rfl)
    | 1, _ => exact (match j, hj with | 0, _ => rfl | 1, _ => rfl | 2, _ => rfl | 3, _ => rfl)
    | 2, _ => exact (match j, hj with | 0, _ => rfl | 1, _ => rfl | 2, _ => rfl | 3, _ => rfl)
    | 3, _ => exact (match j, hj with | 0, _ => rfl | 1, _ => rfl | 2, _ => rfl | 3, _ => rfl)
    | 4, _ => exact (match j, hj with | 0, _ => rfl | 1, _ => rfl | 2, _ => rfl | 3, _ => rfl)
    | 5, _ => exact (match j, hj with | 0, _ => rfl | 1, _ => rfl | 2, _ => rfl | 3, _ => rfl)
    | 6, _ => exact (match j, hj with | 0, _ => rfl | 1, _ => rfl | 2, _ => rfl | 3, _ => rfl)
    | 7, _ => exact (match j, hj with | 0, _ => rfl | 1, _ => rfl | 2, _ => rfl | 3, _ => rfl)
    | 8, _ => exact (match j, hj with | 0, _ => rfl | 1, _ => rfl | 2, _ => rfl | 3, _ => rfl)
    | 9, _ => exact (match j, hj with | 0, _ => rfl | 1, _ => rfl | 2, _ => rfl | 3, _ => rfl)
    | 10, _ => exact (match j, hj with | 0, _ => rfl | 1, _ => rfl | 2, _ => rfl | 3, _ => rfl)
    | 11, _ => exact (match j, hj with | 0, _ => rfl | 1, _ => rfl | 2, _ => rfl | 3, _ => rfl)
    | 12, _ => exact (match j, hj with | 0, _ => rfl | 1, _ => rfl | 2, _ => rfl | 3, _ => rfl)
    | 13, _ => exact (match j, hj with | 0, _ => rfl | 1, _ => rfl | 2, _ => rfl | 3, _ => rfl)
    | 14, _ => exact (match j, hj with | 0, _ => rfl | 1, _ => rfl | 2, _ => rfl | 3, _ => rfl)
    | 15, _ => exact (match j, hj with | 0, _ => rfl | 1, _ => rfl | 2, _ => rfl | 3, _ => rfl)
    | n + 16, hh => exact absurd hh (by omega)
  · intro i hi
    match i, hi with
    | 0, _ => exact h.bl 0 _ _ _ rfl
    | 1, _ => exact h.bl 1 _ _ _ rfl
    | 2, _ => exact h.bl 2 _ _ _ rfl
    | 3, _ => exact h.bl 3 _ _ _ rfl
    | 4, _ => exact h.bl 4 _ _ _ rfl
    | 5, _ => exact h.bl 5 _ _ _ rfl
    | 6, _ => exact h.bl 6 _ _ _ rfl
    | 7, _ => exact h.bl 7 _ _ _ rfl
    | 8, _ => exact h.bl 8 _ _ _ rfl
    | 9, _ => exact h.bl 9 _ _ _ rfl
    | 10, _ => exact h.bl 10 _ _ _ rfl
    | 11, _ => exact h.bl 11 _ _ _ rfl
    | 12, _ => exact h.bl 12 _ _ _ rfl
    | 13, _ => exact h.bl 13 _ _ _ rfl
    | 14, _ => exact h.bl 14 _ _ _ rfl
    | 15, _ => exact h.bl 15 _ _ _ rfl
    | n + 16, hh => exact absurd hh (by omega)
end Go.Proofs.YtbajmmgdnegoiaaDoor
