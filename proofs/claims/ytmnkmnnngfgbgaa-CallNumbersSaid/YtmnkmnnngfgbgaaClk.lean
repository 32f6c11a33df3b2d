/- The examples of layer 18. -/
import Derived.Test.YtmnkmnnngfgbgaaCli
namespace Go.Proofs.Ytmnkmnnngfgbgaa
open Go.RowKit Go.ChangeShapes Go.WideShapes Go.Deep
set_option linter.unusedVariables false
set_option linter.unusedSimpArgs false
theorem enc_m1 : encN (-1) = [1] := by unfold encN; rw [encU_small (by decide)]; rfl
theorem enc_64 : encN 64 = [128, 1] := by
  unfold encN
  have h : unz 64 = 128 := by decide
  rw [h, encU_big (by decide), encU_small (by decide)]; rfl
/-- A number behind nothing. -/
theorem number_nil (n : Int) (w : World) (hn0 : -9223372036854775808 ≤ n) (hn1 : n ≤ 9223372036854775807) : Calls Try.prog 9 #[.slice none 0 0, .int .i64 n] w (NewP w (encN n)) := by
  refine (number_any (base := w.heap.size) (L := []) w (spare_nil w) (.inl (OwK.nil_ _ _ _ _)) (Nat.le_refl _) (by simp) hn0 hn1).mono ?_
  rintro e w' ⟨v', rfl, hg, ho⟩
  exact ⟨v', rfl, ho, hg.below⟩
theorem rd_one {w : World} {g : Nat} {z : Int} {B : Nat} (h : Blk w g 5 #[.int .u8 z]) (hb : g < B) : RdK .u8 w B (some ⟨g, 0, none⟩) [z] := RdK.of_blk (L := [z]) h hb
theorem rd_two {w : World} {g : Nat} {z y : Int} {B : Nat} (h : Blk w g 5 #[.int .u8 z, .int .u8 y]) (hb : g < B) : RdK .u8 w B (some ⟨g, 0, none⟩) [z, y] := RdK.of_blk (L := [z, y]) h hb
set_option maxHeartbeats 4000000 in
theorem lawake (w : World) : Calls Try.prog 7 #[] w fun e w' => e = .returned (.bool true) ∧ Below w.heap.size w w' := by
  go_enter Try.func7, Try.ntmps7
  go_wp2_with fail
  refine (number_nil (-1) _ (by decide) (by decide)).mono ?_
  rintro e w1 ⟨v1, rfl, ho1, hb1⟩
  rw [enc_m1] at ho1
  obtain ⟨A1, c1, rfl, _, _, hr1, _⟩ := ho1.rd
  have HR1 := Lib.hid hr1
  have HB1 := Lib.hid hb1
  clear hr1 hb1 ho1
  go_wp2_with fail
  refine (equal_yes (L := [1]) (HR1.out.below ((Below.refl _ _).alloc (Nat.le_refl _) _)) (rd_one (B := w1.heap.size + 1) (Blk.made _ _ _) (Nat.lt_succ_self _))).mono ?_
  rintro e w2 ⟨rfl, rfl⟩
  have HB2 := Lib.hid (HB1.out.alloc HB1.out.size (.cells #[.int .u8 1] 5))
  obtain ⟨W2, hW2⟩ : ∃ W, w1.alloc (.cells #[.int .u8 1] 5) = W := ⟨_, rfl⟩
  rw [hW2] at HB2 ⊢
  clear hW2
  go_wp2_with fail
  refine (number_nil 64 _ (by decide) (by decide)).mono ?_
  rintro e w3 ⟨v3, rfl, ho3, hb3⟩
  rw [enc_64] at ho3
  obtain ⟨A3, c3, rfl, _, _, hr3, _⟩ := ho3.rd
  have HR3 := Lib.hid hr3
  have HB3 := Lib.hid (HB2.out.trans (hb3.mono HB2.out.size))
  clear hr3 hb3 ho3
  go_wp2_with fail
  refine (equal_yes (L := [128, 1]) (HR3.out.below ((Below.refl _ _).alloc (Nat.le_refl _) _)) (rd_two (B := w3.heap.size + 1) (Blk.made _ _ _) (Nat.lt_succ_self _))).mono ?_
  rintro e w4 ⟨rfl, rfl⟩
  have HB4 := Lib.hid (HB3.out.alloc HB3.out.size (.cells #[.int .u8 128, .int .u8 1] 5))
  go_wp2
  go_ret
  exact ⟨rfl, HB4.out⟩
section
variable {H : Type} {enc : TypeId × Value → H} {w : World}
/-- Bytes that come in. -/
theorem open_u8n {fuel : Nat} {A : Option Addr} {len cap : Nat} {x : DataW H × List MemPlace} (h : DataW.trod enc Try.prog w 0 (fun _ => true) true fuel 22 [.slice A len cap] = some x) :
    len ≤ cap ∧ cap ≤ maxLen ∧ ∃ K : Nat → Int, SeqAt w w.heap.size A len 1 (fun i => [.int .u8 (K i)]) ∧ ((∀ i, 0 ≤ K i ∧ K i ≤ 255) ∧ (A = none → cap = 0)) := by
  obtain ⟨h1, h2, K, h3, h4⟩ := open_u8s h
  refine ⟨h1, h2, K, h3, h4, ?_⟩
  rcases open_slice Try.underlying22 h with ⟨hs, _⟩ | ⟨a, len', cap', m, n, D, Pl, hcs, _⟩
  · simp only [List.cons.injEq, Value.slice.injEq, and_true] at hs
    exact fun _ => hs.2.2
  · simp only [List.cons.injEq, Value.slice.injEq, and_true] at hcs
    intro hn; rw [hn] at hcs; cases hcs.1
end
/-- The first m of the bytes that come in. -/
def takeI (K : Nat → Int) (m : Nat) : List Int := (List.range m).map K
theorem takeI_len (K : Nat → Int) (m : Nat) : (takeI K m).length = m := by simp [takeI]
theorem rd_takeI {w : World} {B len m : Nat} {A : Option Addr} {K : Nat → Int} (h : SeqAt w B A len 1 (fun i => [.int .u8 (K i)])) (hm : m ≤ len) : RdK .u8 w B A (takeI K m) := fun hl => by
  rw [takeI_len] at hl
  obtain ⟨b, off, e, hb, hc⟩ := h (by omega)
  refine ⟨b, off, e, hb, fun i x hx => ?_⟩
  have hi : i < m := by
    rcases Nat.lt_or_ge i m with h | h
    · exact h
    · rw [List.getElem?_eq_none (by rw [takeI_len]; exact h)] at hx; cases hx
  have h1 := hc i (by omega) 0 (by omega)
  have h2 : (takeI K m)[i]? = some (K i) := by simp [takeI, hi]
  rw [h2] at hx
  injection hx with hx
  rw [← hx]
  simpa using h1
theorem RdK.add0 {k : IntKind} {w : World} {B c : Nat} {A : Option Addr} {L : List Int} (h : RdK k w B A L) : RdK k w B (if c = 0 then A else A.map (·.add 0)) L := fun hl => by
  obtain ⟨b, off, e, hb, hc⟩ := h hl
  split
  · exact ⟨b, off, e, hb, hc⟩
  · exact ⟨b, off, by rw [e, Option.map_some, add_at, Nat.add_zero], hb, hc⟩
theorem none_add0 {c : Nat} {A : Option Addr} (h : A = none → c = 0) : (if c = 0 then A else A.map (·.add 0)) = none → c = 0 := by
  split
  · intro _; assumption
  · intro h2; cases A with
    | none => exact h rfl
    | some a => cases h2
end Go.Proofs.Ytmnkmnnngfgbgaa
