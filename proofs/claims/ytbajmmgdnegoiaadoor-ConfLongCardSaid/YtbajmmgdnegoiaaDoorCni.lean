/- A field is found; a number is read and written. -/
import Derived.Test.YtbajmmgdnegoiaaDoorCnh
import Derived.Test.YtbajmmgdnegoiaaDoorShelf
import Derived.LoopTactic
import Derived.Deep.LoopGhost
namespace Go.Proofs.YtbajmmgdnegoiaaDoor
open Go.ChangeShapes Go.WideShapes Go.ChangeAt Go.RowKit Kn
set_option linter.unusedVariables false
set_option linter.unusedSimpArgs false
theorem bytes_eqB (z s : ByteArray) : (z.toList == s.toList) = decide (z = s) := by
  rw [ByteArray.toList_eq, ByteArray.toList_eq]
  by_cases h : z = s
  · subst h; simp
  · rw [decide_eq_false h]
    simp only [beq_eq_false_iff_ne, ne_eq]
    exact fun e => h (bytes_inj e)
theorem bytes_ne {z s : ByteArray} (h : z ≠ s) : (z.toList == s.toList) = false := by rw [bytes_eqB]; exact decide_eq_false h
theorem fnm_ne : ∀ i, i < 16 → ∀ j, j < 16 → fnm i = fnm j → i = j := by decide +kernel
section
variable {w w' : World} {gf gc : Nat} {bx : Nat → Nat} {sn : Nat → Bool}
theorem FlAt.name (h : FlAt w gf gc bx sn) {i : Nat} (hi : i < 16) : w.cell? ⟨gf, i * 4, none⟩ = some (.string (fnm i)) := by
  obtain ⟨cs, hb, hc⟩ := h.rows
  exact hb.val (hc i hi 0 (by omega))
theorem FlAt.read (h : FlAt w gf gc bx sn) {i : Nat} (hi : i < 16) : w.cell? ⟨gf, i * 4 + 1, none⟩ = some (.func (.func (fr1 i)) #[] #[.pointer (some ⟨bx i, 0, none⟩)]) := by
  obtain ⟨cs, hb, hc⟩ := h.rows
  exact hb.val (hc i hi 1 (by omega))
theorem FlAt.write (h : FlAt w gf gc bx sn) {i : Nat} (hi : i < 16) : w.cell? ⟨gf, i * 4 + 2, none⟩ = some (.func (.func (fr2 i)) #[] #[.pointer (some ⟨bx i, 0, none⟩)]) := by
  obtain ⟨cs, hb, hc⟩ := h.rows
  exact hb.val (hc i hi 2 (by omega))
theorem FlAt.seen (h : FlAt w gf gc bx sn) {i : Nat} (hi : i < 16) : w.cell? ⟨gf, i * 4 + 3, none⟩ = some (.bool (sn i)) := by
  obtain ⟨cs, hb, hc⟩ := h.rows
  exact hb.val (hc i hi 3 (by omega))
theorem FlAt.below (h : FlAt w gf gc bx sn) (hb : Below w.heap.size w w') : FlAt w' gf gc bx sn := by
  obtain ⟨cs, hr, hc⟩ := h.rows
  exact ⟨⟨cs, hr.below_ hb hr.size, hc⟩, fun i hi => (h.boxes i hi).below_ hb (h.boxes i hi).size⟩
end
def FndR (w : World) (n : Nat) (s8 : Value) (wr : World) : Prop := ∃ k : Nat, k ≤ n ∧ s8 = .int .i64 (k : Int) ∧ w = wr
set_option maxHeartbeats 4000000 in
theorem find_yes (gf gc : Nat) (bx : Nat → Nat) (sn : Nat → Bool) (s : ByteArray) (n : Nat) (hn : n < 16) (hs : fnm n = s) (w : World) (h : FlAt w gf gc bx sn) :
    Calls Tryd.prog 45 #[.slice (some ⟨gf, 0, none⟩) 16 16, .string s] w fun e w' => e = .returned (.pointer (some ⟨gf, n * 4, none⟩)) ∧ w = w' := by
  have HS := Lib.hid hs
  have H := Lib.hid h
  clear hs h
  go_enter Tryd.func45, Tryd.ntmps45
  go_wp2_with fail
  go_loopw [8] (fun s8 wr => FndR w n s8 wr) (fun i _ => 17 - (intOf i).toNat)
  case atStart => exact ⟨0, Nat.zero_le _, rfl, rfl⟩
  case round =>
    obtain ⟨k, hk, rfl, rfl⟩ := hrel
    have c0 := H.out.name (i := k) (by omega)
    obtain ⟨z, hz⟩ : ∃ z, fnm k = z := ⟨_, rfl⟩
    rw [hz] at c0
    have k0 : (0 : Int) ≤ (k : Int) := by omega
    have k1 : (k : Int) < 16 := by omega
    have HZ := Lib.hid hz
    clear hz
    by_cases hkn : k = n
    · subst hkn
      have hzs : z = s := by rw [← HZ.out]; exact HS.out
      subst hzs
      go_wp2_with fail
      go_ret
      exact ⟨rfl, rfl⟩
    · have hzs : z ≠ s := by
        rw [← HZ.out, ← HS.out]
        exact fun e => hkn (fnm_ne k (by omega) n hn e)
      have hzb := bytes_ne hzs
      go_wp2_with fail
      first | (go_roundw; case rel => exact ⟨k + 1, by omega, by go_num, rfl⟩; case measure => simp [intOf]; omega) | exact ⟨⟨k + 1, by omega, by go_num, rfl⟩, by simp [intOf]; omega⟩
set_option maxHeartbeats 4000000 in
theorem find_no (gf gc : Nat) (bx : Nat → Nat) (sn : Nat → Bool) (s : ByteArray) (hs : ∀ n, n < 16 → fnm n ≠ s) (w : World) (h : FlAt w gf gc bx sn) :
    Calls Tryd.prog 45 #[.slice (some ⟨gf, 0, none⟩) 16 16, .string s] w fun e w' => e = .returned (.pointer none) ∧ w = w' := by
  have HS := Lib.hid hs
  have H := Lib.hid h
  clear hs h
  go_enter Tryd.func45, Tryd.ntmps45
  go_wp2_with fail
  go_loopw [8] (fun s8 wr => FndR w 16 s8 wr) (fun i _ => 17 - (intOf i).toNat)
  case atStart => exact ⟨0, Nat.zero_le _, rfl, rfl⟩
  case round =>
    obtain ⟨k, hk, rfl, rfl⟩ := hrel
    by_cases hk2 : k < 16
    · have c0 := H.out.name (i := k) (by omega)
      obtain ⟨z, hz⟩ : ∃ z, fnm k = z := ⟨_, rfl⟩
      rw [hz] at c0
      have k0 : (0 : Int) ≤ (k : Int) := by omega
      have k1 : (k : Int) < 16 := by omega
      have hzs : z ≠ s := by rw [← hz]; exact HS.out k hk2
      have hzb := bytes_ne hzs
      clear hz
      go_wp2_with fail
      first | (go_roundw; case rel => exact ⟨k + 1, by omega, by go_num, rfl⟩; case measure => simp [intOf]; omega) | exact ⟨⟨k + 1, by omega, by go_num, rfl⟩, by simp [intOf]; omega⟩
    · obtain rfl : k = 16 := by omega
      go_wp2_with fail
      go_ret
      exact ⟨rfl, rfl⟩
end Go.Proofs.YtbajmmgdnegoiaaDoor
