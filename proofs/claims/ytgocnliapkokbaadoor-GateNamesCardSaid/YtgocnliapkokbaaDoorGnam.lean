/- gate.Find, and the document's names. -/
import Derived.Test.YtgocnliapkokbaaDoorGlaid
import Derived.LoopTactic
import Derived.Deep.LoopGhost
import Derived.WalkKit
namespace Go.Proofs.YtgocnliapkokbaaDoor
open Go.ChangeShapes Go.WideShapes Go.ChangeAt Go.RowKit Kn
set_option linter.unusedVariables false
set_option linter.unusedSimpArgs false
theorem bytes_eqB (z s : ByteArray) : (z.toList == s.toList) = decide (z = s) := by
  rw [ByteArray.toList_eq, ByteArray.toList_eq]
  by_cases h : z = s
  · subst h; simp
  · rw [decide_eq_false h]
    simp only [beq_eq_false_iff_ne, ne_eq]
    exact fun e => h (bytes_inj e)
theorem bytes_ne {z s : ByteArray} (h : z ≠ s) : (z.toList == s.toList) = false := by rw [bytes_eqB]; exact decide_eq_false h
def FindR (n : Nat) (w : World) (s4 : Value) (wr : World) : Prop := ∃ k : Nat, k ≤ n ∧ s4 = .int .u8 ((k : Int) + 1) ∧ w = wr
set_option maxHeartbeats 4000000 in
/-- Found at the first place that bears it. -/
theorem gfind_yes (s : ByteArray) (n : Nat) (hn : n < 11) (hs : nmB n = s) (hne : ∀ j, j < n → nmB j ≠ s) (w : World) (hN : NamesAt w) :
    Calls Tryd.prog 22 #[.string s] w fun e w' => e = .returned (.tuple #[.int .u8 ((n : Int) + 1), .bool true]) ∧ w = w' := by
  have HS := Lib.hid hs
  have HNE := Lib.hid hne
  have HN := Lib.hid hN
  clear hs hne hN
  go_enter Tryd.func22, Tryd.ntmps22
  go_wp2_with fail
  go_loopw [4] (fun s4 wr => FindR n w s4 wr) (fun i _ => 12 - (intOf i).toNat)
  case atStart => exact ⟨0, Nat.zero_le _, rfl, rfl⟩
  case round =>
    obtain ⟨k, hk, rfl, rfl⟩ := hrel
    obtain ⟨m, hm⟩ : ∃ m : Int, (k : Int) + 1 = m := ⟨_, rfl⟩
    have m1 : m ≤ 11 := by omega
    have m2 : IntKind.u8.wrap (m + 1) = m + 1 := by
      have : IntKind.u8.wrap (m + 1) = (m + 1) % 256 := by simp [IntKind.wrap, IntKind.signed, IntKind.bits]
      rw [this]; omega
    have hc := gname_yes m k (by omega) hm.symm w HN.out
    rw [hm]
    obtain ⟨z, hz⟩ : ∃ z, nmB k = z := ⟨_, rfl⟩
    rw [hz] at hc
    have HZ := Lib.hid hz
    have HM := Lib.hid hm
    clear hz hm
    by_cases hkn : k = n
    · have hzs : z = s := by rw [← HZ.out, hkn]; exact HS.out
      subst hzs
      go_wp2_with fail
      refine hc.mono ?_
      rintro e w2 ⟨rfl, rfl⟩
      go_wp2_with fail
      go_ret2
      exact ⟨by rw [← hkn, HM.out]; rfl, rfl⟩
    · have hzs : z ≠ s := by rw [← HZ.out]; exact HNE.out k (by omega)
      have hzb : (z.toList == s.toList) = false := bytes_ne hzs
      go_wp2_with fail
      refine hc.mono ?_
      rintro e w2 ⟨rfl, rfl⟩
      go_wp2_with fail
      exact ⟨⟨k + 1, by omega, by have := HM.out; simp; omega, rfl⟩, by have := HM.out; simp [intOf]; omega⟩
set_option maxHeartbeats 4000000 in
theorem gfind_no (s : ByteArray) (hne : ∀ j, j < 11 → nmB j ≠ s) (w : World) (hN : NamesAt w) :
    Calls Tryd.prog 22 #[.string s] w fun e w' => e = .returned (.tuple #[.int .u8 0, .bool false]) ∧ w = w' := by
  have HNE := Lib.hid hne
  have HN := Lib.hid hN
  clear hne hN
  go_enter Tryd.func22, Tryd.ntmps22
  go_wp2_with fail
  go_loopw [4] (fun s4 wr => FindR 11 w s4 wr) (fun i _ => 12 - (intOf i).toNat)
  case atStart => exact ⟨0, Nat.zero_le _, rfl, rfl⟩
  case round =>
    obtain ⟨k, hk, rfl, rfl⟩ := hrel
    obtain ⟨m, hm⟩ : ∃ m : Int, (k : Int) + 1 = m := ⟨_, rfl⟩
    rw [hm]
    by_cases hk2 : k < 11
    · have m1 : m ≤ 11 := by omega
      have m2 : IntKind.u8.wrap (m + 1) = m + 1 := by
        have : IntKind.u8.wrap (m + 1) = (m + 1) % 256 := by simp [IntKind.wrap, IntKind.signed, IntKind.bits]
        rw [this]; omega
      have hc := gname_yes m k (by omega) hm.symm w HN.out
      obtain ⟨z, hz⟩ : ∃ z, nmB k = z := ⟨_, rfl⟩
      rw [hz] at hc
      have hzs : z ≠ s := by rw [← hz]; exact HNE.out k hk2
      have hzb : (z.toList == s.toList) = false := bytes_ne hzs
      have HM := Lib.hid hm
      clear hz hm
      go_wp2_with fail
      refine hc.mono ?_
      rintro e w2 ⟨rfl, rfl⟩
      go_wp2_with fail
      exact ⟨⟨k + 1, by omega, by have := HM.out; simp; omega, rfl⟩, by have := HM.out; simp [intOf]; omega⟩
    · have m1 : ¬ m ≤ 11 := by omega
      clear hm
      go_wp2_with fail
      go_ret2
      exact ⟨rfl, rfl⟩
def findN (s : ByteArray) : Nat := (((List.range 11).find? fun j => decide (nmB j = s)).map (· + 1)).getD 0
theorem nmB_ne : ∀ i, i < 11 → ∀ j, j < 11 → nmB i = nmB j → i = j := by decide +kernel
theorem findN_yes {s : ByteArray} {n : Nat} (hn : n < 11) (hs : nmB n = s) : findN s = n + 1 := by
  subst hs
  have : ∀ n, n < 11 → findN (nmB n) = n + 1 := by decide +kernel
  exact this n hn
theorem findN_no {s : ByteArray} (h : ∀ j, j < 11 → nmB j ≠ s) : findN s = 0 := by
  unfold findN
  rw [List.find?_eq_none.2 (fun j hj => by simp; exact h j (List.mem_range.1 hj))]
  rfl
theorem findN_or (s : ByteArray) : (∃ n, n < 11 ∧ nmB n = s) ∨ ∀ j, j < 11 → nmB j ≠ s := by
  by_cases h : ∃ n, n < 11 ∧ nmB n = s
  · exact .inl h
  · exact .inr fun j hj e => h ⟨j, hj, e⟩
theorem findN_le (s : ByteArray) : findN s ≤ 11 := by
  rcases findN_or s with ⟨n, hn, hs⟩ | h
  · rw [findN_yes hn hs]; omega
  · rw [findN_no h]; omega
theorem gfind_any (s : ByteArray) (w : World) (hN : NamesAt w) :
    Calls Tryd.prog 22 #[.string s] w fun e w' => e = .returned (.tuple #[.int .u8 (findN s : Int), .bool (decide (findN s > 0))]) ∧ w = w' := by
  rcases findN_or s with ⟨n, hn, hs⟩ | h
  · refine (gfind_yes s n hn hs (fun j hj e => ?_) w hN).mono ?_
    · have := nmB_ne j (by omega) n hn (e.trans hs.symm); omega
    · rintro e w2 ⟨rfl, rfl⟩
      rw [findN_yes hn hs]
      exact ⟨by simp, rfl⟩
  · refine (gfind_no s h w hN).mono ?_
    rintro e w2 ⟨rfl, rfl⟩
    rw [findN_no h]
    exact ⟨by simp, rfl⟩
set_option maxHeartbeats 4000000 in
theorem rnames_any (w : World) :
    Calls Tryd.prog 21 #[] w fun e w' => e = .returned (.slice (some ⟨w.heap.size, 0, none⟩) 11 11) ∧ w' = w.alloc (.cells #[.string ⟨#[97, 100, 109, 105, 116, 116, 101, 100]⟩, .string ⟨#[105, 110, 118, 97, 108, 105, 100]⟩, .string ⟨#[101, 120, 112, 105, 114, 101, 100]⟩, .string ⟨#[99, 117, 116, 111, 102, 102]⟩, .string ⟨#[102, 117, 108, 108]⟩, .string ⟨#[100, 114, 97, 105, 110, 105, 110, 103]⟩, .string ⟨#[100, 105, 115, 112, 97, 116, 99, 104, 101, 100]⟩, .string ⟨#[101, 109, 112, 116, 121]⟩, .string ⟨#[99, 108, 111, 115, 101, 100]⟩, .string ⟨#[100, 111, 110, 101]⟩, .string ⟨#[98, 117, 115, 121]⟩] 9) := by
  go_enter Tryd.func21, Tryd.ntmps21
  go_wp2_with fail
  go_ret
  exact ⟨rfl, rfl⟩
theorem rnames_cell : ∀ k, k < 11 → (#[.string ⟨#[97, 100, 109, 105, 116, 116, 101, 100]⟩, .string ⟨#[105, 110, 118, 97, 108, 105, 100]⟩, .string ⟨#[101, 120, 112, 105, 114, 101, 100]⟩, .string ⟨#[99, 117, 116, 111, 102, 102]⟩, .string ⟨#[102, 117, 108, 108]⟩, .string ⟨#[100, 114, 97, 105, 110, 105, 110, 103]⟩, .string ⟨#[100, 105, 115, 112, 97, 116, 99, 104, 101, 100]⟩, .string ⟨#[101, 109, 112, 116, 121]⟩, .string ⟨#[99, 108, 111, 115, 101, 100]⟩, .string ⟨#[100, 111, 110, 101]⟩, .string ⟨#[98, 117, 115, 121]⟩] : Array Value)[k]? = some (.string (nmB k)) := by
  intro k hk
  match k, hk with
  | 0, _ => rfl
  | 1, _ => rfl
  | 2, _ => rfl
  | 3, _ => rfl
  | 4, _ => rfl
  | 5, _ => rfl
  | 6, _ => rfl
  | 7, _ => rfl
  | 8, _ => rfl
  | 9, _ => rfl
  | 10, _ => rfl
end Go.Proofs.YtgocnliapkokbaaDoor
