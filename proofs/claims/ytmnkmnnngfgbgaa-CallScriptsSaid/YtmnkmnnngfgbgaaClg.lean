/- A number read of its bytes: by the program. -/
import Derived.Test.YtmnkmnnngfgbgaaClf
import Derived.Laws.Bits64b
namespace Go.Proofs.Ytmnkmnnngfgbgaa
open Go.RowKit Go.ChangeShapes Go.WideShapes Go.Deep
set_option linter.unusedVariables false
set_option linter.unusedSimpArgs false
/-- What has been read, at byte i: acc; what is left: v. -/
structure ReAt (u0 i acc v : Nat) : Prop where
  eq : acc + v * 128 ^ i = u0
  lt : acc < 128 ^ i
  dr : (encU u0).drop i = encU v
  ln : i + (encU v).length = (encU u0).length
  po : i = 0 ∨ 1 ≤ v
theorem ReAt.start (u0 : Nat) : ReAt u0 0 0 u0 := ⟨by simp, by simp, rfl, by simp, .inl rfl⟩
theorem ReAt.next {u0 i acc v : Nat} (h : ReAt u0 i acc v) (hv : ¬ v < 128) : ReAt u0 (i + 1) (acc + v % 128 * 128 ^ i) (v / 128) := by
  have e := encU_big hv
  refine ⟨?_, ?_, ?_, ?_, .inr (by omega)⟩
  · have h1 := h.eq
    have h2 : v = v % 128 + v / 128 * 128 := by omega
    rw [Nat.pow_succ]
    have h3 : v / 128 * (128 ^ i * 128) = v / 128 * 128 * 128 ^ i := by rw [Nat.mul_comm (128 ^ i) 128, Nat.mul_assoc]
    rw [h3, Nat.add_assoc, ← Nat.add_mul, ← h2]
    exact h1
  · have h1 := h.lt
    have h2 : v % 128 < 128 := Nat.mod_lt _ (by omega)
    rw [Nat.pow_succ]
    have h3 : (v % 128 + 1) * 128 ^ i ≤ 128 * 128 ^ i := Nat.mul_le_mul_right _ h2
    rw [Nat.add_mul, Nat.one_mul] at h3
    rw [Nat.mul_comm (128 ^ i) 128]
    omega
  · rw [← List.drop_drop, h.dr, e]; rfl
  · have := h.ln
    rw [e, List.length_cons] at this
    omega
theorem ReAt.nine {u0 i acc v : Nat} (h : ReAt u0 i acc v) (hu : u0 < 18446744073709551616) : i ≤ 9 ∧ (i = 9 → v ≤ 1) ∧ v * 128 ^ i < 18446744073709551616 := by
  have h1 := h.eq
  have hv : v * 128 ^ i < 18446744073709551616 := by omega
  refine ⟨?_, ?_, hv⟩
  · rcases Nat.lt_or_ge 9 i with h9 | h9
    · exfalso
      have h2 : 1 ≤ v := by rcases h.po with h | h; omega; exact h
      have h3 : 128 ^ 10 ≤ 128 ^ i := Nat.pow_le_pow_right (by omega) h9
      have h4 : 1 * 128 ^ i ≤ v * 128 ^ i := Nat.mul_le_mul_right _ h2
      have h5 : (18446744073709551616 : Nat) ≤ 128 ^ 10 := by decide
      omega
    · exact h9
  · rintro rfl
    rcases Nat.lt_or_ge 1 v with h2 | h2
    · exfalso
      have h4 : 2 * 128 ^ 9 ≤ v * 128 ^ 9 := Nat.mul_le_mul_right _ h2
      have h5 : (18446744073709551616 : Nat) ≤ 2 * 128 ^ 9 := by decide
      omega
    · exact h2
theorem ReAt.byte {u0 i acc v : Nat} (h : ReAt u0 i acc v) {L T R : List Int} (hL : L ++ T = encU u0 ++ R) (hi : i < L.length) : L[i]? = some (if v < 128 then (v : Int) else ((v % 128 + 128 : Nat) : Int)) := by
  have h1 : (L ++ T)[i]? = L[i]? := List.getElem?_append_left hi
  have hlt : i < (encU u0).length := by have := h.ln; have := encU_pos v; omega
  rw [← h1, hL, List.getElem?_append_left hlt]
  have h2 : ((encU u0).drop i)[0]? = (encU u0)[i]? := by rw [List.getElem?_drop]; simp
  rw [← h2, h.dr, encU]
  split <;> rfl
theorem or_acc {acc i x : Nat} (h : acc < 128 ^ i) (hx : x * 128 ^ i < 18446744073709551616) (ha : acc < 18446744073709551616) : bits .or .u64 (acc : Int) (IntKind.u64.wrap ((x : Int) * 2 ^ (7 * i))) = ((acc + x * 128 ^ i : Nat) : Int) := by
  have e : ((x : Int) * 2 ^ (7 * i)) = ((x * 128 ^ i : Nat) : Int) := by
    have hp : (128 : Nat) ^ i = 2 ^ (7 * i) := by rw [Nat.pow_mul]
    rw [hp]; simp
  have e2 : IntKind.u64.wrap ((x * 128 ^ i : Nat) : Int) = ((x * 128 ^ i : Nat) : Int) := by rw [IntKind.wrap_u64]; omega
  rw [e, e2, bits_or_u64_nat _ _ ha hx, Nat.or_comm]
  congr 1
  have hp : (128 : Nat) ^ i = 2 ^ (7 * i) := by rw [Nat.pow_mul]
  rw [hp] at h ⊢
  rw [← Nat.shiftLeft_eq, ← Nat.shiftLeft_add_eq_or_of_lt h, Nat.add_comm]
/-- The answer of a read. -/
def RdP (L : List Int) (n : Int) (w : World) (e : Ending) (w' : World) : Prop :=
  w = w' ∧ ((L = [] ∧ e = .returned (.tuple #[.int .i64 0, .int .i64 0, .int .i64 5])) ∨ (0 < L.length ∧ L.length < (encN n).length ∧ e = .returned (.tuple #[.int .i64 0, .int .i64 0, .int .i64 2])) ∨
    ((encN n).length ≤ L.length ∧ e = .returned (.tuple #[.int .i64 n, .int .i64 ((encN n).length : Int), .int .i64 0])))
set_option maxRecDepth 100000 in
set_option maxHeartbeats 4000000 in
theorem read_any {w : World} {B c : Nat} {A : Option Addr} {L T R : List Int} {n : Int} (h : RdK .u8 w B A L) (hL : L ++ T = encN n ++ R) (hl : L.length ≤ 9000) (n0 : -9223372036854775808 ≤ n) (n1 : n ≤ 9223372036854775807) :
    Calls Try.prog 10 #[.slice A L.length c] w (RdP L n w) := by
  have H := Lib.hid h
  have HL := Lib.hid hL
  obtain ⟨u0, hu⟩ : ∃ u0, unz n = u0 := ⟨_, rfl⟩
  have hu0 : u0 < 18446744073709551616 := by rw [← hu]; exact unz_lt n0 n1
  have HU := Lib.hid hu
  clear h hL hu
  by_cases h0 : L.length = 0
  · have hn : L = [] := List.eq_nil_of_length_eq_zero h0
    subst hn
    simp only [List.length_nil]
    clear h0
    go_enter Try.func10, Try.ntmps10
    go_wp2
    go_ret3
    exact ⟨rfl, .inl ⟨rfl, rfl⟩⟩
  · have h1 : 0 < L.length := by omega
    have h2 : ((L.length : Int) == 0) = false := by rw [beq_eq_false_iff_ne]; omega
    go_enter Try.func10, Try.ntmps10
    go_wp2
    clear h2
    go_loop [5, 13] (fun s5 s13 => ∃ i acc v : Nat, i ≤ L.length ∧ i < (encN n).length ∧ s13 = .int .i64 (i : Int) ∧ s5 = .int .u64 (acc : Int) ∧ ReAt u0 i acc v) (fun _ s => L.length - (intOf s).toNat)
    case atStart => exact ⟨0, 0, u0, Nat.zero_le _, encU_pos _, rfl, rfl, ReAt.start _⟩
    case round =>
      obtain ⟨i, acc, v, hi, hie, rfl, rfl, hr⟩ := hrel
      by_cases hil : i < L.length
      · have HR := Lib.hid hr
        obtain ⟨hi9, hv9, hvm⟩ := hr.nine hu0
        have hby := hr.byte (T := T) (R := R) (by rw [HL.out, ← HU.out]; rfl) hil
        obtain ⟨b, off, rfl, _, hc⟩ := H.out h1
        replace hc := hc i _ hby
        clear hby hr h0
        have HEQ := Lib.hid (show (encN n).drop i = encU v by rw [← HR.out.dr, ← HU.out]; rfl)
        have hacc : acc < 18446744073709551616 := by have := HR.out.eq; omega
        by_cases hv : v < 128
        · rw [if_pos hv] at hc
          have hlen : (encN n).length = i + 1 := by
            have h1 := HR.out.ln
            rw [encU_small hv] at h1
            have h2 : (encN n).length = (encU u0).length := by rw [← HU.out]; rfl
            rw [h2, ← h1]; rfl
          have HLN := Lib.hid hlen
          have hor := or_acc HR.out.lt hvm hacc
          rw [HR.out.eq] at hor
          obtain ⟨U, hU⟩ : ∃ U : Int, (u0 : Int) = U := ⟨_, rfl⟩
          rw [hU] at hor
          have HS := Lib.hid (fun (w : World) => (show Calls Try.prog 24 #[.int .u64 U] w fun e w' => e = .returned (.int .i64 n) ∧ w = w' by rw [← hU, ← HU.out]; exact signed_any n w n0 n1))
          clear hlen hU hvm hacc
          by_cases hi0 : v = 0
          · have hz : i = 0 := by rcases HR.out.po with h | h; exact h; omega
            have ha0 : acc = 0 := by have := HR.out.lt; rw [hz] at this; simpa using this
            subst hi0 hz ha0
            have h3 : bits .or .u64 0 (IntKind.u64.wrap 0) = U := by simpa using hor
            have h4 : bits .or .u64 0 0 = U := h3
            have hc0 : w.cell? ⟨b, off, none⟩ = some (.int .u8 0) := by simpa using hc
            clear hor hi9 hv9 hv hc
            go_wp2_with (go_at_call 24; refine (HS.out _).mono ?_; rintro e w' ⟨rfl, rfl⟩)
            go_ret3
            exact ⟨rfl, .inr (.inr ⟨by rw [HLN.out]; omega, by rw [HLN.out]; rfl⟩)⟩
          · by_cases h9 : i = 9
            · have hv1 : v = 1 := by have := hv9 h9; omega
              subst h9 hv1
              have h3 : bits .or .u64 (acc : Int) 9223372036854775808 = U := by rw [← hor]; congr 1
              clear hor hi9 hv9 hv hi0
              go_wp2_with (go_at_call 24; refine (HS.out _).mono ?_; rintro e w' ⟨rfl, rfl⟩)
              go_ret3
              exact ⟨rfl, .inr (.inr ⟨by rw [HLN.out]; omega, by rw [HLN.out]; rfl⟩)⟩
            · have b0 : (0 : Int) ≤ (v : Int) := by omega
              have b1 : (v : Int) < 128 := by omega
              have b2 : ((v : Int) == 0) = false := by rw [beq_eq_false_iff_ne]; omega
              have b3 : ((i : Int) == 9) = false := by rw [beq_eq_false_iff_ne]; omega
              have b4 : (v : Int) % 128 = v := by omega
              clear hv9 hv hi0 h9
              go_wp2_with (go_at_call 24; refine (HS.out _).mono ?_; rintro e w' ⟨rfl, rfl⟩)
              go_ret3
              exact ⟨rfl, .inr (.inr ⟨by rw [HLN.out]; omega, by rw [HLN.out]; rfl⟩)⟩
        · rw [if_neg hv] at hc
          have hor := or_acc (x := v % 128) HR.out.lt (Nat.lt_of_le_of_lt (Nat.mul_le_mul_right _ (Nat.mod_le v 128)) hvm) hacc
          obtain ⟨acc2, hac2⟩ : ∃ a2, acc + v % 128 * 128 ^ i = a2 := ⟨_, rfl⟩
          obtain ⟨y, hy⟩ : ∃ y : Int, ((v % 128 + 128 : Nat) : Int) = y := ⟨_, rfl⟩
          have hy2 : ((v % 128 : Nat) : Int) = y % 128 := by omega
          rw [hac2, hy2] at hor
          rw [hy] at hc
          have HNX := Lib.hid (show ReAt u0 (i + 1) acc2 (v / 128) by rw [← hac2]; exact HR.out.next hv)
          have hie2 : i + 1 < (encN n).length := by
            have h1 := HNX.out.ln
            have h2 : (encN n).length = (encU u0).length := by rw [← HU.out]; rfl
            have := encU_pos (v / 128)
            omega
          have hi8 : ((i : Int) == 9) = false := by
            rw [beq_eq_false_iff_ne]; intro h; have := hv9 (by omega); omega
          have b0 : 128 ≤ y := by omega
          have b1 : y ≤ 255 := by omega
          clear hy hy2 hac2 hv hv9 hvm hacc
          go_wp2
          go_round
          case rel => exact ⟨i + 1, acc2, v / 128, by omega, hie2, by go_num, rfl, HNX.out⟩
          case measure => simp [intOf]; omega
      · obtain rfl : i = L.length := by omega
        clear hr
        go_wp2
        go_ret3
        exact ⟨rfl, .inr (.inl ⟨h1, hie, rfl⟩)⟩
end Go.Proofs.Ytmnkmnnngfgbgaa
