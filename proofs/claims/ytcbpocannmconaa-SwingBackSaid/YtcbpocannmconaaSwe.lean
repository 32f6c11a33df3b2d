/- Package swing: the corners; the document's distance. -/
import Derived.Test.YtcbpocannmconaaSwd
import Derived.Laws.Small
import Derived.Laws.Cover3
import Derived.Deep.QuietTactic
import Derived.BigQuiet
namespace Go.Proofs.Ytcbpocannmconaa
open Go.RowKit
set_option linter.unusedVariables false
set_option linter.unusedSimpArgs false
theorem bdrewN {B : Nat} {w w' : World} (h : Below B w w') (n : Nat) : Below B w (w'.drewN n) := ⟨h.os, h.tape, h.output, h.size, h.block⟩
theorem cmp_cases (a b : Int) : (a < b ∧ compare a b = .lt) ∨ (a = b ∧ compare a b = .eq) ∨ (b < a ∧ compare a b = .gt) := by
  rcases Int.lt_trichotomy a b with h | h | h
  · exact .inl ⟨h, by simp [compare, compareOfLessAndEq, h]⟩
  · exact .inr (.inl ⟨h, by subst h; simp [compare, compareOfLessAndEq]⟩)
  · exact .inr (.inr ⟨h, by simp [compare, compareOfLessAndEq, show ¬ a < b by omega, show ¬ a = b by omega]⟩)
theorem fmin {x y : Nat} {a b : Int} (hx : Fl x a) (hy : Fl y b) : ∃ m, Fl m (min a b) ∧ ∀ (P : Program) (ts : Array TypeId) (t : TypeId) (W : World), (Builtin.min_ ts t #[.float .f64 x, .float .f64 y]).run P W = .ok (.float .f64 m) W := by
  have ho : FloatKind.f64.format.order x y = some (compare a b) := hx.order hy
  rcases cmp_cases a b with ⟨h, c⟩ | ⟨h, c⟩ | ⟨h, c⟩ <;> rw [c] at ho
  · exact ⟨x, by rw [show min a b = a by omega]; exact hx, fun P ts t W => by simp [Builtin.min_, Builtin.min2, ho]⟩
  · exact ⟨if (FloatKind.f64.decode x).neg then x else y, by rw [show min a b = a by omega]; split; exact hx; rw [h]; exact hy, fun P ts t W => by simp [Builtin.min_, Builtin.min2, ho]⟩
  · exact ⟨y, by rw [show min a b = b by omega]; exact hy, fun P ts t W => by simp [Builtin.min_, Builtin.min2, ho]⟩
theorem fmax {x y : Nat} {a b : Int} (hx : Fl x a) (hy : Fl y b) : ∃ m, Fl m (max a b) ∧ ∀ (P : Program) (ts : Array TypeId) (t : TypeId) (W : World), (Builtin.max_ ts t #[.float .f64 x, .float .f64 y]).run P W = .ok (.float .f64 m) W := by
  have ho : FloatKind.f64.format.order x y = some (compare a b) := hx.order hy
  rcases cmp_cases a b with ⟨h, c⟩ | ⟨h, c⟩ | ⟨h, c⟩ <;> rw [c] at ho
  · exact ⟨y, by rw [show max a b = b by omega]; exact hy, fun P ts t W => by simp [Builtin.max_, Builtin.max2, ho]⟩
  · exact ⟨if (FloatKind.f64.decode x).neg then y else x, by rw [show max a b = a by omega]; split; rw [h]; exact hy; exact hx, fun P ts t W => by simp [Builtin.max_, Builtin.max2, ho]⟩
  · exact ⟨x, by rw [show max a b = a by omega]; exact hx, fun P ts t W => by simp [Builtin.max_, Builtin.max2, ho]⟩
/-- Two corners, that k points lie between. -/
structure Cor (x1 y1 x2 y2 : Nat) (a b : Nat → Int) (k : Nat) (c1 d1 c2 d2 : Int) : Prop where
  f1 : Fl x1 c1
  f2 : Fl y1 d1
  f3 : Fl x2 c2
  f4 : Fl y2 d2
  g1 : c1.natAbs ≤ 1048576
  g2 : d1.natAbs ≤ 1048576
  g3 : c2.natAbs ≤ 1048576
  g4 : d2.natAbs ≤ 1048576
  all : ∀ i, i < k → c1 ≤ a i ∧ d1 ≤ b i ∧ a i ≤ c2 ∧ b i ≤ d2
section
variable {A : Option Addr} {len cap B : Nat} {a b : Nat → Int} {w : World}
theorem corners_none (w : World) : Calls Try.prog 17 #[.slice A 0 cap] w fun e w' => e = .returned (.tuple #[.complex .f64 0 0, .complex .f64 0 0]) ∧ Below w.heap.size w w' := by
  go_enter Try.func17, Try.ntmps17
  go_wp2
  go_ret2
  exact ⟨rfl, Below.refl _ _⟩
set_option maxHeartbeats 4000000 in
theorem corners_some (hp : Pts w B A len a b) (hB : B ≤ w.heap.size) (h0 : 0 < len) (hl : len ≤ 1000) :
    Calls Try.prog 17 #[.slice A len cap] w fun e w' => (∃ x1 y1 x2 y2 c1 d1 c2 d2, e = .returned (.tuple #[.complex .f64 x1 y1, .complex .f64 x2 y2]) ∧ Cor x1 y1 x2 y2 a b len c1 d1 c2 d2) ∧ Below w.heap.size w w' := by
  obtain ⟨kb, ko, X, Y, rfl, hkb, hc⟩ := hp h0
  obtain ⟨q0, f0, f1, g0, g1⟩ := hc 0 h0
  rw [Nat.add_zero] at q0
  have hr : kb < w.heap.size := by omega
  have hne : ¬ len = 0 := by omega
  have hne2 : decide ((len : Int) = 0) = false := by simp; omega
  have hne3 : ((len : Int) == 0) = false := by simp; omega
  have HC := Lib.hid hc
  have F0 := Lib.hid f0
  have F1 := Lib.hid f1
  clear hc f0 f1 hp
  go_enter Try.func17, Try.ntmps17
  go_upto_region 4 with (go_quiet (fail))
  go_wp2_with fail
  go_loopw [4, 5, 19] (fun s4 s5 s19 wr => ∃ (k x1 y1 x2 y2 : Nat) (c1 d1 c2 d2 : Int), k ≤ len ∧ s19 = .int .i64 k ∧ s4 = .complex .f64 x1 y1 ∧ s5 = .complex .f64 x2 y2 ∧ Cor x1 y1 x2 y2 a b k c1 d1 c2 d2 ∧ Below w.heap.size w wr) (fun _ _ i _ => len - (intOf i).toNat)
  case atStart => exact ⟨0, X 0, Y 0, X 0, Y 0, a 0, b 0, a 0, b 0, Nat.zero_le _, rfl, rfl, rfl, ⟨F0.out, F1.out, F0.out, F1.out, g0, g1, g0, g1, fun i hi => absurd hi (Nat.not_lt_zero i)⟩, by first | exact Below.refl _ _ | exact (Below.refl _ _).drew | exact bdrewN (Below.refl w.heap.size w) _⟩
  case round =>
    obtain ⟨k, x1, y1, x2, y2, c1, d1, c2, d2, hk, rfl, rfl, rfl, cor, hbr⟩ := hrel
    by_cases hlt : k < len
    · obtain ⟨qk, f2, f3, g2, g3⟩ := HC.out k hlt
      have qr : wr.cell? ⟨kb, ko + k, none⟩ = some (.complex .f64 (X k) (Y k)) := (hbr.cell hr).trans qk
      have hrr : kb < wr.heap.size := by have := hbr.size; omega
      obtain ⟨m1, n1, e1⟩ := fmin cor.f1 f2
      obtain ⟨m2, n2, e2⟩ := fmin cor.f2 f3
      obtain ⟨m3, n3, e3⟩ := fmax cor.f3 f2
      obtain ⟨m4, n4, e4⟩ := fmax cor.f4 f3
      have G1 := cor.g1
      have G2 := cor.g2
      have G3 := cor.g3
      have G4 := cor.g4
      have CO : Hid (Cor m1 m2 m3 m4 a b (k + 1) (min c1 (a k)) (min d1 (b k)) (max c2 (a k)) (max d2 (b k))) := Lib.hid ⟨n1, n2, n3, n4, by omega, by omega, by omega, by omega, fun i hi => by
        by_cases c : i < k
        · have := cor.all i c; omega
        · obtain rfl : i = k := by omega
          omega⟩
      have HB := Lib.hid hbr
      clear qk f2 f3 n1 n2 n3 n4 G1 G2 G3 G4 cor hbr q0
      go_wp2_with fail
      go_roundw
      case rel => exact ⟨k + 1, m1, m2, m3, m4, _, _, _, _, by omega, by go_num, rfl, rfl, CO.out, HB.out⟩
      case measure => simp [intOf]; omega
    · obtain rfl : k = len := by omega
      have CO := Lib.hid cor
      have HB := Lib.hid hbr
      clear cor hbr
      go_wp2_with fail
      go_ret2
      exact ⟨⟨_, _, _, _, _, _, _, _, rfl, CO.out⟩, HB.out⟩
set_option maxHeartbeats 4000000 in
theorem rfar_any {p q : Int} (hp : RPts w B A len a b) (hB : B ≤ w.heap.size) (g5 : p.natAbs ≤ 1048576) (g6 : q.natAbs ≤ 1048576) (hl : len ≤ 1000) :
    Calls Try.prog 14 #[.slice A len cap, .agg #[.int .i64 p, .int .i64 q]] w fun e w' => e = .returned (.int .i64 (farS a b p q len)) ∧ Below w.heap.size w w' := by
  have HP := Lib.hid hp
  clear hp
  go_enter Try.func14, Try.ntmps14
  go_wp2_with fail
  go_loopw [5, 6] (fun s5 s6 wr => ∃ k : Nat, k ≤ len ∧ s6 = .int .i64 k ∧ s5 = .int .i64 (farS a b p q k) ∧ Blk wr w.heap.size 31 #[.int .i64 p, .int .i64 q] ∧ Below w.heap.size w wr) (fun _ i _ => len - (intOf i).toNat)
  case atStart => exact ⟨0, Nat.zero_le _, rfl, rfl, Blk.made _ _ _, (Below.refl _ _).alloc (Nat.le_refl _) _⟩
  case round =>
    obtain ⟨k, hk, rfl, rfl, hbk, hbr⟩ := hrel
    have p0 := hbk.val (i := 0) rfl
    have p1 := hbk.val (i := 1) rfl
    have HBK := Lib.hid hbk
    have HBR := Lib.hid hbr
    by_cases hlt : k < len
    · obtain ⟨kb, ko, rfl, hkb, hc⟩ := HP.out (by omega)
      obtain ⟨q0, q1, g0, g1⟩ := hc k hlt
      have hkw : kb < w.heap.size := by omega
      have kc := fun i => hbr.cell (p := ⟨kb, i, none⟩) hkw
      rw [← kc] at q0 q1
      clear kc
      have hr : kb < wr.heap.size := by have := hbr.size; omega
      obtain ⟨X, hX⟩ : ∃ X, a k - p = X := ⟨_, rfl⟩
      obtain ⟨Y, hY⟩ : ∃ Y, b k - q = Y := ⟨_, rfl⟩
      have n1 : (X * X).natAbs ≤ 2097152 * 2097152 := abs_mul (by omega) (by omega)
      have n2 : (Y * Y).natAbs ≤ 2097152 * 2097152 := abs_mul (by omega) (by omega)
      have w1 : IntKind.i64.wrap (a k - p) = X := by rw [hX]; exact IntWalk.i64_in _ (by omega)
      have w2 : IntKind.i64.wrap (b k - q) = Y := by rw [hY]; exact IntWalk.i64_in _ (by omega)
      have w3 : IntKind.i64.wrap (X * X) = X * X := IntWalk.i64_in _ (by omega)
      have w4 : IntKind.i64.wrap (Y * Y) = Y * Y := IntWalk.i64_in _ (by omega)
      have w5 : IntKind.i64.wrap (X * X + Y * Y) = X * X + Y * Y := IntWalk.i64_in _ (by omega)
      have HX := Lib.hid hX
      have HY := Lib.hid hY
      clear hc g0 g1 n1 n2 hbk hbr hX hY
      go_upto_region 6 with (go_quiet (fail))
      by_cases hf : farS a b p q k < X * X + Y * Y
      · go_wp2_with fail
        go_roundw
        case rel => exact ⟨k + 1, by omega, by go_num, congrArg (Value.int IntKind.i64) (by simp only [farS]; rw [HX.out, HY.out]; omega), HBK.out, by first | exact HBR.out | exact HBR.out.drew | exact bdrewN HBR.out _⟩
        case measure => simp [intOf]; omega
      · go_wp2_with fail
        go_roundw
        case rel => exact ⟨k + 1, by omega, by go_num, congrArg (Value.int IntKind.i64) (by simp only [farS]; rw [HX.out, HY.out]; omega), HBK.out, by first | exact HBR.out | exact HBR.out.drew | exact bdrewN HBR.out _⟩
        case measure => simp [intOf]; omega
    · obtain rfl : k = len := by omega
      clear hbk hbr
      go_wp2_with fail
      go_ret
      exact ⟨rfl, HBR.out⟩
end
end Go.Proofs.Ytcbpocannmconaa
