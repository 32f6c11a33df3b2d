/- Package swing: the steps of a way, by each closure; area and turns. -/
import Derived.Test.YtcbpocannmconaaSwa
import Derived.Test.YtcbpocannmconaaBlk
import Derived.Test.YtcbpocannmconaaSeq
import Derived.Deep.DeepCutAuto
import Derived.Deep.RegionWith
import Derived.BigQuiet
import Derived.Laws.ByValue
namespace Go.Proofs.Ytcbpocannmconaa
open Go.RowKit
set_option linter.unusedVariables false
set_option linter.unusedSimpArgs false
/-- A row of points. -/
def Pts (w : World) (B : Nat) (A : Option Addr) (len : Nat) (a b : Nat → Int) : Prop :=
  0 < len → ∃ (kb ko : Nat) (X Y : Nat → Nat), A = some ⟨kb, ko, none⟩ ∧ kb < B ∧ ∀ i, i < len → w.cell? ⟨kb, ko + i, none⟩ = some (.complex .f64 (X i) (Y i)) ∧ Fl (X i) (a i) ∧ Fl (Y i) (b i) ∧ (a i).natAbs ≤ 1048576 ∧ (b i).natAbs ≤ 1048576
theorem Pts.below {w w' : World} {B : Nat} {A : Option Addr} {len : Nat} {a b : Nat → Int} (h : Pts w B A len a b) (hb : Below B w w') : Pts w' B A len a b := by
  intro h0
  obtain ⟨kb, ko, X, Y, e, hk, hc⟩ := h h0
  exact ⟨kb, ko, X, Y, e, hk, fun i hi => ⟨(hb.cell hk).trans (hc i hi).1, (hc i hi).2⟩⟩
theorem kept_cell {own : Nat → Prop} {w w' : World} (h : Kept own w w') {kb k : Nat} (hk : kb < w.heap.size) (hn : ¬ own kb) : w'.cell? ⟨kb, k, none⟩ = w.cell? ⟨kb, k, none⟩ :=
  World.cell?_of_block (h.block kb hk hn)
def crossZ (a b : Nat → Int) (i j : Nat) : Int := a i * b j - b i * a j
def areaS (a b : Nat → Int) (n : Nat) : Nat → Int
  | 0 => 0
  | k + 1 => areaS a b n k + crossZ a b k ((k + 1) % n)
def sideZ (a b : Nat → Int) (p q : Int) (i j : Nat) : Int := (a j - a i) * (q - b i) - (b j - b i) * (p - a i)
def turnZ (a b : Nat → Int) (p q : Int) (i j : Nat) : Int := turnO (compare (b i) q) (compare (b j) q) (sideZ a b p q i j)
def turnS (a b : Nat → Int) (p q : Int) (n : Nat) : Nat → Int
  | 0 => 0
  | k + 1 => turnS a b p q n k + turnZ a b p q k ((k + 1) % n)
theorem turnO_in (o1 o2 : Ordering) (sd : Int) : -1 ≤ turnO o1 o2 sd ∧ turnO o1 o2 sd ≤ 1 := by unfold turnO; split <;> (try split) <;> omega
theorem turnS_in (a b : Nat → Int) (p q : Int) (n : Nat) : ∀ k : Nat, -(k : Int) ≤ turnS a b p q n k ∧ turnS a b p q n k ≤ k
  | 0 => by simp [turnS]
  | k + 1 => by
    have h := turnS_in a b p q n k
    have g := turnO_in (compare (b k) q) (compare (b ((k + 1) % n)) q) (sideZ a b p q k ((k + 1) % n))
    simp only [turnS, turnZ]; omega
theorem crossZ_in {a b : Nat → Int} {i j : Nat} (h1 : (a i).natAbs ≤ 1048576) (h2 : (b i).natAbs ≤ 1048576) (h3 : (a j).natAbs ≤ 1048576) (h4 : (b j).natAbs ≤ 1048576) : -2199023255552 ≤ crossZ a b i j ∧ crossZ a b i j ≤ 2199023255552 := by
  have n1 := abs_mul h1 h4
  have n2 := abs_mul h2 h3
  unfold crossZ; omega
theorem areaS_in {a b : Nat → Int} {n : Nat} (hb : ∀ i, i < n → (a i).natAbs ≤ 1048576 ∧ (b i).natAbs ≤ 1048576) : ∀ k : Nat, k ≤ n → -(k * 2199023255552 : Int) ≤ areaS a b n k ∧ areaS a b n k ≤ k * 2199023255552
  | 0, _ => by simp [areaS]
  | k + 1, hk => by
    have h := areaS_in hb k (by omega)
    have hj : (k + 1) % n < n := Nat.mod_lt _ (by omega)
    have g := crossZ_in (hb k (by omega)).1 (hb k (by omega)).2 (hb _ hj).1 (hb _ hj).2
    simp only [areaS]; omega
section
variable {x1 y1 x2 y2 xp yp : Nat} {a1 b1 a2 b2 p q : Int}
set_option maxHeartbeats 2000000 in
theorem area1_any (h1 : Fl x1 a1) (h2 : Fl y1 b1) (h3 : Fl x2 a2) (h4 : Fl y2 b2) (g1 : a1.natAbs ≤ 1048576) (g2 : b1.natAbs ≤ 1048576) (g3 : a2.natAbs ≤ 1048576) (g4 : b2.natAbs ≤ 1048576) (g : Nat) (s : Int) (w : World)
    (hb : Blk w g 2 #[.int .i64 s]) (s0 : -9223372036854775808 ≤ s + (a1 * b2 - b1 * a2)) (s1 : s + (a1 * b2 - b1 * a2) ≤ 9223372036854775807) :
    Calls Try.prog 26 #[.complex .f64 x1 y1, .complex .f64 x2 y2, .pointer (some ⟨g, 0, none⟩)] w fun e w' => e = .returned (.tuple #[]) ∧ Blk w' g 2 #[.int .i64 (s + (a1 * b2 - b1 * a2))] ∧ Kept (fun k => k = g) w w' := by
  have kc := fun W => cross_any h1 h2 h3 h4 (by omega) (by omega) (by omega) (by omega) W
  obtain ⟨c, hc⟩ : ∃ c, a1 * b2 - b1 * a2 = c := ⟨_, rfl⟩
  rw [hc] at kc s0 s1 ⊢
  have KC := Lib.hid kc
  have HB := Lib.hid hb
  have p0 := hb.val (i := 0) rfl
  have z0 := hb.free
  have y0 := hb.size
  have hadd : IntKind.i64.wrap (s + c) = s + c := IntWalk.i64_in _ (by omega)
  clear h1 h2 h3 h4 g1 g2 g3 g4 hc kc hb
  go_enter Try.func26, Try.ntmps26
  go_region_with (go_at_call 27; refine (KC.out _).mono ?_; rintro e w1 ⟨rfl, rfl⟩)
  all_goals (try go_wp2)
  all_goals (first | refine bodyPost_end (results_none rfl _ _ _) rfl ?_ | refine bodyPost_ret (results_none rfl _ _ _) rfl ?_)
  all_goals exact ⟨rfl, (HB.out.set_ 0 _).drew_, ((Kept.refl (fun k => k = g) w).set_ (p := ⟨g, 0, none⟩) (.inl rfl) _).drew_⟩
set_option maxHeartbeats 2000000 in
theorem turn1_any (h1 : Fl x1 a1) (h2 : Fl y1 b1) (h3 : Fl x2 a2) (h4 : Fl y2 b2) (h5 : Fl xp p) (h6 : Fl yp q) (g1 : a1.natAbs ≤ 1048576) (g2 : b1.natAbs ≤ 1048576) (g3 : a2.natAbs ≤ 1048576) (g4 : b2.natAbs ≤ 1048576) (g5 : p.natAbs ≤ 1048576) (g6 : q.natAbs ≤ 1048576) (g f : Nat) (s : Int) (w : World)
    (hb : Blk w g 3 #[.int .i64 s]) (hf : Blk w f 28 #[.complex .f64 xp yp]) (t : Int) (ht : turnO (compare b1 q) (compare b2 q) ((a2 - a1) * (q - b1) - (b2 - b1) * (p - a1)) = t) (s0 : -9223372036854775808 ≤ s + t) (s1 : s + t ≤ 9223372036854775807) :
    Calls Try.prog 29 #[.complex .f64 x1 y1, .complex .f64 x2 y2, .pointer (some ⟨g, 0, none⟩), .pointer (some ⟨f, 0, none⟩)] w fun e w' => e = .returned (.tuple #[]) ∧ Blk w' g 3 #[.int .i64 (s + t)] ∧ Kept (fun k => k = g) w w' := by
  have kc := fun W => turn_o h1 h2 h3 h4 h5 h6 g1 g2 g3 g4 g5 g6 _ rfl _ _ rfl rfl W
  rw [ht] at kc
  have KC := Lib.hid kc
  have HB := Lib.hid hb
  have p0 := hb.val (i := 0) rfl
  have z0 := hb.free
  have y0 := hb.size
  have p1 := hf.val (i := 0) rfl
  have hadd : IntKind.i64.wrap (s + t) = s + t := IntWalk.i64_in _ (by omega)
  clear h1 h2 h3 h4 h5 h6 g1 g2 g3 g4 g5 g6 ht kc hb hf
  go_enter Try.func29, Try.ntmps29
  go_region_with (go_at_call 30; refine (KC.out _).mono ?_; rintro e w1 ⟨rfl, rfl⟩)
  all_goals (try go_wp2)
  all_goals (first | refine bodyPost_end (results_none rfl _ _ _) rfl ?_ | refine bodyPost_ret (results_none rfl _ _ _) rfl ?_)
  all_goals exact ⟨rfl, (HB.out.set_ 0 _).drew_, ((Kept.refl (fun k => k = g) w).set_ (p := ⟨g, 0, none⟩) (.inl rfl) _).drew_⟩
end
theorem tmod_nat (k n : Nat) : ((k : Int) + 1).tmod (n : Int) = (((k + 1) % n : Nat) : Int) := by rw [Int.tmod_eq_emod_of_nonneg (by omega)]; rfl
section
variable {A : Option Addr} {len cap B : Nat} {a b : Nat → Int} {w : World}
set_option maxHeartbeats 4000000 in
theorem steps_area (g : Nat) (hp : Pts w B A len a b) (hB : B ≤ g) (hl : len ≤ 1000) (hb : Blk w g 2 #[.int .i64 0]) :
    Calls Try.prog 25 #[.slice A len cap, .func (.func 26) #[] #[.pointer (some ⟨g, 0, none⟩)]] w fun e w' => e = .returned (.tuple #[]) ∧ Blk w' g 2 #[.int .i64 (areaS a b len len)] ∧ Kept (fun k => k = g) w w' := by
  have HP := Lib.hid hp
  have HB := Lib.hid hb
  have gsz := hb.size
  clear hp hb
  go_enter Try.func25, Try.ntmps25
  go_wp2_with fail
  go_loopw [8] (fun s8 wr => ∃ k : Nat, k ≤ len ∧ s8 = .int .i64 k ∧ Blk wr g 2 #[.int .i64 (areaS a b len k)] ∧ Kept (fun k => k = g) w wr) (fun i _ => len - (intOf i).toNat)
  case atStart => exact ⟨0, Nat.zero_le _, rfl, HB.out, Kept.refl _ _⟩
  case round =>
    obtain ⟨k, hk, rfl, hbk, hkk⟩ := hrel
    have HBK := Lib.hid hbk
    have HKK := Lib.hid hkk
    clear hbk hkk
    by_cases hlt : k < len
    · obtain ⟨kb, ko, X, Y, rfl, hkb, hc⟩ := HP.out (by omega)
      obtain ⟨j, hj⟩ : ∃ j, (k + 1) % len = j := ⟨_, rfl⟩
      have hjl : j < len := by rw [← hj]; exact Nat.mod_lt _ (by omega)
      obtain ⟨q0, f0, f1, g0, g1⟩ := hc k hlt
      obtain ⟨q1, f2, f3, g2, g3⟩ := hc j hjl
      have kc := fun i => kept_cell (k := i) HKK.out (kb := kb) (by omega) (show ¬ kb = g by omega)
      rw [← kc] at q0 q1
      have hr : kb < wr.heap.size := by have := HKK.out.size; omega
      have ht : ((k : Int) + 1).tmod (len : Int) = (j : Int) := by rw [tmod_nat, hj]
      have ht2 : ((k : Int) + 1) % (len : Int) = (j : Int) := by rw [← hj]; rfl
      have bd := areaS_in (a := a) (b := b) (n := len) (fun i hi => (hc i hi).2.2.2) k hk
      have cd := crossZ_in (a := a) (b := b) (i := k) (j := j) g0 g1 g2 g3
      unfold crossZ at cd
      have F0 := Lib.hid f0
      have F1 := Lib.hid f1
      have F2 := Lib.hid f2
      have F3 := Lib.hid f3
      have HC := Lib.hid hc
      have HJ := Lib.hid hj
      clear kc hc f0 f1 f2 f3 hj
      go_wp2_with fail
      refine (area1_any F0.out F1.out F2.out F3.out g0 g1 g2 g3 g _ _ HBK.out (by omega) (by omega)).mono ?_
      rintro e wz ⟨rfl, hbz, hkz⟩
      have HBZ := Lib.hid hbz
      have HKZ := Lib.hid hkz
      clear hbz hkz ht ht2 q0 q1 bd cd
      go_wp2_with fail
      go_roundw
      case rel => exact ⟨k + 1, by omega, by go_num, by have := HBZ.out; rw [← HJ.out] at this; exact this, HKK.out.trans HKZ.out⟩
      case measure => simp [intOf]; omega
    · obtain rfl : k = len := by omega
      go_wp2_with fail
      all_goals (first | refine bodyPost_end (results_none rfl _ _ _) rfl ?_ | refine bodyPost_ret (results_none rfl _ _ _) rfl ?_)
      exact ⟨rfl, HBK.out, HKK.out⟩
set_option maxHeartbeats 4000000 in
theorem steps_turn (g f : Nat) {xp yp : Nat} {p q : Int} (hp : Pts w B A len a b) (hB : B ≤ g) (hf : Blk w f 28 #[.complex .f64 xp yp]) (h5 : Fl xp p) (h6 : Fl yp q) (g5 : p.natAbs ≤ 1048576) (g6 : q.natAbs ≤ 1048576) (hl : len ≤ 1000) (hb : Blk w g 3 #[.int .i64 0]) :
    Calls Try.prog 25 #[.slice A len cap, .func (.func 29) #[] #[.pointer (some ⟨g, 0, none⟩), .pointer (some ⟨f, 0, none⟩)]] w fun e w' => e = .returned (.tuple #[]) ∧ Blk w' g 3 #[.int .i64 (turnS a b p q len len)] ∧ Kept (fun k => k = g) w w' := by
  have hfg : f ≠ g := fun e => by subst e; exact absurd rfl (hf.other hb (by decide))
  have HP := Lib.hid hp
  have HB := Lib.hid hb
  have HF := Lib.hid hf
  have H5 := Lib.hid h5
  have H6 := Lib.hid h6
  have gsz := hb.size
  clear hp hb hf h5 h6
  go_enter Try.func25, Try.ntmps25
  go_wp2_with fail
  go_loopw [8] (fun s8 wr => ∃ k : Nat, k ≤ len ∧ s8 = .int .i64 k ∧ Blk wr g 3 #[.int .i64 (turnS a b p q len k)] ∧ Kept (fun k => k = g) w wr) (fun i _ => len - (intOf i).toNat)
  case atStart => exact ⟨0, Nat.zero_le _, rfl, HB.out, Kept.refl _ _⟩
  case round =>
    obtain ⟨k, hk, rfl, hbk, hkk⟩ := hrel
    have HBK := Lib.hid hbk
    have HKK := Lib.hid hkk
    clear hbk hkk
    by_cases hlt : k < len
    · obtain ⟨kb, ko, X, Y, rfl, hkb, hc⟩ := HP.out (by omega)
      obtain ⟨j, hj⟩ : ∃ j, (k + 1) % len = j := ⟨_, rfl⟩
      have hjl : j < len := by rw [← hj]; exact Nat.mod_lt _ (by omega)
      obtain ⟨q0, f0, f1, g0, g1⟩ := hc k hlt
      obtain ⟨q1, f2, f3, g2, g3⟩ := hc j hjl
      have kc := fun i => kept_cell (k := i) HKK.out (kb := kb) (by omega) (show ¬ kb = g by omega)
      rw [← kc] at q0 q1
      have hr : kb < wr.heap.size := by have := HKK.out.size; omega
      have ht : ((k : Int) + 1).tmod (len : Int) = (j : Int) := by rw [tmod_nat, hj]
      have ht2 : ((k : Int) + 1) % (len : Int) = (j : Int) := by rw [← hj]; rfl
      have bd := turnS_in a b p q len k
      obtain ⟨t, et⟩ : ∃ t, turnZ a b p q k j = t := ⟨_, rfl⟩
      have td := turnO_in (compare (b k) q) (compare (b j) q) (sideZ a b p q k j)
      rw [show turnO (compare (b k) q) (compare (b j) q) (sideZ a b p q k j) = t from et] at td
      have F0 := Lib.hid f0
      have F1 := Lib.hid f1
      have F2 := Lib.hid f2
      have F3 := Lib.hid f3
      have ET := Lib.hid et
      have HJ := Lib.hid hj
      clear kc hc f0 f1 f2 f3 hj et
      go_wp2_with fail
      refine (turn1_any F0.out F1.out F2.out F3.out H5.out H6.out g0 g1 g2 g3 g5 g6 g f _ _ HBK.out (HF.out.kept HKK.out hfg) t ET.out (by omega) (by omega)).mono ?_
      rintro e wz ⟨rfl, hbz, hkz⟩
      have HBZ := Lib.hid hbz
      have HKZ := Lib.hid hkz
      clear hbz hkz ht ht2 q0 q1 bd td
      go_wp2_with fail
      go_roundw
      case rel => exact ⟨k + 1, by omega, by go_num, by have := HBZ.out; rw [← ET.out, ← HJ.out] at this; exact this, HKK.out.trans HKZ.out⟩
      case measure => simp [intOf]; omega
    · obtain rfl : k = len := by omega
      go_wp2_with fail
      all_goals (first | refine bodyPost_end (results_none rfl _ _ _) rfl ?_ | refine bodyPost_ret (results_none rfl _ _ _) rfl ?_)
      exact ⟨rfl, HBK.out, HKK.out⟩
set_option maxHeartbeats 2000000 in
theorem area_any (hp : Pts w B A len a b) (hB : B ≤ w.heap.size) (hl : len ≤ 1000) :
    Calls Try.prog 11 #[.slice A len cap] w fun e w' => e = .returned (.int .i64 (areaS a b len len)) ∧ Below w.heap.size w w' := by
  have hmf : ∀ (fn : Fn) (first cap : Array Value) (w : World), (Instr.makeFunc fn first cap).run Try.prog w = .ok (.func fn first cap) w := fun _ _ _ _ => rfl
  have hs := steps_area (cap := cap) (w := w.alloc (.cells #[.int .i64 0] 2)) w.heap.size (hp.below ((Below.refl _ _).alloc hB _)) hB hl (Blk.made _ _ _)
  have HS := Lib.hid hs
  clear hs hp
  go_enter Try.func11, Try.ntmps11
  go_wp2_with fail
  refine HS.out.mono ?_
  rintro e w1 ⟨rfl, hb, hk⟩
  have p0 := hb.val (i := 0) rfl
  have HK := Lib.hid hk
  clear hb hk
  go_wp2_with fail
  go_ret
  exact ⟨rfl, ((Below.refl _ _).alloc (Nat.le_refl _) _).trans (HK.out.below (fun k hk => by rw [hk]; exact Nat.le_refl _) (by simp))⟩
set_option maxHeartbeats 2000000 in
theorem turns_any {xp yp : Nat} {p q : Int} (hp : Pts w B A len a b) (hB : B ≤ w.heap.size) (h5 : Fl xp p) (h6 : Fl yp q) (g5 : p.natAbs ≤ 1048576) (g6 : q.natAbs ≤ 1048576) (hl : len ≤ 1000) :
    Calls Try.prog 15 #[.slice A len cap, .complex .f64 xp yp] w fun e w' => e = .returned (.int .i64 (turnS a b p q len len)) ∧ Below w.heap.size w w' := by
  have hmf : ∀ (fn : Fn) (first cap : Array Value) (w : World), (Instr.makeFunc fn first cap).run Try.prog w = .ok (.func fn first cap) w := fun _ _ _ _ => rfl
  have hb1 : Below B w ((w.alloc (.cells #[.complex .f64 xp yp] 28)).alloc (.cells #[.int .i64 0] 3)) := ((Below.refl _ _).alloc hB _).alloc (by simp; omega) _
  have hs := steps_turn (cap := cap) (w := (w.alloc (.cells #[.complex .f64 xp yp] 28)).alloc (.cells #[.int .i64 0] 3)) (w.heap.size + 1) w.heap.size (hp.below hb1) (by omega) ((Blk.made _ _ _).alloc_ _) h5 h6 g5 g6 hl (Blk.new_ (by simp))
  have HS := Lib.hid hs
  clear hs hp hb1 h5 h6
  go_enter Try.func15, Try.ntmps15
  go_wp2_with fail
  refine HS.out.mono ?_
  rintro e w1 ⟨rfl, hb, hk⟩
  have p0 := hb.val (i := 0) rfl
  have HK := Lib.hid hk
  clear hb hk
  go_wp2_with fail
  go_ret
  exact ⟨rfl, (((Below.refl _ _).alloc (Nat.le_refl _) _).alloc (by simp) _).trans (HK.out.below (fun k hk => by rw [hk]; exact Nat.le_succ _) (by simp; omega))⟩
end
end Go.Proofs.Ytcbpocannmconaa
