/- Texts of this claim, one behind the other: Rootc Cod Fix Fixb. -/
import Derived.Test.YtcffeokbipjaoaaGreatMtas
import Derived.Test.YtcffeokbipjaoaaGreatMtat
import Derived.Test.YtcffeokbipjaoaaGreatMtau
namespace Go.Proofs.YtcffeokbipjaoaaGreat
open Go.ChangeShapes Go.WideShapes Go.ChangeAt Go.RowKit Kn
set_option linter.unusedVariables false
set_option maxHeartbeats 400000 in
theorem rtlaw_neg (i n : Int) (w : World) (h : i < 0) :
   Calls Tryz.prog 219 #[.int .i64 i, .int .u64 n] w fun e w' => e = .returned (.int .i64 0) ∧ Below w.heap.size w w' := by
 go_enter Tryz.func219, Tryz.ntmps219
 go_wp2
 go_ret
 exact ⟨rfl, Below.refl _ _⟩
set_option maxHeartbeats 400000 in
theorem rtlaw_any (i n : Int) (w : World) (i0 : 0 ≤ i) (i1 : i ≤ 9223372036854775807) (n0 : 0 ≤ n) (n1 : n ≤ 18446744073709551615) :
   Calls Tryz.prog 219 #[.int .i64 i, .int .u64 n] w fun e w' => e = .returned (.int .i64 (lawN i n)) ∧ Below w.heap.size w w' := by
 have hi' : ¬ i < 0 := by omega
 obtain ⟨d, hd⟩ : ∃ d, max n 1 = d := ⟨_, rfl⟩
 have d0 : 0 < d := by omega
 have d1 : d ≤ 18446744073709551615 := by omega
 have q0 : 0 ≤ i * i := Int.mul_nonneg i0 i0
 have q1 : i * i < 340282366920938463463374607431768211456 := by have := Int.mul_le_mul i1 i1 i0 (by omega); omega
 have k0 := hi0 _ q0
 have k1 := hi1 _ q1
 have k2 := lo0 (i * i)
 have k3 := lo1 (i * i)
 have en := num_hi_lo (i * i)
 have z0 : 0 ≤ i * i / d := Int.ediv_nonneg q0 (by omega)
 have z1 : i * i / d < 340282366920938463463374607431768211456 := by have := Int.ediv_le_self d q0; omega
 have m0 := hi0 _ z0
 have m1 := hi1 _ z1
 have m2 := lo0 (i * i / d)
 have m3 := lo1 (i * i / d)
 have em := num_hi_lo (i * i / d)
 have L0 := law0 i n
 have L1 := law_le i n i0
 have el : rootN (i * i / d) = lawN i n := by unfold lawN; rw [hd]
 go_enter Tryz.func219, Tryz.ntmps219
 go_wp2_with (first
   | (go_at_call 252; refine (wmul_any _ _ _ i0 (by omega) i0 (by omega)).mono ?_; rintro e w1 ⟨rfl, hb1⟩)
   | (go_at_call 253; refine (wdiv_any _ _ _ _ k0 k1 k2 k3 d0 d1).mono ?_; rintro e w2 ⟨rfl, hb2⟩; rw [en]; replace hb1 := under0 hb1 hb2)
   | (go_at_call 254; refine (rtwide_any _ _ _ m0 m1 m2 m3).mono ?_; rintro e w3 ⟨rfl, hb3⟩; rw [em, el]; replace hb1 := under0 (hb1.alloc hb1.size _) hb3))
 go_ret
 exact ⟨rfl, hb1⟩
def lawZ (i n : Int) : Int := if i < 0 then 0 else lawN i n
theorem rtlaw_all (i n : Int) (w : World) (i1 : i ≤ 9223372036854775807) (n0 : 0 ≤ n) (n1 : n ≤ 18446744073709551615) :
   Calls Tryz.prog 219 #[.int .i64 i, .int .u64 n] w fun e w' => e = .returned (.int .i64 (lawZ i n)) ∧ Below w.heap.size w w' := by
 by_cases h : i < 0
 · have e : lawZ i n = 0 := by unfold lawZ; rw [if_pos h]
   rw [e]; exact rtlaw_neg i n w h
 · have e : lawZ i n = lawN i n := by unfold lawZ; rw [if_neg h]
   rw [e]; exact rtlaw_any i n w (by omega) i1 n0 n1
end Go.Proofs.YtcffeokbipjaoaaGreat
namespace Go.Proofs.YtcffeokbipjaoaaGreat
open Go.RowKit Kn
structure Cst where
 ab : Bool
 fi : Int
 dr : Bool
 ne : Int
 co : Int
 la : Int
abbrev Cst.v (s : Cst) : Value := .agg #[.bool s.ab, .int .i64 s.fi, .bool s.dr, .int .i64 s.ne, .int .u64 s.co, .int .u64 s.la]
structure Cst.ok (s : Cst) : Prop where
 f0 : -9223372036854775808 ≤ s.fi
 f1 : s.fi ≤ 9223372036854775807
 n0 : -9223372036854775808 ≤ s.ne
 n1 : s.ne ≤ 9223372036854775807
 c0 : 0 ≤ s.co
 c1 : s.co ≤ 18446744073709551615
 l0 : 0 ≤ s.la
 l1 : s.la ≤ 18446744073709551615
def highB (t j b : Int) : Bool := decide (t ≤ j) && decide (1 < b)
def noteC (s : Cst) (i now : Int) (hb : Bool) : Cst :=
 bif hb then (bif s.ab then s else { s with ab := true, fi := sat (now + i) }) else { s with ab := false, fi := 0 }
def mayC (s : Cst) (now : Int) (hb : Bool) : Bool := s.ab && decide (s.fi ≤ now) && hb
def consC (s : Cst) (i now : Int) (hb : Bool) : Cst := { noteC s i now hb with dr := s.dr && mayC s now hb }
def upC (c : Int) : Int := if c < 18446744073709551615 then c + 1 else c
def timeC (s : Cst) (now : Int) : Cst × Int := if now < s.ne then (s, 0) else ({ s with co := upC s.co }, 1)
def beginN (s : Cst) (i now : Int) : Int :=
 let d := (s.co - s.la) % 18446744073709551616
 if 2 ≤ d ∧ d ≤ 9223372036854775808 ∧ sat (now - s.ne) < sat (16 * i) then d else 1
def beginC (s : Cst) (i now : Int) : Cst := { s with dr := true, co := beginN s i now, ne := sat (now + lawZ i (beginN s i now)), la := beginN s i now }
def lookC (s : Cst) (i now : Int) (hb : Bool) : Cst × Int :=
 bif mayC s now hb then (bif s.dr then timeC (consC s i now hb) now else (beginC (consC s i now hb) i now, 2)) else (consC s i now hb, 0)
def moreC (s : Cst) (i now : Int) (hb : Bool) : Cst × Int :=
 bif mayC s now hb then timeC { consC s i now hb with ne := sat (s.ne + lawZ i s.co) } now else (consC s i now hb, 0)
def emptyC (s : Cst) : Cst := { s with ab := false, fi := 0, dr := false }
end Go.Proofs.YtcffeokbipjaoaaGreat
namespace Go.Proofs.YtcffeokbipjaoaaGreat
open Go.ChangeShapes Go.WideShapes Go.ChangeAt Go.RowKit Kn
set_option linter.unusedVariables false
set_option maxHeartbeats 400000 in
theorem fadd_any (a b : Int) (w : World) (a0 : -9223372036854775808 ≤ a) (a1 : a ≤ 9223372036854775807) (b0 : -9223372036854775808 ≤ b) (b1 : b ≤ 9223372036854775807) :
   Calls Tryz.prog 55 #[.int .i64 a, .int .i64 b] w fun e w' => e = .returned (.int .i64 (sat (a + b))) ∧ w = w' := by
 go_enter Tryz.func55, Tryz.ntmps55
 go_wp2
 all_goals (go_ret; exact ⟨ret_int (by unfold sat; omega), rfl⟩)
set_option maxHeartbeats 400000 in
theorem fsub_any (a b : Int) (w : World) (a0 : -9223372036854775808 ≤ a) (a1 : a ≤ 9223372036854775807) (b0 : -9223372036854775808 ≤ b) (b1 : b ≤ 9223372036854775807) :
   Calls Tryz.prog 163 #[.int .i64 a, .int .i64 b] w fun e w' => e = .returned (.int .i64 (sat (a - b))) ∧ w = w' := by
 go_enter Tryz.func163, Tryz.ntmps163
 go_wp2
 all_goals (go_ret; exact ⟨ret_int (by unfold sat; omega), rfl⟩)
theorem below_any (a b : Int) (w : World) :
   Calls Tryz.prog 265 #[.int .i64 a, .int .i64 b] w fun e w' => e = .returned (.bool (negB a b)) ∧ w = w' := by
 go_enter Tryz.func265, Tryz.ntmps265
 go_wp2
 go_ret
 exact ⟨ret_bool (by unfold negB; cases decide (a < 0) <;> cases decide (b < 0) <;> rfl), rfl⟩
theorem size_any (a : Int) (w : World) (a0 : -9223372036854775808 ≤ a) (a1 : a ≤ 9223372036854775807) :
   Calls Tryz.prog 266 #[.int .i64 a] w fun e w' => e = .returned (.int .u64 (mag a)) ∧ w = w' := by
 by_cases h : a < 0
 · have e : IntKind.u64.wrap (-IntKind.u64.wrap a) = mag a := by rw [wrapu, wrapu]; unfold mag; split <;> omega
   go_enter Tryz.func266, Tryz.ntmps266
   go_wp2
   go_ret
   exact ⟨rfl, rfl⟩
 · have e : mag a = a := by unfold mag; split <;> omega
   rw [e]; clear e
   go_enter Tryz.func266, Tryz.ntmps266
   go_wp2
   go_ret
   exact ⟨rfl, rfl⟩
set_option maxHeartbeats 400000 in
theorem sat_neg_over (h l : Int) (w : World) (h0 : 0 ≤ h) (h1 : h ≤ 18446744073709551615) (l0 : 0 ≤ l) (l1 : l ≤ 18446744073709551615) (hn : 9223372036854775808 < num h l) :
   Calls Tryz.prog 264 #[.bool true, .agg #[.int .u64 h, .int .u64 l]] w fun e w' => e = .returned (.int .i64 (-9223372036854775808)) ∧ Below w.heap.size w w' := by
 have hc : cmpN (num h l) (num 0 9223372036854775808) = 1 := by unfold cmpN num at *; split <;> (try split) <;> omega
 have mL : mag (-9223372036854775808) = 9223372036854775808 := by decide
 go_enter Tryz.func264, Tryz.ntmps264
 go_wp2
 go_region_held3 (fun w' => w'.cell? ⟨w.heap.size, 0, none⟩ = some (.int .u64 h) ∧ w'.cell? ⟨w.heap.size, 1, none⟩ = some (.int .u64 l)) (go_keep)
   (first
     | (go_at_call 266; refine (size_any _ _ (by omega) (by omega)).mono ?_; rintro e w' ⟨rfl, rfl⟩)
     | (go_at_call 274; refine (wof_any _ _).mono ?_; rintro e w' ⟨rfl, hb1⟩; obtain ⟨hc1, hf1⟩ := bcell hb1; have hz1 : w.heap.size < w'.heap.size := by (have := hb1.size; simp at this; omega))
     | (go_at_call 270; refine (wcmp_any _ _ _ _ _ (by omega) (by omega) (by omega) (by omega) (by omega) (by omega) (by omega) (by omega)).mono ?_; rintro e w' ⟨rfl, hb2⟩; obtain ⟨hc2, hf2⟩ := bcell hb2))
 go_wp2
 go_ret
 exact ⟨rfl, ((((Below.refl _ _).alloc (Nat.le_refl _) _).drew).trans (hb1.mono (by simp))).trans (hb2.mono (by omega))⟩
set_option maxHeartbeats 400000 in
theorem sat_neg_fits (h l : Int) (w : World) (h0 : 0 ≤ h) (h1 : h ≤ 18446744073709551615) (l0 : 0 ≤ l) (l1 : l ≤ 18446744073709551615) (hn : num h l ≤ 9223372036854775808) :
   Calls Tryz.prog 264 #[.bool true, .agg #[.int .u64 h, .int .u64 l]] w fun e w' => e = .returned (.int .i64 (sat (- num h l))) ∧ Below w.heap.size w w' := by
 obtain ⟨c, hc⟩ : ∃ c, cmpN (num h l) (num 0 9223372036854775808) = c := ⟨_, rfl⟩
 have c0 : c ≤ 0 := by rw [← hc]; unfold cmpN num at *; split <;> (try split) <;> omega
 have e4 : IntKind.i64.wrap (IntKind.u64.wrap (-l)) = sat (- num h l) := by rw [IntKind.wrap_i64, wrapu]; unfold sat num at *; split <;> (try split) <;> omega
 have mL : mag (-9223372036854775808) = 9223372036854775808 := by decide
 go_enter Tryz.func264, Tryz.ntmps264
 go_wp2
 go_region_held3 (fun w' => w'.cell? ⟨w.heap.size, 0, none⟩ = some (.int .u64 h) ∧ w'.cell? ⟨w.heap.size, 1, none⟩ = some (.int .u64 l)) (go_keep)
   (first
     | (go_at_call 266; refine (size_any _ _ (by omega) (by omega)).mono ?_; rintro e w' ⟨rfl, rfl⟩)
     | (go_at_call 274; refine (wof_any _ _).mono ?_; rintro e w' ⟨rfl, hb1⟩; obtain ⟨hc1, hf1⟩ := bcell hb1; have hz1 : w.heap.size < w'.heap.size := by (have := hb1.size; simp at this; omega))
     | (go_at_call 270; refine (wcmp_any _ _ _ _ _ (by omega) (by omega) (by omega) (by omega) (by omega) (by omega) (by omega) (by omega)).mono ?_; rintro e w' ⟨rfl, hb2⟩; obtain ⟨hc2, hf2⟩ := bcell hb2))
 go_wp2
 go_ret
 exact ⟨rfl, ((((Below.refl _ _).alloc (Nat.le_refl _) _).drew).trans (hb1.mono (by simp))).trans (hb2.mono (by omega))⟩
set_option maxHeartbeats 400000 in
theorem sat_pos_over (h l : Int) (w : World) (h0 : 0 ≤ h) (h1 : h ≤ 18446744073709551615) (l0 : 0 ≤ l) (l1 : l ≤ 18446744073709551615) (hn : 9223372036854775807 < num h l) :
   Calls Tryz.prog 264 #[.bool false, .agg #[.int .u64 h, .int .u64 l]] w fun e w' => e = .returned (.int .i64 9223372036854775807) ∧ Below w.heap.size w w' := by
 have hc : cmpN (num h l) (num 0 9223372036854775807) = 1 := by unfold cmpN num at *; split <;> (try split) <;> omega
 have mL : mag (9223372036854775807) = 9223372036854775807 := by decide
 go_enter Tryz.func264, Tryz.ntmps264
 go_wp2
 go_region_held3 (fun w' => w'.cell? ⟨w.heap.size, 0, none⟩ = some (.int .u64 h) ∧ w'.cell? ⟨w.heap.size, 1, none⟩ = some (.int .u64 l)) (go_keep)
   (first
     | (go_at_call 266; refine (size_any _ _ (by omega) (by omega)).mono ?_; rintro e w' ⟨rfl, rfl⟩)
     | (go_at_call 274; refine (wof_any _ _).mono ?_; rintro e w' ⟨rfl, hb1⟩; obtain ⟨hc1, hf1⟩ := bcell hb1; have hz1 : w.heap.size < w'.heap.size := by (have := hb1.size; simp at this; omega))
     | (go_at_call 270; refine (wcmp_any _ _ _ _ _ (by omega) (by omega) (by omega) (by omega) (by omega) (by omega) (by omega) (by omega)).mono ?_; rintro e w' ⟨rfl, hb2⟩; obtain ⟨hc2, hf2⟩ := bcell hb2))
 go_wp2
 go_ret
 exact ⟨rfl, ((((Below.refl _ _).alloc (Nat.le_refl _) _).drew).trans (hb1.mono (by simp))).trans (hb2.mono (by omega))⟩
set_option maxHeartbeats 400000 in
theorem sat_pos_fits (h l : Int) (w : World) (h0 : 0 ≤ h) (h1 : h ≤ 18446744073709551615) (l0 : 0 ≤ l) (l1 : l ≤ 18446744073709551615) (hn : num h l ≤ 9223372036854775807) :
   Calls Tryz.prog 264 #[.bool false, .agg #[.int .u64 h, .int .u64 l]] w fun e w' => e = .returned (.int .i64 (sat (num h l))) ∧ Below w.heap.size w w' := by
 obtain ⟨c, hc⟩ : ∃ c, cmpN (num h l) (num 0 9223372036854775807) = c := ⟨_, rfl⟩
 have c0 : c ≤ 0 := by rw [← hc]; unfold cmpN num at *; split <;> (try split) <;> omega
 have e4 : IntKind.i64.wrap l = sat (num h l) := by rw [IntKind.wrap_i64]; unfold sat num at *; split <;> (try split) <;> omega
 have mL : mag (9223372036854775807) = 9223372036854775807 := by decide
 go_enter Tryz.func264, Tryz.ntmps264
 go_wp2
 go_region_held3 (fun w' => w'.cell? ⟨w.heap.size, 0, none⟩ = some (.int .u64 h) ∧ w'.cell? ⟨w.heap.size, 1, none⟩ = some (.int .u64 l)) (go_keep)
   (first
     | (go_at_call 266; refine (size_any _ _ (by omega) (by omega)).mono ?_; rintro e w' ⟨rfl, rfl⟩)
     | (go_at_call 274; refine (wof_any _ _).mono ?_; rintro e w' ⟨rfl, hb1⟩; obtain ⟨hc1, hf1⟩ := bcell hb1; have hz1 : w.heap.size < w'.heap.size := by (have := hb1.size; simp at this; omega))
     | (go_at_call 270; refine (wcmp_any _ _ _ _ _ (by omega) (by omega) (by omega) (by omega) (by omega) (by omega) (by omega) (by omega)).mono ?_; rintro e w' ⟨rfl, hb2⟩; obtain ⟨hc2, hf2⟩ := bcell hb2))
 go_wp2
 go_ret
 exact ⟨rfl, ((((Below.refl _ _).alloc (Nat.le_refl _) _).drew).trans (hb1.mono (by simp))).trans (hb2.mono (by omega))⟩
theorem sat_neg (h l : Int) (w : World) (h0 : 0 ≤ h) (h1 : h ≤ 18446744073709551615) (l0 : 0 ≤ l) (l1 : l ≤ 18446744073709551615) :
   Calls Tryz.prog 264 #[.bool true, .agg #[.int .u64 h, .int .u64 l]] w fun e w' => e = .returned (.int .i64 (sat (- num h l))) ∧ Below w.heap.size w w' := by
 by_cases hn : 9223372036854775808 < num h l
 · have e : sat (- num h l) = -9223372036854775808 := by unfold sat; split <;> (try split) <;> omega
   rw [e]; exact sat_neg_over h l w h0 h1 l0 l1 hn
 · exact sat_neg_fits h l w h0 h1 l0 l1 (by omega)
theorem sat_pos (h l : Int) (w : World) (h0 : 0 ≤ h) (h1 : h ≤ 18446744073709551615) (l0 : 0 ≤ l) (l1 : l ≤ 18446744073709551615) :
   Calls Tryz.prog 264 #[.bool false, .agg #[.int .u64 h, .int .u64 l]] w fun e w' => e = .returned (.int .i64 (sat (num h l))) ∧ Below w.heap.size w w' := by
 by_cases hn : 9223372036854775807 < num h l
 · have e : sat (num h l) = 9223372036854775807 := by unfold sat; split <;> (try split) <;> omega
   rw [e]; exact sat_pos_over h l w h0 h1 l0 l1 hn
 · exact sat_pos_fits h l w h0 h1 l0 l1 (by omega)
set_option maxHeartbeats 400000 in
theorem round_pos (h l r : Int) (w : World) (h0 : 0 ≤ h) (h1 : h ≤ 18446744073709551615) (l0 : 0 ≤ l) (l1 : l ≤ 18446744073709551615) :
   Calls Tryz.prog 271 #[.bool false, .agg #[.int .u64 h, .int .u64 l], .int .u64 r] w fun e w' => e = .returned (.int .i64 (sat (num h l))) ∧ Below w.heap.size w w' := by
 go_enter Tryz.func271, Tryz.ntmps271
 go_wp2_with (go_at_call 264; refine (sat_pos _ _ _ h0 h1 l0 l1).mono ?_; rintro e w' ⟨rfl, hb1⟩)
 go_ret
 exact ⟨rfl, ((Below.refl _ _).alloc (Nat.le_refl _) _).trans (hb1.mono (by simp))⟩
set_option maxHeartbeats 400000 in
theorem round_exact (h l : Int) (w : World) (h0 : 0 ≤ h) (h1 : h ≤ 18446744073709551615) (l0 : 0 ≤ l) (l1 : l ≤ 18446744073709551615) :
   Calls Tryz.prog 271 #[.bool true, .agg #[.int .u64 h, .int .u64 l], .int .u64 0] w fun e w' => e = .returned (.int .i64 (sat (- num h l))) ∧ Below w.heap.size w w' := by
 go_enter Tryz.func271, Tryz.ntmps271
 go_wp2_with (go_at_call 264; refine (sat_neg _ _ _ h0 h1 l0 l1).mono ?_; rintro e w' ⟨rfl, hb1⟩)
 go_ret
 exact ⟨rfl, ((Below.refl _ _).alloc (Nat.le_refl _) _).trans (hb1.mono (by simp))⟩
set_option maxHeartbeats 400000 in
theorem round_rest (h l r : Int) (w : World) (h0 : 0 ≤ h) (h1 : h ≤ 4294967295) (l0 : 0 ≤ l) (l1 : l ≤ 18446744073709551615) (hr : ¬ r = 0) :
   Calls Tryz.prog 271 #[.bool true, .agg #[.int .u64 h, .int .u64 l], .int .u64 r] w fun e w' => e = .returned (.int .i64 (sat (-(num h l + 1)))) ∧ Below w.heap.size w w' := by
 have ea : addN (num h l) (num 0 1) = num h l + 1 := by unfold addN num; omega
 have n0 : 0 ≤ num h l + 1 := by unfold num; omega
 have n1 : num h l + 1 < 340282366920938463463374607431768211456 := by unfold num; omega
 have b0 := hi0 _ n0
 have b1 := hi1 _ n1
 have b2 := lo0 (num h l + 1)
 have b3 := lo1 (num h l + 1)
 have en := num_hi_lo (num h l + 1)
 go_enter Tryz.func271, Tryz.ntmps271
 go_wp2
 go_region_with (first
     | (go_at_call 274; refine (wof_any _ _).mono ?_; rintro e w' ⟨rfl, hb1⟩; obtain ⟨hc1, hf1⟩ := bcell hb1; have hz1 : w.heap.size < w'.heap.size := by (have := hb1.size; simp at this; omega))
     | (go_at_call 276; refine (wadd_any _ _ _ _ _ (by omega) (by omega) (by omega) (by omega) (by omega) (by omega) (by omega) (by omega)).mono ?_; rintro e w' ⟨rfl, hb2⟩; obtain ⟨hc2, hf2⟩ := bcell hb2))
 all_goals
   go_wp2_with (go_at_call 264; refine (sat_neg _ _ _ b0 b1 b2 b3).mono ?_; rintro e w' ⟨rfl, hb3⟩; rw [en])
   go_ret
   exact ⟨rfl, (((((((Below.refl _ _).alloc (Nat.le_refl _) _).drew).trans (hb1.mono (by simp))).trans (hb2.mono (by omega))).setCell (by simp) _).setCell (by simp) _).trans (hb3.mono (by have := hb1.size; have := hb2.size; simp at *; omega))⟩
end Go.Proofs.YtcffeokbipjaoaaGreat
namespace Go.Proofs.YtcffeokbipjaoaaGreat
open Go.ChangeShapes Go.WideShapes Go.ChangeAt Go.RowKit Kn
set_option linter.unusedVariables false
set_option maxHeartbeats 400000 in
theorem fmul_t (a b : Int) (w : World) (a0 : -9223372036854775808 ≤ a) (a1 : a ≤ 9223372036854775807) (b0 : -9223372036854775808 ≤ b) (b1 : b ≤ 9223372036854775807) (hneg : negB a b = true) :
   Calls Tryz.prog 251 #[.int .i64 a, .int .i64 b] w fun e w' => e = .returned (.int .i64 (sat (a * b))) ∧ Below w.heap.size w w' := by
 have m0 := mag0 a
 have m1 := mag1 a a0 a1
 have m2 := mag0 b
 have m3 := mag1 b b0 b1
 obtain ⟨n0, n1⟩ := magmul a b a0 a1 b0 b1
 rw [mul_neg a b hneg]
 have k0 := hi0 _ n0
 have k1 := hi1 (mag a * mag b) (by omega)
 have k2 := lo0 (mag a * mag b)
 have k3 := lo1 (mag a * mag b)
 have en := num_hi_lo (mag a * mag b)
 go_enter Tryz.func251, Tryz.ntmps251
 go_wp2_with (first
   | (go_at_call 265; refine (below_any _ _ _).mono ?_; rintro e w' ⟨rfl, rfl⟩)
   | (go_at_call 266; refine (size_any _ _ (by omega) (by omega)).mono ?_; rintro e w' ⟨rfl, rfl⟩)
   | (go_at_call 252; refine (wmul_any _ _ _ (by omega) (by omega) (by omega) (by omega)).mono ?_; rintro e w1 ⟨rfl, hb1⟩)
   | (go_at_call 264; refine (sat_neg _ _ _ k0 k1 k2 k3).mono ?_; rintro e w2 ⟨rfl, hb2⟩; rw [en]))
 go_ret
 exact ⟨rfl, hb1.trans (hb2.mono hb1.size)⟩
set_option maxHeartbeats 400000 in
theorem fmul_f (a b : Int) (w : World) (a0 : -9223372036854775808 ≤ a) (a1 : a ≤ 9223372036854775807) (b0 : -9223372036854775808 ≤ b) (b1 : b ≤ 9223372036854775807) (hneg : negB a b = false) :
   Calls Tryz.prog 251 #[.int .i64 a, .int .i64 b] w fun e w' => e = .returned (.int .i64 (sat (a * b))) ∧ Below w.heap.size w w' := by
 have m0 := mag0 a
 have m1 := mag1 a a0 a1
 have m2 := mag0 b
 have m3 := mag1 b b0 b1
 obtain ⟨n0, n1⟩ := magmul a b a0 a1 b0 b1
 rw [mul_pos a b hneg]
 have k0 := hi0 _ n0
 have k1 := hi1 (mag a * mag b) (by omega)
 have k2 := lo0 (mag a * mag b)
 have k3 := lo1 (mag a * mag b)
 have en := num_hi_lo (mag a * mag b)
 go_enter Tryz.func251, Tryz.ntmps251
 go_wp2_with (first
   | (go_at_call 265; refine (below_any _ _ _).mono ?_; rintro e w' ⟨rfl, rfl⟩)
   | (go_at_call 266; refine (size_any _ _ (by omega) (by omega)).mono ?_; rintro e w' ⟨rfl, rfl⟩)
   | (go_at_call 252; refine (wmul_any _ _ _ (by omega) (by omega) (by omega) (by omega)).mono ?_; rintro e w1 ⟨rfl, hb1⟩)
   | (go_at_call 264; refine (sat_pos _ _ _ k0 k1 k2 k3).mono ?_; rintro e w2 ⟨rfl, hb2⟩; rw [en]))
 go_ret
 exact ⟨rfl, hb1.trans (hb2.mono hb1.size)⟩
theorem fmul_any (a b : Int) (w : World) (a0 : -9223372036854775808 ≤ a) (a1 : a ≤ 9223372036854775807) (b0 : -9223372036854775808 ≤ b) (b1 : b ≤ 9223372036854775807) :
   Calls Tryz.prog 251 #[.int .i64 a, .int .i64 b] w fun e w' => e = .returned (.int .i64 (sat (a * b))) ∧ Below w.heap.size w w' := by
 cases h : negB a b
 · exact fmul_f a b w a0 a1 b0 b1 h
 · exact fmul_t a b w a0 a1 b0 b1 h
theorem round_any (neg : Bool) (n r : Int) (w : World) (n0 : 0 ≤ n) (n1 : n < 79228162514264337593543950336) :
   Calls Tryz.prog 271 #[.bool neg, .agg #[.int .u64 (hi n), .int .u64 (lo n)], .int .u64 r] w fun e w' => e = .returned (.int .i64 (sat (downN neg n r))) ∧ Below w.heap.size w w' := by
 have k0 := hi0 _ n0
 have k1 : hi n ≤ 4294967295 := by unfold hi; omega
 have k2 := lo0 n
 have k3 := lo1 n
 have en := num_hi_lo n
 cases neg
 · have h := round_pos (hi n) (lo n) r w k0 (by omega) k2 k3
   rw [en] at h
   simpa [downN] using h
 · by_cases hr : r = 0
   · subst hr
     have h := round_exact (hi n) (lo n) w k0 (by omega) k2 k3
     rw [en] at h
     simpa [downN] using h
   · have h := round_rest (hi n) (lo n) r w k0 k1 k2 k3 hr
     rw [en] at h
     simpa [downN, hr] using h
set_option maxHeartbeats 400000 in
theorem product_any (a b : Int) (w : World) (a0 : -9223372036854775808 ≤ a) (a1 : a ≤ 9223372036854775807) (b0 : -9223372036854775808 ≤ b) (b1 : b ≤ 9223372036854775807) :
   Calls Tryz.prog 255 #[.int .i64 a, .int .i64 b] w fun e w' => e = .returned (.int .i64 (sat (prodN a b))) ∧ Below w.heap.size w w' := by
 have m0 := mag0 a
 have m1 := mag1 a a0 a1
 have m2 := mag0 b
 have m3 := mag1 b b0 b1
 obtain ⟨n0, n1⟩ := magmul a b a0 a1 b0 b1
 have k0 := hi0 _ n0
 have k1 := hi1 (mag a * mag b) (by omega)
 have k2 := lo0 (mag a * mag b)
 have k3 := lo1 (mag a * mag b)
 have en := num_hi_lo (mag a * mag b)
 go_enter Tryz.func255, Tryz.ntmps255
 go_wp2_with (first
   | (go_at_call 266; refine (size_any _ _ (by omega) (by omega)).mono ?_; rintro e w' ⟨rfl, rfl⟩)
   | (go_at_call 252; refine (wmul_any _ _ _ (by omega) (by omega) (by omega) (by omega)).mono ?_; rintro e w1 ⟨rfl, hb1⟩)
   | (go_at_call 253; refine (wdiv_any _ _ _ _ k0 k1 k2 k3 (by omega) (by omega)).mono ?_; rintro e w2 ⟨rfl, hb2⟩; rw [en]))
 go_region_held3 (fun w' => w'.cell? ⟨w2.heap.size, 0, none⟩ = some (.int .u64 (hi (mag a * mag b / 4294967296))) ∧ w'.cell? ⟨w2.heap.size, 1, none⟩ = some (.int .u64 (lo (mag a * mag b / 4294967296)))) (go_keep)
   (first
     | (go_at_call 265; refine (below_any _ _ _).mono ?_; rintro e w' ⟨rfl, rfl⟩)
     | (go_at_call 271; refine (round_any _ _ _ _ (by omega) (by omega)).mono ?_; rintro e w3 ⟨rfl, hb3⟩; obtain ⟨hc3, hf3⟩ := bcell hb3))
 go_wp2
 go_ret
 exact ⟨rfl, (((hb1.trans (hb2.mono hb1.size)).alloc (by have := hb1.size; have := hb2.size; omega) _).drew).trans (hb3.mono (by have := hb1.size; have := hb2.size; simp; omega))⟩
set_option maxHeartbeats 400000 in
theorem qtimes_any (a b : Int) (w : World) (a0 : -9223372036854775808 ≤ a) (a1 : a ≤ 9223372036854775807) (b0 : -9223372036854775808 ≤ b) (b1 : b ≤ 9223372036854775807) :
   Calls Tryz.prog 221 #[.int .i64 a, .int .i64 b] w fun e w' => e = .returned (.int .i64 (sat (prodN a b))) ∧ Below w.heap.size w w' := by
 go_enter Tryz.func221, Tryz.ntmps221
 go_wp2_with (go_at_call 255; refine (product_any _ _ _ a0 a1 b0 b1).mono ?_; rintro e w1 ⟨rfl, hb1⟩)
 go_ret
 exact ⟨rfl, hb1⟩
theorem qfloor_any (a : Int) (w : World) (a0 : -9223372036854775808 ≤ a) (a1 : a ≤ 9223372036854775807) :
   Calls Tryz.prog 223 #[.int .i64 a] w fun e w' => e = .returned (.int .i64 (a / 4294967296)) ∧ w = w' := by
 go_enter Tryz.func223, Tryz.ntmps223
 go_wp2
 go_ret
 exact ⟨rfl, rfl⟩
end Go.Proofs.YtcffeokbipjaoaaGreat
