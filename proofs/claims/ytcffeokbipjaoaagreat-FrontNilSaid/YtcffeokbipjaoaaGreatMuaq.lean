/- Texts of this claim, one behind the other: Nums Pair Sat Satb Digs Refa Refc Refh Refo Roota Rootc Cod Fix Codq Digm Mod Refi Pid. -/
import Derived.Lib.BitFns
import Derived.Lib.ItoaNum
import Derived.Laws.BitsLemmas
import Derived.Laws.Bits64
import Derived.Laws.BitsAllLaws
import Derived.Below
import Derived.Deep.Draws
import Derived.WalkKit
import Derived.ProofKit
import Derived.OpenShut
import Derived.BigQuiet
import Derived.Deep.QuietTactic
import Derived.Lib.Hide
import Derived.LoopTactic
import Derived.Outline
import Derived.RegionTactic
import Derived.BigRegion
import Derived.Deep.RegionHeld3
import Derived.WalkSpells
import Derived.Laws.Pointers
import Derived.Laws.AppendOwn
import Derived.Laws.OwnMore
import Derived.Deep.LoopGhost
import Derived.Deep.OwnRows
import Derived.Deep.DeepFit
import Derived.Deep.DeepCutAuto
import Derived.Test.YtcffeokbipjaoaaGreatMuaa
import Derived.Test.YtcffeokbipjaoaaGreatMuaj
import Derived.Test.YtcffeokbipjaoaaGreatMual
namespace Go.Proofs.YtcffeokbipjaoaaGreat.Kn
theorem spread (q y1 y0 : Int) : q * (y1 * 4294967296 + y0) = q * y1 * 4294967296 + q * y0 := by
 rw [Int.mul_add, Int.mul_assoc]
theorem top (u u1 y : Int) (hu0 : 0 ≤ u) (hu : u < y) (h1 : u1 < 4294967296) :
   (u * 4294967296 + u1) / y < 4294967296 :=
 Int.ediv_lt_of_lt_mul (by omega) (by omega)
theorem start (u u1 y1 y0 y : Int) (hy : y = y1 * 4294967296 + y0) (hy1 : 2147483648 ≤ y1) (k0 : 0 ≤ y0) (hy0 : y0 < 4294967296) (hu0 : 0 ≤ u) (hu : u < y) (h0 : 0 ≤ u1) (h1 : u1 < 4294967296) :
   u / y1 ≤ 4294967297 ∧ 0 ≤ u / y1 ∧ 0 ≤ u - u / y1 * y1 ∧ u - u / y1 * y1 < y1 ∧ (u * 4294967296 + u1) / y ≤ u / y1 := by
 have e := Int.emod_add_mul_ediv u y1
 have n0 := Int.emod_nonneg u (b := y1) (by omega)
 have n1 := Int.emod_lt_of_pos u (b := y1) (by omega)
 rw [Int.mul_comm] at e
 refine ⟨?_, Int.ediv_nonneg hu0 (by omega), by omega, by omega, ?_⟩
 · have : u / y1 < 4294967298 := Int.ediv_lt_of_lt_mul (by omega) (by omega)
   omega
 · apply (Int.le_ediv_iff_mul_le (by omega)).2
   have h := Int.ediv_mul_le (u * 4294967296 + u1) (b := y) (by omega)
   have hq : 0 ≤ (u * 4294967296 + u1) / y := Int.ediv_nonneg (by omega) (by omega)
   have e2 := spread ((u * 4294967296 + u1) / y) y1 y0
   have e3 : 0 ≤ (u * 4294967296 + u1) / y * y0 := Int.mul_nonneg hq k0
   rw [← hy] at e2
   generalize (u * 4294967296 + u1) / y = Q at h e2 e3 ⊢
   omega
theorem more (u u1 y1 y0 y q r : Int) (hy : y = y1 * 4294967296 + y0) (hu0 : 0 ≤ u) (hu : u < y) (h1 : u1 < 4294967296) (e : q * y1 + r = u)
   (hq : 4294967296 ≤ q ∨ 4294967296 * r + u1 < q * y0) (hQ : (u * 4294967296 + u1) / y ≤ q) (h0 : 0 ≤ u1) :
   1 ≤ q ∧ (u * 4294967296 + u1) / y ≤ q - 1 := by
 have ht := top u u1 y hu0 hu h1
 have hp : 0 ≤ (u * 4294967296 + u1) / y := Int.ediv_nonneg (by omega) (by omega)
 rcases hq with hq | hq
 · omega
 · have e2 := spread q y1 y0
   rw [← hy] at e2
   have h2 : (u * 4294967296 + u1) / y < q := Int.ediv_lt_of_lt_mul (by omega) (by omega)
   omega
theorem brk (u u1 y1 y0 y q r : Int) (hy : y = y1 * 4294967296 + y0) (hp : 0 < y) (k0 : 0 ≤ y0) (hy0 : y0 < 4294967296) (h0 : 0 ≤ u1) (e : q * y1 + r = u) (hr : 4294967296 ≤ r) (hq : q ≤ 4294967296) :
   q ≤ (u * 4294967296 + u1) / y := by
 apply (Int.le_ediv_iff_mul_le hp).2
 have hb : q * y0 ≤ 4294967296 * 4294967295 := Int.mul_le_mul hq (by omega) k0 (by omega)
 have e2 := spread q y1 y0
 rw [← hy] at e2
 omega
theorem stop (u u1 y1 y0 y q r : Int) (hy : y = y1 * 4294967296 + y0) (hp : 0 < y) (e : q * y1 + r = u) (h : q * y0 ≤ 4294967296 * r + u1) :
   q ≤ (u * 4294967296 + u1) / y := by
 apply (Int.le_ediv_iff_mul_le hp).2
 have e2 := spread q y1 y0
 rw [← hy] at e2
 omega
theorem round (u u1 y1 y0 y q r Q : Int) (hQ : Q = (u * 4294967296 + u1) / y) (hy : y = y1 * 4294967296 + y0) (hy1 : 2147483648 ≤ y1) (k0 : 0 ≤ y0) (k1 : y0 ≤ 4294967295)
   (hu0 : 0 ≤ u) (hu : u < y) (h0 : 0 ≤ u1) (h1 : u1 ≤ 4294967295) (q0 : 0 ≤ q) (q1 : q ≤ 4294967297) (e : q * y1 + r = u) (le : Q ≤ q) :
   ((4294967296 ≤ q ∨ q < 4294967296 ∧ 4294967296 * r + u1 < q * y0 ∧ 0 ≤ q * y0 ∧ q * y0 ≤ 18446744073709551615) ∧ q - 1 = Q ∧ 4294967296 ≤ r + y1) ∨
   ((4294967296 ≤ q ∨ q < 4294967296 ∧ 4294967296 * r + u1 < q * y0 ∧ 0 ≤ q * y0 ∧ q * y0 ≤ 18446744073709551615) ∧ 1 ≤ q ∧ r + y1 < 4294967296 ∧ (q - 1) * y1 + (r + y1) = u ∧ Q ≤ q - 1) ∨
   (q < 4294967296 ∧ q = Q ∧ 0 ≤ q * y0 ∧ q * y0 ≤ 4294967296 * r + u1) := by
 have p0 : 0 ≤ q * y0 := Int.mul_nonneg q0 k0
 by_cases hq : 4294967296 ≤ q
 · obtain ⟨a, b⟩ := more u u1 y1 y0 y q r hy hu0 hu (by omega) e (.inl hq) (by omega) h0
   rw [← hQ] at b
   have e3 : (q - 1) * y1 + (r + y1) = u := by rw [Int.sub_mul]; omega
   by_cases hr : 4294967296 ≤ r + y1
   · have := brk u u1 y1 y0 y (q - 1) (r + y1) hy (by omega) k0 (by omega) h0 e3 hr (by omega)
     exact .inl ⟨.inl hq, by omega, hr⟩
   · exact .inr (.inl ⟨.inl hq, a, by omega, e3, b⟩)
 · have p1 : q * y0 ≤ 4294967295 * 4294967295 := Int.mul_le_mul (by omega) k1 k0 (by omega)
   by_cases ht : 4294967296 * r + u1 < q * y0
   · obtain ⟨a, b⟩ := more u u1 y1 y0 y q r hy hu0 hu (by omega) e (.inr ht) (by omega) h0
     rw [← hQ] at b
     have e3 : (q - 1) * y1 + (r + y1) = u := by rw [Int.sub_mul]; omega
     by_cases hr : 4294967296 ≤ r + y1
     · have := brk u u1 y1 y0 y (q - 1) (r + y1) hy (by omega) k0 (by omega) h0 e3 hr (by omega)
       exact .inl ⟨.inr ⟨by omega, ht, p0, by omega⟩, by omega, hr⟩
     · exact .inr (.inl ⟨.inr ⟨by omega, ht, p0, by omega⟩, a, by omega, e3, b⟩)
   · have := stop u u1 y1 y0 y q r hy (by omega) e (by omega)
     exact .inr (.inr ⟨by omega, by omega, p0, by omega⟩)
end Go.Proofs.YtcffeokbipjaoaaGreat.Kn
namespace Go.Proofs.YtcffeokbipjaoaaGreat.Kn
def hi (n : Int) : Int := n / 18446744073709551616
def lo (n : Int) : Int := n % 18446744073709551616
theorem lo0 (n : Int) : 0 ≤ lo n := by unfold lo; omega
theorem lo1 (n : Int) : lo n ≤ 18446744073709551615 := by unfold lo; omega
theorem hi0 (n : Int) (h : 0 ≤ n) : 0 ≤ hi n := by unfold hi; omega
theorem spare (k : Nat) (hk : k ≤ 64) : (2 : Int) ^ k * 2 ^ (64 - k) = 18446744073709551616 := by
 rw [← Int.pow_add, show k + (64 - k) = 64 by omega]; rfl
theorem below_drewN {B : Nat} {a w : World} (h : RowKit.Below B a w) (n : Nat) : RowKit.Below B a (w.drewN n) := ⟨h.os, h.tape, h.output, h.size, h.block⟩
theorem ret_int {k : IntKind} {a b : Int} (h : a = b) : Ending.returned (.int k a) = .returned (.int k b) := by rw [h]
theorem ret_bool {a b : Bool} (h : a = b) : Ending.returned (.bool a) = .returned (.bool b) := by rw [h]
end Go.Proofs.YtcffeokbipjaoaaGreat.Kn
namespace Go.Proofs.YtcffeokbipjaoaaGreat.Kn
def sat (x : Int) : Int := if x > 9223372036854775807 then 9223372036854775807 else if x < -9223372036854775808 then -9223372036854775808 else x
def mag (a : Int) : Int := if a < 0 then -a else a
def negB (a b : Int) : Bool := decide (a < 0) != decide (b < 0)
def downN (neg : Bool) (n r : Int) : Int := if neg then (if r = 0 then -n else -(n + 1)) else n
def prodN (a b : Int) : Int := downN (negB a b) (mag a * mag b / 4294967296) (mag a * mag b % 4294967296)
end Go.Proofs.YtcffeokbipjaoaaGreat.Kn
namespace Go.Proofs.YtcffeokbipjaoaaGreat.Kn
theorem sat_lo (x : Int) : -9223372036854775808 ≤ sat x := by unfold sat; split <;> (try split) <;> omega
theorem sat_up (x : Int) : sat x ≤ 9223372036854775807 := by unfold sat; split <;> (try split) <;> omega
end Go.Proofs.YtcffeokbipjaoaaGreat.Kn
namespace Go.Proofs.YtcffeokbipjaoaaGreat.Kn
theorem pp (k : Nat) : (0 : Int) < 65536 ^ k := Int.pow_pos (by decide)
def up (f : Nat → Int) : Nat → Int := fun i => f (i + 4)
end Go.Proofs.YtcffeokbipjaoaaGreat.Kn
namespace Go.Proofs.YtcffeokbipjaoaaGreat
open Go.ChangeShapes Go.WideShapes Go.ChangeAt Go.RowKit Kn
set_option linter.unusedVariables false
def Row (w : World) (g : Nat) (f : Nat → Int) : Prop := ∃ (c : Nat) (F : Nat → Value), 8 ≤ c ∧ w.rowIs g 3 c F ∧ ∀ i, i < 8 → F i = .int .i64 (f i)
namespace Row
variable {w : World} {g : Nat} {f : Nat → Int}
theorem cell (h : Row w g f) {i : Nat} (hi : i < 8) : w.cell? ⟨g, i, none⟩ = some (.int .i64 (f i)) := by
 obtain ⟨c, F, h8, hr, hF⟩ := h
 rw [hr.cell (by omega), hF i hi]
theorem frozen (h : Row w g f) (i : Nat) : w.frozen? ⟨g, i, none⟩ = false := by
 obtain ⟨c, F, h8, hr, hF⟩ := h
 exact hr.frozen i
theorem lt (h : Row w g f) : g < w.heap.size := by
 obtain ⟨c, F, h8, hr, hF⟩ := h
 exact hr.lt
theorem congr {k : Nat → Int} (h : Row w g f) (e : ∀ i, i < 8 → f i = k i) : Row w g k := by
 obtain ⟨c, F, h8, hr, hF⟩ := h
 exact ⟨c, F, h8, hr, fun i hi => by rw [hF i hi, e i hi]⟩
theorem below {w' : World} {B : Nat} (h : Row w g f) (hb : Below B w w') (hg : g < B) : Row w' g f := by
 obtain ⟨c, F, h8, hr, hF⟩ := h
 exact ⟨c, F, h8, hr.of_block (hb.block g hg), hF⟩
theorem alloc (h : Row w g f) (o : Obj) : Row (w.alloc o) g f := by
 obtain ⟨c, F, h8, hr, hF⟩ := h
 exact ⟨c, F, h8, hr.alloc o, hF⟩
theorem drew (h : Row w g f) : Row w.drew g f := h
theorem set (h : Row w g f) (i : Nat) (x : Int) : Row (w.setCell ⟨g, i, none⟩ (.int .i64 x)) g (fun j => if j = i then x else f j) := by
 obtain ⟨c, F, h8, hr, hF⟩ := h
 refine ⟨c, _, h8, hr.set i _, fun j hj => ?_⟩
 simp only
 split
 · rfl
 · exact hF j hj
end Row
end Go.Proofs.YtcffeokbipjaoaaGreat
namespace Go.Proofs.YtcffeokbipjaoaaGreat
open Go.ChangeShapes Go.WideShapes Go.ChangeAt Go.RowKit Kn
set_option linter.unusedVariables false
theorem Row.drewN {w : World} {g : Nat} {f : Nat → Int} (h : Row w g f) (n : Nat) : Row (w.drewN n) g f := h
end Go.Proofs.YtcffeokbipjaoaaGreat
namespace Go.Proofs.YtcffeokbipjaoaaGreat
open Go.ChangeShapes Go.WideShapes Go.ChangeAt Go.RowKit Kn
set_option linter.unusedVariables false
def bitN (n : Int) (i : Nat) : Int := n / 2 ^ i % 2
end Go.Proofs.YtcffeokbipjaoaaGreat
namespace Go.Proofs.YtcffeokbipjaoaaGreat
open Go.ChangeShapes Go.WideShapes Go.ChangeAt Go.RowKit Kn
set_option linter.unusedVariables false
def nb (n : Int) : Nat → Nat
 | 0 => 0
 | k + 1 => if bitN n k = 1 then k + 1 else nb n k
end Go.Proofs.YtcffeokbipjaoaaGreat
namespace Go.Proofs.YtcffeokbipjaoaaGreat.Kn
def rootF : Nat → Nat
 | 0 => 0
 | n + 1 => if (rootF n + 1) * (rootF n + 1) ≤ n + 1 then rootF n + 1 else rootF n
def rootN (n : Int) : Int := (rootF n.toNat : Int)
def lawN (i n : Int) : Int := rootN (i * i / max n 1)
end Go.Proofs.YtcffeokbipjaoaaGreat.Kn
namespace Go.Proofs.YtcffeokbipjaoaaGreat
open Go.ChangeShapes Go.WideShapes Go.ChangeAt Go.RowKit Kn
set_option linter.unusedVariables false
def lawZ (i n : Int) : Int := if i < 0 then 0 else lawN i n
end Go.Proofs.YtcffeokbipjaoaaGreat
namespace Go.Proofs.YtcffeokbipjaoaaGreat
open Go.RowKit Kn
structure Cst where
 ab : Bool
 fi : Int
 dr : Bool
 ne : Int
 co : Int
 la : Int
abbrev Cst.v (s : Cst) : Value := .agg #[.bool s.ab, .int .i64 s.fi, .bool s.dr, .int .i64 s.ne, .int .u64 s.co, .int .u64 s.la]
structure Cst.ok (s : Cst) : Prop where
 f0 : -9223372036854775808 ≤ s.fi
 f1 : s.fi ≤ 9223372036854775807
 n0 : -9223372036854775808 ≤ s.ne
 n1 : s.ne ≤ 9223372036854775807
 c0 : 0 ≤ s.co
 c1 : s.co ≤ 18446744073709551615
 l0 : 0 ≤ s.la
 l1 : s.la ≤ 18446744073709551615
def highB (t j b : Int) : Bool := decide (t ≤ j) && decide (1 < b)
def noteC (s : Cst) (i now : Int) (hb : Bool) : Cst :=
 bif hb then (bif s.ab then s else { s with ab := true, fi := sat (now + i) }) else { s with ab := false, fi := 0 }
def mayC (s : Cst) (now : Int) (hb : Bool) : Bool := s.ab && decide (s.fi ≤ now) && hb
def consC (s : Cst) (i now : Int) (hb : Bool) : Cst := { noteC s i now hb with dr := s.dr && mayC s now hb }
def upC (c : Int) : Int := if c < 18446744073709551615 then c + 1 else c
def timeC (s : Cst) (now : Int) : Cst × Int := if now < s.ne then (s, 0) else ({ s with co := upC s.co }, 1)
def beginN (s : Cst) (i now : Int) : Int :=
 let d := (s.co - s.la) % 18446744073709551616
 if 2 ≤ d ∧ d ≤ 9223372036854775808 ∧ sat (now - s.ne) < sat (16 * i) then d else 1
def beginC (s : Cst) (i now : Int) : Cst := { s with dr := true, co := beginN s i now, ne := sat (now + lawZ i (beginN s i now)), la := beginN s i now }
def lookC (s : Cst) (i now : Int) (hb : Bool) : Cst × Int :=
 bif mayC s now hb then (bif s.dr then timeC (consC s i now hb) now else (beginC (consC s i now hb) i now, 2)) else (consC s i now hb, 0)
def moreC (s : Cst) (i now : Int) (hb : Bool) : Cst × Int :=
 bif mayC s now hb then timeC { consC s i now hb with ne := sat (s.ne + lawZ i s.co) } now else (consC s i now hb, 0)
def emptyC (s : Cst) : Cst := { s with ab := false, fi := 0, dr := false }
end Go.Proofs.YtcffeokbipjaoaaGreat
namespace Go.Proofs.YtcffeokbipjaoaaGreat
open Go.ChangeShapes Go.WideShapes Go.ChangeAt Go.RowKit Kn
set_option linter.unusedVariables false
set_option maxHeartbeats 400000 in
theorem fadd_any (a b : Int) (w : World) (a0 : -9223372036854775808 ≤ a) (a1 : a ≤ 9223372036854775807) (b0 : -9223372036854775808 ≤ b) (b1 : b ≤ 9223372036854775807) :
   Calls Tryz.prog 55 #[.int .i64 a, .int .i64 b] w fun e w' => e = .returned (.int .i64 (sat (a + b))) ∧ w = w' := by
 go_enter Tryz.func55, Tryz.ntmps55
 go_wp2
 all_goals (go_ret; exact ⟨ret_int (by unfold sat; omega), rfl⟩)
set_option maxHeartbeats 400000 in
theorem fsub_any (a b : Int) (w : World) (a0 : -9223372036854775808 ≤ a) (a1 : a ≤ 9223372036854775807) (b0 : -9223372036854775808 ≤ b) (b1 : b ≤ 9223372036854775807) :
   Calls Tryz.prog 163 #[.int .i64 a, .int .i64 b] w fun e w' => e = .returned (.int .i64 (sat (a - b))) ∧ w = w' := by
 go_enter Tryz.func163, Tryz.ntmps163
 go_wp2
 all_goals (go_ret; exact ⟨ret_int (by unfold sat; omega), rfl⟩)
end Go.Proofs.YtcffeokbipjaoaaGreat
namespace Go.Proofs.YtcffeokbipjaoaaGreat
open Go.ChangeShapes Go.WideShapes Go.ChangeAt Go.RowKit Kn
set_option linter.unusedVariables false
def Stt (w : World) (g : Nat) (T : TypeId) (s : Cst) : Prop := Blk w g T #[.bool s.ab, .int .i64 s.fi, .bool s.dr, .int .i64 s.ne, .int .u64 s.co, .int .u64 s.la]
theorem Stt.store {w : World} {g : Nat} {T : TypeId} {s : Cst} (h : Stt w g T s) (a : Bool) (f : Int) (d : Bool) (n c l : Int) : Stt ((((((w.setCell ⟨g, 0, none⟩ (.bool a)).setCell ⟨g, 1, none⟩ (.int .i64 f)).setCell ⟨g, 2, none⟩ (.bool d)).setCell ⟨g, 3, none⟩ (.int .i64 n)).setCell ⟨g, 4, none⟩ (.int .u64 c)).setCell ⟨g, 5, none⟩ (.int .u64 l)) g T ⟨a, f, d, n, c, l⟩ := by
 have h' := ((((((show Blk _ _ _ _ from h).set_ 0 (.bool a)).set_ 1 (.int .i64 f)).set_ 2 (.bool d)).set_ 3 (.int .i64 n)).set_ 4 (.int .u64 c)).set_ 5 (.int .u64 l)
 simpa [Stt] using h'
theorem Blk.far6 {w : World} {g k : Nat} {t : TypeId} {cs : Array Value} (h : Blk w k t cs) (hk : k ≠ g) (a : Bool) (f : Int) (d : Bool) (n c l : Int) : Blk ((((((w.setCell ⟨g, 0, none⟩ (.bool a)).setCell ⟨g, 1, none⟩ (.int .i64 f)).setCell ⟨g, 2, none⟩ (.bool d)).setCell ⟨g, 3, none⟩ (.int .i64 n)).setCell ⟨g, 4, none⟩ (.int .u64 c)).setCell ⟨g, 5, none⟩ (.int .u64 l)) k t cs :=
 (((((h.far _ hk).far _ hk).far _ hk).far _ hk).far _ hk).far _ hk
theorem below6 {v w : World} {g B : Nat} (h : Below B v w) (hg : B ≤ g) (a : Bool) (f : Int) (d : Bool) (n c l : Int) : Below B v ((((((w.setCell ⟨g, 0, none⟩ (.bool a)).setCell ⟨g, 1, none⟩ (.int .i64 f)).setCell ⟨g, 2, none⟩ (.bool d)).setCell ⟨g, 3, none⟩ (.int .i64 n)).setCell ⟨g, 4, none⟩ (.int .u64 c)).setCell ⟨g, 5, none⟩ (.int .u64 l)) :=
 (((((h.setCell hg _).setCell hg _).setCell hg _).setCell hg _).setCell hg _).setCell hg _
structure Bx (v w : World) (T : TypeId) (r : Nat) (s z : Cst) (pr : Option (Int × Int)) : Prop where
 a : Stt w v.heap.size T s
 c : Stt w r T z
 hr : v.heap.size < r
 b : ∀ x, pr = some x → v.heap.size + 1 ≠ r ∧ Blk w (v.heap.size + 1) 286 #[.int .i64 x.1, .int .i64 x.2]
 be : Below v.heap.size v w
section
variable {v w w' : World} {T : TypeId} {r : Nat} {s z : Cst} {pr : Option (Int × Int)} {t i : Int}
theorem Bx.below (h : Bx v w T r s z pr) (hb : Below w.heap.size w w') : Bx v w' T r s z pr :=
 ⟨Blk.below_ h.a hb (Blk.size h.a), Blk.below_ h.c hb (Blk.size h.c), h.hr, fun x hx => ⟨(h.b x hx).1, (h.b x hx).2.below_ hb (h.b x hx).2.size⟩, under0 h.be hb⟩
theorem Bx.drew (h : Bx v w T r s z pr) : Bx v w.drew T r s z pr := ⟨h.a, h.c, h.hr, h.b, h.be.drew⟩
theorem Bx.drewN (h : Bx v w T r s z pr) (n : Nat) : Bx v (w.drewN n) T r s z pr := ⟨h.a, h.c, h.hr, h.b, below_drewN h.be n⟩
theorem Bx.store (h : Bx v w T r s z pr) (a : Bool) (f : Int) (d : Bool) (n c l : Int) : Bx v ((((((w.setCell ⟨v.heap.size, 0, none⟩ (.bool a)).setCell ⟨v.heap.size, 1, none⟩ (.int .i64 f)).setCell ⟨v.heap.size, 2, none⟩ (.bool d)).setCell ⟨v.heap.size, 3, none⟩ (.int .i64 n)).setCell ⟨v.heap.size, 4, none⟩ (.int .u64 c)).setCell ⟨v.heap.size, 5, none⟩ (.int .u64 l)) T r ⟨a, f, d, n, c, l⟩ z pr :=
 ⟨h.a.store a f d n c l, Blk.far6 h.c (Nat.ne_of_gt h.hr) a f d n c l, h.hr, fun x hx => ⟨(h.b x hx).1, (h.b x hx).2.far6 (by omega) a f d n c l⟩, below6 h.be (Nat.le_refl _) a f d n c l⟩
theorem Bx.one {z' : Cst} (h : Bx v w T r s z pr) (k : Nat) (u : Value) (hs : (#[.bool s.ab, .int .i64 s.fi, .bool s.dr, .int .i64 s.ne, .int .u64 s.co, .int .u64 s.la] : Array Value).setIfInBounds k u = #[.bool z'.ab, .int .i64 z'.fi, .bool z'.dr, .int .i64 z'.ne, .int .u64 z'.co, .int .u64 z'.la]) : Bx v (w.setCell ⟨v.heap.size, k, none⟩ u) T r z' z pr :=
 ⟨by have h' := (show Blk _ _ _ _ from h.a).set_ k u; rw [hs] at h'; exact h', Blk.far h.c u (Nat.ne_of_gt h.hr), h.hr, fun x hx => ⟨(h.b x hx).1, (h.b x hx).2.far u (by simp)⟩, h.be.setCell (Nat.le_refl _) _⟩
end
end Go.Proofs.YtcffeokbipjaoaaGreat
namespace Go.Proofs.YtcffeokbipjaoaaGreat.Kn
def mc (m x b : Int) (i k : Nat) : Int := (m % 65536 ^ (i + k) + x * 65536 ^ i * (b % 65536 ^ k)) / 65536 ^ (i + k)
end Go.Proofs.YtcffeokbipjaoaaGreat.Kn
namespace Go.Proofs.YtcffeokbipjaoaaGreat
open Go.ChangeShapes Go.WideShapes Go.ChangeAt Go.RowKit Kn
set_option linter.unusedVariables false
set_option linter.unusedSimpArgs false
structure Mst where
 li : Bool
 si : Int
 tu : Int
abbrev Mst.v (s : Mst) : Value := .agg #[.bool s.li, .int .i64 s.si, .int .u64 s.tu]
structure Mst.ok (s : Mst) : Prop where
 s0 : -9223372036854775808 ≤ s.si
 s1 : s.si ≤ 9223372036854775807
 t0 : 0 ≤ s.tu
 t1 : s.tu ≤ 18446744073709551615
def boundM (li : Bool) (hi lo : Int) : Int := bif li then lo else hi
def mayM (si tu dw now : Int) : Bool := decide (tu = 0) || decide (dw ≤ sat (now - si))
def wantM (li : Bool) (hi lo old bk : Int) : Bool := decide (0 < bk) && decide (boundM li hi lo ≤ old)
def turnM (s : Mst) (hi lo dw now old bk : Int) : Mst :=
 if wantM s.li hi lo old bk = s.li ∨ mayM s.si s.tu dw now = false then s else ⟨!s.li, now, (s.tu + 1) % 18446744073709551616⟩
end Go.Proofs.YtcffeokbipjaoaaGreat
namespace Go.Proofs.YtcffeokbipjaoaaGreat
open Go.ChangeShapes Go.WideShapes Go.ChangeAt Go.RowKit Kn
set_option linter.unusedVariables false
structure DivAt (w wr : World) (N d q r : Int) : Prop where
 below : Below w.heap.size w wr
 size : w.heap.size + 5 ≤ wr.heap.size
 n0 : wr.cell? ⟨w.heap.size, 0, none⟩ = some (.int .u64 (hi N))
 n1 : wr.cell? ⟨w.heap.size, 1, none⟩ = some (.int .u64 (lo N))
 z0 : wr.cell? ⟨w.heap.size + 1, 0, none⟩ = some (.int .u64 0)
 z1 : wr.cell? ⟨w.heap.size + 1, 1, none⟩ = some (.int .u64 0)
 q0 : wr.cell? ⟨w.heap.size + 1 + 1, 0, none⟩ = some (.int .u64 (hi q))
 q1 : wr.cell? ⟨w.heap.size + 1 + 1, 1, none⟩ = some (.int .u64 (lo q))
 r0 : wr.cell? ⟨w.heap.size + 1 + 1 + 1, 0, none⟩ = some (.int .u64 (hi r))
 r1 : wr.cell? ⟨w.heap.size + 1 + 1 + 1, 1, none⟩ = some (.int .u64 (lo r))
 d0 : wr.cell? ⟨w.heap.size + 1 + 1 + 1 + 1, 0, none⟩ = some (.int .u64 0)
 d1 : wr.cell? ⟨w.heap.size + 1 + 1 + 1 + 1, 1, none⟩ = some (.int .u64 d)
 f0 : wr.frozen? ⟨w.heap.size + 1, 0, none⟩ = false
 f1 : wr.frozen? ⟨w.heap.size + 1, 1, none⟩ = false
 f2 : wr.frozen? ⟨w.heap.size + 1 + 1, 0, none⟩ = false
 f3 : wr.frozen? ⟨w.heap.size + 1 + 1, 1, none⟩ = false
 f4 : wr.frozen? ⟨w.heap.size + 1 + 1 + 1, 0, none⟩ = false
 f5 : wr.frozen? ⟨w.heap.size + 1 + 1 + 1, 1, none⟩ = false
namespace DivAt
variable {w W w1 : World} {N d q r : Int}
theorem drew (h : DivAt w W N d q r) : DivAt w W.drew N d q r := ⟨h.below.drew, h.size, h.n0, h.n1, h.z0, h.z1, h.q0, h.q1, h.r0, h.r1, h.d0, h.d1, h.f0, h.f1, h.f2, h.f3, h.f4, h.f5⟩
theorem call (h : DivAt w W N d q r) (hb : Below W.heap.size W w1) : DivAt w w1 N d q r := by
 have hs := h.size
 exact ⟨h.below.trans (hb.mono (by omega)), Nat.le_trans hs hb.size, (hb.cell (p := ⟨w.heap.size, 0, none⟩) (by show w.heap.size < _; omega)).trans h.n0, (hb.cell (p := ⟨w.heap.size, 1, none⟩) (by show w.heap.size < _; omega)).trans h.n1, (hb.cell (p := ⟨w.heap.size + 1, 0, none⟩) (by show w.heap.size + 1 < _; omega)).trans h.z0, (hb.cell (p := ⟨w.heap.size + 1, 1, none⟩) (by show w.heap.size + 1 < _; omega)).trans h.z1, (hb.cell (p := ⟨w.heap.size + 1 + 1, 0, none⟩) (by show w.heap.size + 1 + 1 < _; omega)).trans h.q0, (hb.cell (p := ⟨w.heap.size + 1 + 1, 1, none⟩) (by show w.heap.size + 1 + 1 < _; omega)).trans h.q1, (hb.cell (p := ⟨w.heap.size + 1 + 1 + 1, 0, none⟩) (by show w.heap.size + 1 + 1 + 1 < _; omega)).trans h.r0, (hb.cell (p := ⟨w.heap.size + 1 + 1 + 1, 1, none⟩) (by show w.heap.size + 1 + 1 + 1 < _; omega)).trans h.r1, (hb.cell (p := ⟨w.heap.size + 1 + 1 + 1 + 1, 0, none⟩) (by show w.heap.size + 1 + 1 + 1 + 1 < _; omega)).trans h.d0, (hb.cell (p := ⟨w.heap.size + 1 + 1 + 1 + 1, 1, none⟩) (by show w.heap.size + 1 + 1 + 1 + 1 < _; omega)).trans h.d1, (hb.frozen (p := ⟨w.heap.size + 1, 0, none⟩) (by show w.heap.size + 1 < _; omega)).trans h.f0, (hb.frozen (p := ⟨w.heap.size + 1, 1, none⟩) (by show w.heap.size + 1 < _; omega)).trans h.f1, (hb.frozen (p := ⟨w.heap.size + 1 + 1, 0, none⟩) (by show w.heap.size + 1 + 1 < _; omega)).trans h.f2, (hb.frozen (p := ⟨w.heap.size + 1 + 1, 1, none⟩) (by show w.heap.size + 1 + 1 < _; omega)).trans h.f3, (hb.frozen (p := ⟨w.heap.size + 1 + 1 + 1, 0, none⟩) (by show w.heap.size + 1 + 1 + 1 < _; omega)).trans h.f4, (hb.frozen (p := ⟨w.heap.size + 1 + 1 + 1, 1, none⟩) (by show w.heap.size + 1 + 1 + 1 < _; omega)).trans h.f5⟩
theorem setR (h : DivAt w W N d q r) (x : Int) : DivAt w ((W.setCell ⟨w.heap.size + 1 + 1 + 1, 0, none⟩ (.int .u64 (hi x))).setCell ⟨w.heap.size + 1 + 1 + 1, 1, none⟩ (.int .u64 (lo x))) N d q x := by
 obtain ⟨hb, hsz, n0, n1, z0, z1, q0, q1, r0, r1, y0, y1, f0, f1, f2, f3, f4, f5⟩ := h
 exact ⟨(hb.setCell (p := ⟨w.heap.size + 1 + 1 + 1, 0, none⟩) (by dsimp only; omega) _).setCell (p := ⟨w.heap.size + 1 + 1 + 1, 1, none⟩) (by dsimp only; omega) _, by simpa [World.setCell] using hsz, by simp [go_sem, *], by simp [go_sem, *], by simp [go_sem, *], by simp [go_sem, *], by simp [go_sem, *], by simp [go_sem, *], by simp [go_sem, *], by simp [go_sem, *], by simp [go_sem, *], by simp [go_sem, *], by simp [go_sem, *], by simp [go_sem, *], by simp [go_sem, *], by simp [go_sem, *], by simp [go_sem, *], by simp [go_sem, *]⟩
end DivAt
end Go.Proofs.YtcffeokbipjaoaaGreat
namespace Go.Proofs.YtcffeokbipjaoaaGreat
open Go.ChangeShapes Go.WideShapes Go.ChangeAt Go.RowKit Kn
set_option linter.unusedVariables false
set_option linter.unusedSimpArgs false
structure Pst where
 su : Int
 la : Int
 le : Int
abbrev Pst.v (s : Pst) : Value := .agg #[.int .i64 s.su, .int .i64 s.la, .int .i64 s.le]
structure Pst.ok (s : Pst) : Prop where
 u0 : -9223372036854775808 ≤ s.su
 u1 : s.su ≤ 9223372036854775807
 a0 : -9223372036854775808 ≤ s.la
 a1 : s.la ≤ 9223372036854775807
 e0 : -9223372036854775808 ≤ s.le
 e1 : s.le ≤ 9223372036854775807
structure Ppr where
 sp : Int
 kp : Int
 ki : Int
 kd : Int
 li : Int
 st : Int
 mo : Int
abbrev Ppr.v (p : Ppr) : Value := .agg #[.int .i64 p.sp, .int .i64 p.kp, .int .i64 p.ki, .int .i64 p.kd, .int .i64 p.li, .int .i64 p.st, .int .i64 p.mo]
structure Ppr.ok (p : Ppr) : Prop where
 sp0 : -9223372036854775808 ≤ p.sp
 sp1 : p.sp ≤ 9223372036854775807
 kp0 : -9223372036854775808 ≤ p.kp
 kp1 : p.kp ≤ 9223372036854775807
 ki0 : -9223372036854775808 ≤ p.ki
 ki1 : p.ki ≤ 9223372036854775807
 kd0 : -9223372036854775808 ≤ p.kd
 kd1 : p.kd ≤ 9223372036854775807
 li0 : -9223372036854775808 ≤ p.li
 li1 : p.li ≤ 9223372036854775807
 st0 : -9223372036854775808 ≤ p.st
 st1 : p.st ≤ 9223372036854775807
 mo0 : -9223372036854775808 ≤ p.mo
 mo1 : p.mo ≤ 9223372036854775807
def clampN (x l h : Int) : Int := if x < l then l else if h < x then h else x
abbrev mx (a b : Int) : Int := max a b
abbrev mn (a b : Int) : Int := min a b
def fallP (s : Pst) (p : Ppr) (d : Int) : Pst := ⟨mx (sat (prodN s.su 2147483648)) 0, d, clampN (sat (s.le - 1)) 0 p.mo⟩
def sumP (s : Pst) (p : Ppr) (d : Int) : Int := clampN (sat (s.su + sat (prodN p.ki d))) 0 p.li
def outP (s : Pst) (p : Ppr) (d : Int) : Int := sat (sat (sat (prodN p.kp d) + sumP s p d) + sat (prodN p.kd (sat (d - s.la))))
def levP (s : Pst) (p : Ppr) (d : Int) : Int := mn (mx s.le (outP s p d / 4294967296)) (sat (s.le + p.st))
def riseP (s : Pst) (p : Ppr) (d : Int) : Pst := ⟨sumP s p d, d, clampN (levP s p d) 0 p.mo⟩
def sampP (s : Pst) (p : Ppr) (u : Int) : Pst := if p.sp < u then riseP s p (sat (u - p.sp)) else fallP s p (sat (u - p.sp))
theorem sat_in (x : Int) : -9223372036854775808 ≤ sat x ∧ sat x ≤ 9223372036854775807 := ⟨sat_lo x, sat_up x⟩
end Go.Proofs.YtcffeokbipjaoaaGreat
