/- Texts of this claim, one behind the other: Cri Cqm Cqo Crb Crj Crl. -/
import Derived.Test.YtcffeokbipjaoaaGreatMuaj
import Derived.Test.YtcffeokbipjaoaaGreatMuaq
import Derived.Test.YtcffeokbipjaoaaGreatMuar
import Derived.Test.YtcffeokbipjaoaaGreatMuat
import Derived.Test.YtcffeokbipjaoaaGreatMuba
import Derived.Test.YtcffeokbipjaoaaGreatMubb
import Derived.Test.YtcffeokbipjaoaaGreatMubc
namespace Go.Proofs.YtcffeokbipjaoaaGreat
open Go.ChangeShapes Go.WideShapes Go.RowKit Go.Sort Kn
set_option linter.unusedVariables false
set_option linter.unusedSimpArgs false
def pidS (S : Cor) (m : Pst) : Cor := { S with pid := m }
def pprS (S : Cor) : Ppr := ⟨S.cf.sp, S.cf.kp, S.cf.ki, S.cf.kd, S.cf.lm, S.cf.st, mostW S.cf⟩
def allQ (S : Cor) : List Qu := (allT S.q.L S.N).map fun i => ⟨S.q.V i, S.q.R i, i⟩
noncomputable def cutQ (S : Cor) : List Qu := cutSort (keepQ (edgeG S.cf.ti S.pid.le) (allQ S))
noncomputable def sampleS (S : Cor) (u : Int) : Cor := settleAll (pidS S (sampP S.pid (pprS S) u)) 3 ((cutQ (pidS S (sampP S.pid (pprS S) u))).map (·.i))
section
variable {w w' w'' : World} {p q gc gm l g b : Nat} {r r' : Option Nat} {O Oq Oq' O1 : Nat → Prop} {S S' : Cor} {T : TypeId} {cs : Array Value}
end
end Go.Proofs.YtcffeokbipjaoaaGreat
namespace Go.Proofs.YtcffeokbipjaoaaGreat
open Go.ChangeShapes Go.WideShapes Go.RowKit Kn
set_option linter.unusedVariables false
set_option linter.unusedSimpArgs false
abbrev lgT : TypeId := 110
theorem csinfo : (Tryz.prog.info? csT).map (fun i => (i.zero, i.size, i.bytes)) = some (some (.agg #[.bool false, .int .i64 0, .bool false, .int .i64 0, .int .u64 0, .int .u64 0]), 6, 48) := by kernel_rfl
theorem msinfo : (Tryz.prog.info? msT).map (fun i => (i.zero, i.size, i.bytes)) = some (some (.agg #[.bool false, .int .i64 0, .int .u64 0]), 3, 24) := by kernel_rfl
theorem run_cods (n : Nat) (hn : n ≤ 8) (w : World) :
   (Instr.makeSlice 87 (.int .i64 (n : Int)) (.int .i64 (n : Int))).run Tryz.prog w = .ok (.slice (some ⟨w.heap.size, 0, none⟩) n n) (w.alloc (.cells (madeCells #[.bool false, .int .i64 0, .bool false, .int .i64 0, .int .u64 0, .int .u64 0] (n * 6)) csT)) := by
 obtain ⟨i, hi, hzz⟩ := Option.map_eq_some_iff.1 csinfo
 simp only [Prod.mk.injEq] at hzz
 obtain ⟨hz, hs, hb⟩ := hzz
 have h := run_make (P := Tryz.prog) w 87 csT i _ Tryz.underlying87 hi hz .i64 .i64 n n (by omega) (Int.le_refl _) (by rw [hb]; omega) (by omega)
 simp only [Int.toNat_natCast, hs] at h
 exact h
theorem run_mods (n : Nat) (hn : n ≤ 8) (w : World) :
   (Instr.makeSlice 88 (.int .i64 (n : Int)) (.int .i64 (n : Int))).run Tryz.prog w = .ok (.slice (some ⟨w.heap.size, 0, none⟩) n n) (w.alloc (.cells (madeCells #[.bool false, .int .i64 0, .int .u64 0] (n * 3)) msT)) := by
 obtain ⟨i, hi, hzz⟩ := Option.map_eq_some_iff.1 msinfo
 simp only [Prod.mk.injEq] at hzz
 obtain ⟨hz, hs, hb⟩ := hzz
 have h := run_make (P := Tryz.prog) w 88 msT i _ Tryz.underlying88 hi hz .i64 .i64 n n (by omega) (Int.le_refl _) (by rw [hb]; omega) (by omega)
 simp only [Int.toNat_natCast, hs] at h
 exact h
theorem tnew_ex (w : World) : Calls Tryz.prog 38 #[] w fun e w' => e = .returned (.pointer (some ⟨w.heap.size, 0, none⟩)) ∧ w' = w.alloc (.cells #[.slice none 0 0] lgT) := by
 go_enter Tryz.func38, Tryz.ntmps38
 go_wp2_with fail
 go_ret
 exact ⟨rfl, rfl⟩
def newC (c : Cf) (N n : Nat) : Cor := ⟨c, N, n, 0, newS n, fun _ => ⟨false, 0, false, 0, 0, 0⟩, fun _ => ⟨false, 0, 0⟩, ⟨0, 0, 0⟩, [], 0, 0, 0, 0⟩
theorem newC_ok {c : Cf} {N n : Nat} (hf : c.fits) (hN : c.ti = (N : Int)) (hn : c.ro = (n : Int)) (n1 : 1 ≤ N) (n8 : N ≤ 8) (m1 : 1 ≤ n) (m2 : n ≤ 1024) : (newC c N n).ok := by
 refine ⟨hf, hN, hn, n1, n8, m1, m2, fun t _ => ⟨?_, ?_, ?_, ?_, ?_, ?_, ?_, ?_⟩, fun t _ => ⟨?_, ?_, ?_, ?_⟩, ⟨?_, ?_, ?_, ?_, ?_, ?_⟩, .inl rfl, ⟨?_, ?_⟩, ⟨?_, ?_⟩, ?_, rfl, fun i hi ht => ?_, ?_⟩
 all_goals (try dsimp only [newC, newS, List.length_nil])
 all_goals first | omega | (exact absurd ht (by simp [newC, newS]))
theorem made_row {w : World} {g N sz : Nat} {T : TypeId} {z : Array Value} {row : List Value} (h : Blk w g T (madeCells z (N * sz))) (hz : z.toList = row) (hl : row.length = sz) (h0 : 0 < sz) : RB w g T sz N (fun _ => row) := by
 refine ⟨_, h, made_size _ _, fun t ht k hk => ?_⟩
 have hlt : t * sz + k < N * sz := by
   have : (t + 1) * sz ≤ N * sz := Nat.mul_le_mul_right _ ht
   rw [Nat.add_mul, Nat.one_mul] at this; omega
 have hsz : z.size = sz := by rw [← hl, ← hz, Array.length_toList]
 rw [made_at _ _ hlt (by omega)]
 have e : (t * sz + k) % z.size = k := by rw [hsz, Nat.mul_comm, Nat.mul_add_mod, Nat.mod_eq_of_lt hk]
 rw [← hz]
 simp only [e]
 rw [List.getElem?_eq_getElem (by rw [hz, hl]; exact hk)]
 simp [Array.getElem?_eq_getElem, hsz, hk]
theorem new_end {w wa wz : World} {c : Cf} {N n p q gc gm l : Nat} {Oq : Nat → Prop} (hq : TqO wa q N n 0 (newS n) Oq) (hOq : ∀ k, Oq k → w.heap.size ≤ k) (ha : Below w.heap.size w wa) (hp : wa.heap.size ≤ p) (hgc : wa.heap.size ≤ gc) (hgm : wa.heap.size ≤ gm) (hl : wa.heap.size ≤ l)
   (bp : Blk wz p coT #[.int .i64 c.ti, .int .i64 c.ro, .int .i64 c.ta, .int .i64 c.iv, .int .i64 c.hg, .int .i64 c.lo, .int .i64 c.dw, .int .i64 c.ho, .int .i64 c.sp, .int .i64 c.kp, .int .i64 c.ki, .int .i64 c.kd, .int .i64 c.lm, .int .i64 c.st, .int .i64 c.th, .int .i64 c.rg, .pointer (some ⟨q, 0, none⟩), .slice (some ⟨gc, 0, none⟩) N N, .slice (some ⟨gm, 0, none⟩) N N, .int .i64 0, .int .i64 0, .int .i64 0, .pointer (some ⟨l, 0, none⟩), .int .u8 0, .int .i64 0, .int .i64 0, .int .u64 0]) (bc : Blk wz gc csT (madeCells #[.bool false, .int .i64 0, .bool false, .int .i64 0, .int .u64 0, .int .u64 0] (N * 6))) (bm : Blk wz gm msT (madeCells #[.bool false, .int .i64 0, .int .u64 0] (N * 3))) (bl : Blk wz l lgT #[.slice none 0 0]) (hz : Below wa.heap.size wa wz)
   (hf : c.fits) (hN : c.ti = (N : Int)) (hn : c.ro = (n : Int)) (n1 : 1 ≤ N) (n8 : N ≤ 8) (m1 : 1 ≤ n) (m2 : n ≤ 1024) :
   ∃ O, CoreL wz p O (newC c N n) ∧ ∀ k, O k → w.heap.size ≤ k := by
 have hB : CoreB wz p q gc gm l none Oq (newC c N n) := ⟨bp, hq.below hz, made_row bc rfl rfl (by omega), made_row bm rfl rfl (by omega), ⟨_, bl, OwO.nil_ _ _ _, rfl⟩, newC_ok hf hN hn n1 n8 m1 m2⟩
 have hs := ha.size
 refine ⟨_, hB.to, fun k hk => ?_⟩
 rcases hk with e | e | e | e | e | e
 · omega
 · omega
 · omega
 · omega
 · cases e
 · exact hOq k e
set_option maxRecDepth 100000 in
set_option maxHeartbeats 8000000 in
theorem cnew_yes (c : Cf) (N n : Nat) (w : World) (hv : validE c = 0) (hf : c.fits) (hN : c.ti = (N : Int)) (hn : c.ro = (n : Int)) (n1 : 1 ≤ N) (n8 : N ≤ 8) (m1 : 1 ≤ n) (m2 : n ≤ 1024) :
   Calls Tryz.prog 12 #[c.v] w fun e w' => ∃ (p : Nat) (O : Nat → Prop), e = .returned (.tuple #[.pointer (some ⟨p, 0, none⟩), .int .i64 0]) ∧ CoreL w' p O (newC c N n) ∧ (∀ k, O k → w.heap.size ≤ k) ∧ Below w.heap.size w w' := by
 have hva := fun wq => valid_any c wq
 rw [hv] at hva
 have HVA := Lib.hid hva
 have hm1 := run_cods N n8
 have hm2 := run_mods N n8
 have HF := Lib.hid hf
 have HN := Lib.hid hN
 have HN2 := Lib.hid hn
 clear hva hv hf hN hn
 obtain ⟨W0, hW0⟩ : ∃ W, w.alloc (.cells #[.int .i64 c.ti, .int .i64 c.ro, .int .i64 c.ta, .int .i64 c.iv, .int .i64 c.hg, .int .i64 c.lo, .int .i64 c.dw, .int .i64 c.ho, .int .i64 c.sp, .int .i64 c.kp, .int .i64 c.ki, .int .i64 c.kd, .int .i64 c.lm, .int .i64 c.st, .int .i64 c.th, .int .i64 c.rg] 24) = W := ⟨_, rfl⟩
 have hb0 : Below w.heap.size w W0 := by rw [← hW0]; exact (Below.refl _ _).alloc (Nat.le_refl _) _
 have hx0 : Blk W0 w.heap.size 24 #[.int .i64 c.ti, .int .i64 c.ro, .int .i64 c.ta, .int .i64 c.iv, .int .i64 c.hg, .int .i64 c.lo, .int .i64 c.dw, .int .i64 c.ho, .int .i64 c.sp, .int .i64 c.kp, .int .i64 c.ki, .int .i64 c.kd, .int .i64 c.lm, .int .i64 c.st, .int .i64 c.th, .int .i64 c.rg] := by rw [← hW0]; exact Blk.made _ _ _
 obtain ⟨g, hg⟩ : ∃ g, w.heap.size = g := ⟨_, rfl⟩
 have HG := Lib.hid hg
 have HB0 := Lib.hid hb0
 have HX0 := Lib.hid (show Blk W0 g 24 #[.int .i64 c.ti, .int .i64 c.ro, .int .i64 c.ta, .int .i64 c.iv, .int .i64 c.hg, .int .i64 c.lo, .int .i64 c.dw, .int .i64 c.ho, .int .i64 c.sp, .int .i64 c.kp, .int .i64 c.ki, .int .i64 c.kd, .int .i64 c.lm, .int .i64 c.st, .int .i64 c.th, .int .i64 c.rg] by rw [← hg]; exact hx0)
 clear hb0 hx0
 go_enter Tryz.func12, Tryz.ntmps12
 go_upto_region 1 with fail
 (try rw [hW0])
 (try rw [HG.out])
 clear hW0 hg
 have k0 : W0.cell? ⟨g, 0, none⟩ = some (.int .i64 c.ti) := HX0.out.val rfl
 have k1 : W0.cell? ⟨g, 1, none⟩ = some (.int .i64 c.ro) := HX0.out.val rfl
 have k2 : W0.cell? ⟨g, 2, none⟩ = some (.int .i64 c.ta) := HX0.out.val rfl
 have k3 : W0.cell? ⟨g, 3, none⟩ = some (.int .i64 c.iv) := HX0.out.val rfl
 have k4 : W0.cell? ⟨g, 4, none⟩ = some (.int .i64 c.hg) := HX0.out.val rfl
 have k5 : W0.cell? ⟨g, 5, none⟩ = some (.int .i64 c.lo) := HX0.out.val rfl
 have k6 : W0.cell? ⟨g, 6, none⟩ = some (.int .i64 c.dw) := HX0.out.val rfl
 have k7 : W0.cell? ⟨g, 7, none⟩ = some (.int .i64 c.ho) := HX0.out.val rfl
 have k8 : W0.cell? ⟨g, 8, none⟩ = some (.int .i64 c.sp) := HX0.out.val rfl
 have k9 : W0.cell? ⟨g, 9, none⟩ = some (.int .i64 c.kp) := HX0.out.val rfl
 have k10 : W0.cell? ⟨g, 10, none⟩ = some (.int .i64 c.ki) := HX0.out.val rfl
 have k11 : W0.cell? ⟨g, 11, none⟩ = some (.int .i64 c.kd) := HX0.out.val rfl
 have k12 : W0.cell? ⟨g, 12, none⟩ = some (.int .i64 c.lm) := HX0.out.val rfl
 have k13 : W0.cell? ⟨g, 13, none⟩ = some (.int .i64 c.st) := HX0.out.val rfl
 have k14 : W0.cell? ⟨g, 14, none⟩ = some (.int .i64 c.th) := HX0.out.val rfl
 have k15 : W0.cell? ⟨g, 15, none⟩ = some (.int .i64 c.rg) := HX0.out.val rfl
 go_wp2_with fail
 refine (HVA.out _).mono ?_
 rintro e w1 ⟨rfl, hb1⟩
 have hx1 := HX0.out.below_ hb1 HX0.out.size
 have HX1 := Lib.hid hx1
 have HB1 := Lib.hid (HB0.out.trans (hb1.mono HB0.out.size))
 clear hx1 hb1 k0 k1 k2 k3 k4 k5 k6 k7 k8 k9 k10 k11 k12 k13 k14 k15
 have a0 : w1.cell? ⟨g, 0, none⟩ = some (.int .i64 (N : Int)) := by rw [← HN.out]; exact HX1.out.val rfl
 have a1 : w1.cell? ⟨g, 1, none⟩ = some (.int .i64 (n : Int)) := by rw [← HN2.out]; exact HX1.out.val rfl
 go_wp2_with fail
 refine (tqo_new N n _ n1 n8 m1 m2).mono ?_
 rintro e wa ⟨q, Oq, rfl, hq, hOq, hb2⟩
 have hx2 := HX1.out.below_ hb2 HX1.out.size
 have HX2 := Lib.hid hx2
 have HB2 := Lib.hid (HB1.out.trans (hb2.mono HB1.out.size))
 have HQ := Lib.hid hq
 have HOQ := Lib.hid (show ∀ k, Oq k → w.heap.size ≤ k from fun k hk => by have := hOq k hk; have := HB1.out.size; omega)
 clear hq hOq hx2 hb2 a0 a1
 go_upto_region 5 with fail
 obtain ⟨ti, hti⟩ : ∃ ti, c.ti = ti := ⟨_, rfl⟩
 have k0 : wa.cell? ⟨g, 0, none⟩ = some (.int .i64 (N : Int)) := by rw [← HN.out]; exact HX2.out.val rfl
 have k1 : wa.cell? ⟨g, 1, none⟩ = some (.int .i64 c.ro) := HX2.out.val rfl
 have k2 : wa.cell? ⟨g, 2, none⟩ = some (.int .i64 c.ta) := HX2.out.val rfl
 have k3 : wa.cell? ⟨g, 3, none⟩ = some (.int .i64 c.iv) := HX2.out.val rfl
 have k4 : wa.cell? ⟨g, 4, none⟩ = some (.int .i64 c.hg) := HX2.out.val rfl
 have k5 : wa.cell? ⟨g, 5, none⟩ = some (.int .i64 c.lo) := HX2.out.val rfl
 have k6 : wa.cell? ⟨g, 6, none⟩ = some (.int .i64 c.dw) := HX2.out.val rfl
 have k7 : wa.cell? ⟨g, 7, none⟩ = some (.int .i64 c.ho) := HX2.out.val rfl
 have k8 : wa.cell? ⟨g, 8, none⟩ = some (.int .i64 c.sp) := HX2.out.val rfl
 have k9 : wa.cell? ⟨g, 9, none⟩ = some (.int .i64 c.kp) := HX2.out.val rfl
 have k10 : wa.cell? ⟨g, 10, none⟩ = some (.int .i64 c.ki) := HX2.out.val rfl
 have k11 : wa.cell? ⟨g, 11, none⟩ = some (.int .i64 c.kd) := HX2.out.val rfl
 have k12 : wa.cell? ⟨g, 12, none⟩ = some (.int .i64 c.lm) := HX2.out.val rfl
 have k13 : wa.cell? ⟨g, 13, none⟩ = some (.int .i64 c.st) := HX2.out.val rfl
 have k14 : wa.cell? ⟨g, 14, none⟩ = some (.int .i64 c.th) := HX2.out.val rfl
 have k15 : wa.cell? ⟨g, 15, none⟩ = some (.int .i64 c.rg) := HX2.out.val rfl
 have hgs : g < wa.heap.size := klt k0
 clear hti
 go_cut [2, 3] (fun s2 s3 wx => ∃ p gc gm l : Nat, s2 = .pointer (some ⟨p, 0, none⟩) ∧ s3 = .int .i64 0 ∧ wa.heap.size ≤ p ∧ wa.heap.size ≤ gc ∧ wa.heap.size ≤ gm ∧ wa.heap.size ≤ l ∧
   Blk wx p coT #[.int .i64 (N : Int), .int .i64 c.ro, .int .i64 c.ta, .int .i64 c.iv, .int .i64 c.hg, .int .i64 c.lo, .int .i64 c.dw, .int .i64 c.ho, .int .i64 c.sp, .int .i64 c.kp, .int .i64 c.ki, .int .i64 c.kd, .int .i64 c.lm, .int .i64 c.st, .int .i64 c.th, .int .i64 c.rg, .pointer (some ⟨q, 0, none⟩), .slice (some ⟨gc, 0, none⟩) N N, .slice (some ⟨gm, 0, none⟩) N N, .int .i64 0, .int .i64 0, .int .i64 0, .pointer (some ⟨l, 0, none⟩), .int .u8 0, .int .i64 0, .int .i64 0, .int .u64 0] ∧ Blk wx gc csT (madeCells #[.bool false, .int .i64 0, .bool false, .int .i64 0, .int .u64 0, .int .u64 0] (N * 6)) ∧ Blk wx gm msT (madeCells #[.bool false, .int .i64 0, .int .u64 0] (N * 3)) ∧ Blk wx l lgT #[.slice none 0 0] ∧ Below wa.heap.size wa wx)
 case first =>
   go_region_held3 (fun w' => w'.cell? ⟨g, 0, none⟩ = some (.int .i64 (N : Int)) ∧ w'.cell? ⟨g, 1, none⟩ = some (.int .i64 c.ro) ∧ w'.cell? ⟨g, 2, none⟩ = some (.int .i64 c.ta) ∧ w'.cell? ⟨g, 3, none⟩ = some (.int .i64 c.iv) ∧ w'.cell? ⟨g, 4, none⟩ = some (.int .i64 c.hg) ∧ w'.cell? ⟨g, 5, none⟩ = some (.int .i64 c.lo) ∧ w'.cell? ⟨g, 6, none⟩ = some (.int .i64 c.dw) ∧ w'.cell? ⟨g, 7, none⟩ = some (.int .i64 c.ho) ∧ w'.cell? ⟨g, 8, none⟩ = some (.int .i64 c.sp) ∧ w'.cell? ⟨g, 9, none⟩ = some (.int .i64 c.kp) ∧ w'.cell? ⟨g, 10, none⟩ = some (.int .i64 c.ki) ∧ w'.cell? ⟨g, 11, none⟩ = some (.int .i64 c.kd) ∧ w'.cell? ⟨g, 12, none⟩ = some (.int .i64 c.lm) ∧ w'.cell? ⟨g, 13, none⟩ = some (.int .i64 c.st) ∧ w'.cell? ⟨g, 14, none⟩ = some (.int .i64 c.th) ∧ w'.cell? ⟨g, 15, none⟩ = some (.int .i64 c.rg)) (repeat (first | with_reducible assumption | refine ⟨?_, ?_⟩ | with_reducible refine kdrew ?_ | with_reducible refine kalloc ?_ _)) (first | (go_at_call 38; refine (tnew_ex _).mono ?_; rintro e w1 ⟨rfl, rfl⟩))
   all_goals (try go_wp2)
   all_goals go_meet
   all_goals (first
     | (refine ⟨wa.heap.size + 1 + 1 + 1, wa.heap.size, wa.heap.size + 1, wa.heap.size + 1 + 1, rfl, rfl, by omega, by omega, by omega, by omega, ?_, ?_, ?_, ?_, ?_⟩ <;> (repeat (first | with_reducible exact Below.refl _ _ | with_reducible apply Below.drew | refine Below.alloc ?_ (by (try simp); (try omega)) _ | (with_reducible refine Blk.new_ ?_; simp; done) | with_reducible refine Blk.drew_ ?_ | with_reducible refine Blk.alloc_ ?_ _)); done)
     | (refine ⟨wa.heap.size + 1 + 1 + 1, wa.heap.size, wa.heap.size + 1 + 1, wa.heap.size + 1, rfl, rfl, by omega, by omega, by omega, by omega, ?_, ?_, ?_, ?_, ?_⟩ <;> (repeat (first | with_reducible exact Below.refl _ _ | with_reducible apply Below.drew | refine Below.alloc ?_ (by (try simp); (try omega)) _ | (with_reducible refine Blk.new_ ?_; simp; done) | with_reducible refine Blk.drew_ ?_ | with_reducible refine Blk.alloc_ ?_ _)); done)
     | (refine ⟨wa.heap.size + 1 + 1 + 1, wa.heap.size + 1, wa.heap.size, wa.heap.size + 1 + 1, rfl, rfl, by omega, by omega, by omega, by omega, ?_, ?_, ?_, ?_, ?_⟩ <;> (repeat (first | with_reducible exact Below.refl _ _ | with_reducible apply Below.drew | refine Below.alloc ?_ (by (try simp); (try omega)) _ | (with_reducible refine Blk.new_ ?_; simp; done) | with_reducible refine Blk.drew_ ?_ | with_reducible refine Blk.alloc_ ?_ _)); done)
     | (refine ⟨wa.heap.size + 1 + 1 + 1, wa.heap.size + 1, wa.heap.size + 1 + 1, wa.heap.size, rfl, rfl, by omega, by omega, by omega, by omega, ?_, ?_, ?_, ?_, ?_⟩ <;> (repeat (first | with_reducible exact Below.refl _ _ | with_reducible apply Below.drew | refine Below.alloc ?_ (by (try simp); (try omega)) _ | (with_reducible refine Blk.new_ ?_; simp; done) | with_reducible refine Blk.drew_ ?_ | with_reducible refine Blk.alloc_ ?_ _)); done)
     | (refine ⟨wa.heap.size + 1 + 1 + 1, wa.heap.size + 1 + 1, wa.heap.size, wa.heap.size + 1, rfl, rfl, by omega, by omega, by omega, by omega, ?_, ?_, ?_, ?_, ?_⟩ <;> (repeat (first | with_reducible exact Below.refl _ _ | with_reducible apply Below.drew | refine Below.alloc ?_ (by (try simp); (try omega)) _ | (with_reducible refine Blk.new_ ?_; simp; done) | with_reducible refine Blk.drew_ ?_ | with_reducible refine Blk.alloc_ ?_ _)); done)
     | (refine ⟨wa.heap.size + 1 + 1 + 1, wa.heap.size + 1 + 1, wa.heap.size + 1, wa.heap.size, rfl, rfl, by omega, by omega, by omega, by omega, ?_, ?_, ?_, ?_, ?_⟩ <;> (repeat (first | with_reducible exact Below.refl _ _ | with_reducible apply Below.drew | refine Below.alloc ?_ (by (try simp); (try omega)) _ | (with_reducible refine Blk.new_ ?_; simp; done) | with_reducible refine Blk.drew_ ?_ | with_reducible refine Blk.alloc_ ?_ _)); done))
 case rest =>
   obtain ⟨p, gc, gm, l, rfl, rfl, hp, hgc, hgm, hl, bp, bc, bm, bl, hb⟩ := hcut
   rw [← HN.out] at bp
   have hfin := new_end HQ.out HOQ.out HB2.out hp hgc hgm hl bp bc bm bl hb HF.out HN.out HN2.out n1 n8 m1 m2
   obtain ⟨O, hO1, hO2⟩ := hfin
   have HO1 := Lib.hid hO1
   have HO2 := Lib.hid hO2
   have HBZ := Lib.hid (HB2.out.trans (hb.mono HB2.out.size))
   clear hO1 hO2 bp bc bm bl hb hm1 hm2
   go_wp2
   go_ret2
   exact ⟨p, O, rfl, HO1.out, HO2.out, HBZ.out⟩
end Go.Proofs.YtcffeokbipjaoaaGreat
namespace Go.Proofs.YtcffeokbipjaoaaGreat
open Go.ChangeShapes Go.WideShapes Go.RowKit Kn
set_option linter.unusedVariables false
set_option linter.unusedSimpArgs false
def drainS (S : Cor) (d : Int) : Cor := if S.ph = 0 then { S with ph := 1, lim := d } else if S.ph = 1 then { S with lim := min S.lim d } else S
section
variable {w w' w'' : World} {p q gc gm l g b : Nat} {r r' : Option Nat} {O Oq Oq' O1 : Nat → Prop} {S S' : Cor} {T : TypeId} {cs : Array Value}
end
end Go.Proofs.YtcffeokbipjaoaaGreat
namespace Go.Proofs.YtcffeokbipjaoaaGreat
open Go.ChangeShapes Go.WideShapes Go.RowKit Kn
set_option linter.unusedVariables false
set_option linter.unusedSimpArgs false
theorem endS_run {S : Cor} (h : S.ph = 0) : endS S = S := if_pos (.inl (by omega))
theorem endS_K (S : Cor) : (endS S).K = S.K ∧ (endS S).cf = S.cf ∧ (endS S).N = S.N ∧ (endS S).n = S.n ∧ (endS S).clk = S.clk := by
 unfold endS
 split
 · exact ⟨rfl, rfl, rfl, rfl, rfl⟩
 · have h := settleAll_like 6 (allT S.q.L S.N) S
   exact ⟨h.K, h.cf, h.N, h.n, h.clk⟩
noncomputable def sweptS (S : Cor) (now : Int) : Cor := endS (settleAll (clkS S now) 2 (dueL (clkS S now)))
theorem sweptS_K (S : Cor) (now : Int) : (sweptS S now).K = S.K ∧ (sweptS S now).cf = S.cf ∧ (sweptS S now).N = S.N := by
 have h1 := endS_K (settleAll (clkS S now) 2 (dueL (clkS S now)))
 have h2 := settleAll_like 2 (dueL (clkS S now)) (clkS S now)
 exact ⟨h1.1.trans h2.K, h1.2.1.trans h2.cf, h1.2.2.1.trans h2.N⟩
theorem submitV_resv (S : Cor) (b c d : Int) : ∃ r0 r1 r2 r3 r4, submitV S b c d = resv r0 r1 r2 r3 r4 := by
 unfold submitV
 split
 · split
   · split
     · exact ⟨_, _, _, _, _, rfl⟩
     · exact ⟨_, _, _, _, _, rfl⟩
   · exact ⟨_, _, _, _, _, rfl⟩
 · exact ⟨_, _, _, _, _, rfl⟩
theorem submitS_K (S : Cor) (b c d : Int) : (submitS S b c d).K ≤ S.K + 1 := by
 have h := roomS_same S b
 unfold submitS
 split
 · split
   · split
     · show (roomS S b).K + 1 ≤ _; rw [h.2.2.2.1]; omega
     · rw [h.2.2.2.1]; omega
   · omega
 · omega
theorem pollS_K (S : Cor) : (pollS S).K = S.K := by
 unfold pollS
 split
 · rfl
 · split
   · show (pollM S).K = S.K
     unfold pollM
     have h1 := thin_like (firstE S) (((turnS (restK S S.N) (firstE S)).q.L (firstE S)).length) (turnS (restK S S.N) (firstE S)) (lookC ((turnS (restK S S.N) (firstE S)).cod (firstE S)) (turnS (restK S S.N) (firstE S)).cf.iv (turnS (restK S S.N) (firstE S)).clk (hbOf (turnS (restK S S.N) (firstE S)) (firstE S))).1 (lookC ((turnS (restK S S.N) (firstE S)).cod (firstE S)) (turnS (restK S S.N) (firstE S)).cf.iv (turnS (restK S S.N) (firstE S)).clk (hbOf (turnS (restK S S.N) (firstE S)) (firstE S))).2
     exact h1.K
   · rfl
section
variable {w w' w'' : World} {p q gc gm l g b : Nat} {r r' : Option Nat} {O Oq Oq' O1 : Nat → Prop} {S S' : Cor}
theorem do_submit (now b c d : Int) (h : CoreL w p O S) (hn : I64_ now) (hK : S.K ≤ 800) (hb : I64_ b) (hc : I64_ c) (hd : I64_ d) (hr : refuseE (clkS S now) 0 b c d = 0) :
   Calls Tryz.prog 15 #[.pointer (some ⟨p, 0, none⟩), .int .i64 now, opv 0 b c d] w fun e w' => e = .returned (submitV (sweptS S now) b c d) ∧ CStep w p O (endS (submitS (sweptS S now) b c d)) w' := by
 obtain ⟨r0, r1, r2, r3, r4, hv⟩ := submitV_resv (sweptS S now) b c d
 have hk := (sweptS_K S now).1
 have hk2 := submitS_K (sweptS S now) b c d
 have hk3 := (settleAll_like 2 (dueL (clkS S now)) (clkS S now)).K
 rw [hv]
 refine co_do_submit (E := endS) (S3 := submitS (sweptS S now) b c d) now b c d h hn (by omega) hr (end_ok _ (by rw [hk3]; show S.K ≤ 1000; omega)) (fun wq Oq hq => ?_) (end_ok _ (by omega))
 have := co_submit 0 b c d hq (by show (sweptS S now).K ≤ 900; omega) hc hd hb
 rw [show submitV (endS (settleAll (clkS S now) 2 (dueL (clkS S now)))) b c d = resv r0 r1 r2 r3 r4 from hv] at this
 exact this
noncomputable def A0 (b c d : Int) : Cor := admitS (newC Cf.dflt 4 64) b c d
theorem new_swept : sweptS (newC Cf.dflt 4 64) 0 = newC Cf.dflt 4 64 := by
 have e0 : clkS (newC Cf.dflt 4 64) 0 = newC Cf.dflt 4 64 := rfl
 have e1 : dueL (newC Cf.dflt 4 64) = [] := rfl
 unfold sweptS
 rw [e0, e1]
 exact endS_run rfl
theorem new_judge {b c d : Int} (hb : 0 ≤ b ∧ b < 4) (hc : 0 ≤ c ∧ c < 128) (hd : 0 < d) : judgeG 4 0 0 b c d = 0 := by
 obtain ⟨b0, b1⟩ := hb
 obtain ⟨c0, c1⟩ := hc
 unfold judgeG rightG edgeG
 simp [b0, b1, c0, c1]
 rw [if_neg (by omega), if_neg (by rw [sat_is _ (by omega) (by omega)]; omega)]
theorem first_submit {b c d : Int} (hb : 0 ≤ b ∧ b < 4) (hc : 0 ≤ c ∧ c < 128) (hd : 0 < d) (hd2 : I64_ d) (h : CoreL w p O (newC Cf.dflt 4 64)) :
   Calls Tryz.prog 15 #[.pointer (some ⟨p, 0, none⟩), .int .i64 0, opv 0 b c d] w fun e w' => e = .returned (resv 1 1 b c 0) ∧ CStep w p O (A0 b c d) w' := by
 have hj := new_judge hb hc hd
 have hr : refuseE (clkS (newC Cf.dflt 4 64) 0) 0 b c d = 0 := by
   show (if (0 : Int) = 0 ∧ (0 : Int) = 0 then (if judgeG 4 0 0 b c d = 4 then 0 else judgeG 4 0 0 b c d) else 0) = 0
   rw [if_pos ⟨rfl, rfl⟩, hj, if_neg (by omega)]
 have h1 := do_submit 0 b c d h ⟨by omega, by omega⟩ (by show (0 : Nat) ≤ 800; omega) ⟨by omega, by omega⟩ ⟨by omega, by omega⟩ hd2 hr
 have hrb : roomB (newC Cf.dflt 4 64) b = true := decide_eq_true (.inl (by show (0 : Nat) < 64; omega))
 have hrs : roomS (newC Cf.dflt 4 64) b = newC Cf.dflt 4 64 := if_pos (by show (0 : Nat) < 64; omega)
 have hv : submitV (newC Cf.dflt 4 64) b c d = resv 1 1 b c 0 := by
   unfold submitV
   rw [if_pos (show (newC Cf.dflt 4 64).ph = 0 from rfl), if_pos (show judgeG (newC Cf.dflt 4 64).cf.ti (newC Cf.dflt 4 64).pid.le (newC Cf.dflt 4 64).clk b c d = 0 from hj), if_pos hrb]
   rfl
 have hs : submitS (newC Cf.dflt 4 64) b c d = A0 b c d := by
   unfold submitS
   rw [if_pos (show (newC Cf.dflt 4 64).ph = 0 from rfl), if_pos (show judgeG (newC Cf.dflt 4 64).cf.ti (newC Cf.dflt 4 64).pid.le (newC Cf.dflt 4 64).clk b c d = 0 from hj), if_pos hrb, hrs]
   rfl
 rw [new_swept, hv, hs, endS_run (show (A0 b c d).ph = 0 from rfl)] at h1
 exact h1
end
end Go.Proofs.YtcffeokbipjaoaaGreat
namespace Go.Proofs.YtcffeokbipjaoaaGreat
open Go.ChangeShapes Go.WideShapes Go.RowKit Kn
set_option linter.unusedVariables false
set_option linter.unusedSimpArgs false
noncomputable def doS (S : Cor) (now a b c d : Int) : Cor :=
 if 3 < a then clkS S now else if refuseE (clkS S now) a b c d ≠ 0 then clkS S now else
 if a = 0 then endS (submitS (sweptS S now) b c d) else if a = 1 then endS (pollS (sweptS S now)) else if a = 2 then endS (sampleS (sweptS S now) d) else endS (drainS (sweptS S now) d)
noncomputable def doV (S : Cor) (now a b c d : Int) : Value :=
 if 3 < a then resv 2 0 0 0 0 else if refuseE (clkS S now) a b c d ≠ 0 then resv (refuseE (clkS S now) a b c d) 0 0 0 0 else
 if a = 0 then submitV (sweptS S now) b c d else if a = 1 then resv (pollR (sweptS S now)).1 (pollR (sweptS S now)).2.1 (pollR (sweptS S now)).2.2.1 (pollR (sweptS S now)).2.2.2.1 (pollR (sweptS S now)).2.2.2.2 else resv 10 0 0 0 0
theorem sampleS_like (S : Cor) (u : Int) : (sampleS S u).K = S.K ∧ (sampleS S u).N = S.N ∧ (sampleS S u).cf = S.cf := by
 have h := settleAll_like 3 ((cutQ (pidS S (sampP S.pid (pprS S) u))).map (·.i)) (pidS S (sampP S.pid (pprS S) u))
 exact ⟨h.K, h.N, h.cf⟩
theorem drainS_K (S : Cor) (d : Int) : (drainS S d).K = S.K ∧ (drainS S d).N = S.N ∧ (drainS S d).cf = S.cf := by
 unfold drainS
 split
 · exact ⟨rfl, rfl, rfl⟩
 · split
   · exact ⟨rfl, rfl, rfl⟩
   · exact ⟨rfl, rfl, rfl⟩
section
variable {w w' w'' : World} {p q gc gm l g b : Nat} {r r' : Option Nat} {O Oq Oq' O1 : Nat → Prop} {S S' : Cor}
theorem doS_K (S : Cor) (now a b c d : Int) : (doS S now a b c d).K ≤ S.K + 1 := by
 have h0 := (sweptS_K S now).1
 unfold doS
 split
 · show S.K ≤ _; omega
 · split
   · show S.K ≤ _; omega
   · split
     · rw [(endS_K _).1]; have := submitS_K (sweptS S now) b c d; omega
     · split
       · rw [(endS_K _).1, pollS_K]; omega
       · split
         · rw [(endS_K _).1, (sampleS_like _ _).1]; omega
         · rw [(endS_K _).1, (drainS_K _ _).1]; omega
end
end Go.Proofs.YtcffeokbipjaoaaGreat
namespace Go.Proofs.YtcffeokbipjaoaaGreat
open Go.ChangeShapes Go.WideShapes Go.RowKit Kn
set_option linter.unusedVariables false
set_option linter.unusedSimpArgs false
section
variable {w w' w'' : World} {p q gc gm l n K N : Nat} {r : Option Nat} {O Oq O2 : Nat → Prop} {S S' : Cor} {own : Nat → Prop} {s : Ts}
theorem HeapB.far {b : Nat} {A : Option Addr} {L : List En} (h : HeapB w p b n A L) (hk : Kept own w w') (h1 : ¬ own p) (h2 : ¬ own b) (h3 : ∀ x, A = some x → ¬ own x.block) : HeapB w' p b n A L := by
 obtain ⟨m, c, E, F, g1, g2⟩ := h.ex
 exact ⟨m, c, E, F, g1.kept2 hk h1 h2 h3, g2⟩
theorem TqO.far (h : TqO w q N n K s O) (hk : Kept own w w') (hn : ∀ k, O k → ¬ own k) (hq : ∀ k cs, Blk w k 159 cs → ¬ own k) (hr : ∀ k cs, Blk w k 213 cs → ¬ own k) : TqO w' q N n K s O := by
 obtain ⟨⟨hs, sp, sc, sf, rp, ra, rb, hp, hb', A, h1, h2⟩, h3⟩ := h
 refine ⟨⟨hs, sp, sc, sf, rp, ra, rb, hp, hb', A, ?_, h2⟩, h3⟩
 obtain ⟨hd, k1, k2, k3, ⟨cs', bc, cz, cc⟩, k5⟩ := h1
 obtain ⟨⟨c1, t1⟩, _, _⟩ := k2.types
 have hn' : ∀ k, tOwn hs sp sc sf ra rb hp hb' A k → ¬ own k := fun k ho => hn k ((h2 k).2 ho)
 exact ⟨hd.kept hk (hq _ _ hd), k1.kept hk (hn' _ (.inr (.inl (.inl rfl)))) (hn' _ (.inr (.inl (.inr (.inl rfl))))) (hn' _ (.inr (.inl (.inr (.inr rfl))))),
   RowsAt.kept k2 hk (hr _ _ t1) (hn' _ (.inr (.inr (.inl (.inl rfl))))) (hn' _ (.inr (.inr (.inl (.inr rfl))))),
   k3.far hk (hn' _ (.inr (.inr (.inr (.inl rfl))))) (hn' _ (.inr (.inr (.inr (.inr (.inl rfl)))))) (fun x hx => hn' _ (.inr (.inr (.inr (.inr (.inr ⟨x, hx, rfl⟩)))))), ⟨cs', bc.kept hk (hn' _ (.inl rfl)), cz, cc⟩, k5⟩
theorem CoreL.not_q (h : CoreL w p O S) {k : Nat} {cs : Array Value} (hb : Blk w k 159 cs) : ¬ O k := fun ho => by
 obtain ⟨q, gc, gm, l, r, Oq, h1, h2⟩ := h.cells
 obtain ⟨c1, b1⟩ := h1.cod.blk
 obtain ⟨c2, b2⟩ := h1.mod.blk
 obtain ⟨c3, b3⟩ := h1.log.head
 rcases (h2 k).1 ho with e | e | e | e | e | e
 · exact hb.other h1.head (by decide) e
 · exact hb.other b1 (by decide) e
 · exact hb.other b2 (by decide) e
 · exact hb.other b3 (by decide) e
 · obtain ⟨_, c4, b4⟩ := h1.log.row e; exact hb.other b4 (by decide) rfl
 · obtain ⟨⟨hs, sp, sc, sf, rp, ra, rb, hp, hb', A, h5, h6⟩, h7⟩ := h1.que
   obtain ⟨cs0, b0, _⟩ := h5.hand
   exact h5.apart hb (hb.other b0 (by decide)) (by decide) (by decide) (by decide) (by decide) (by decide) (by decide) (by decide) ((h6 k).1 e)
theorem CoreL.not_r (h : CoreL w p O S) {k : Nat} {cs : Array Value} (hb : Blk w k 213 cs) : ¬ O k := fun ho => by
 obtain ⟨q, gc, gm, l, r, Oq, h1, h2⟩ := h.cells
 obtain ⟨c1, b1⟩ := h1.cod.blk
 obtain ⟨c2, b2⟩ := h1.mod.blk
 obtain ⟨c3, b3⟩ := h1.log.head
 rcases (h2 k).1 ho with e | e | e | e | e | e
 · exact hb.other h1.head (by decide) e
 · exact hb.other b1 (by decide) e
 · exact hb.other b2 (by decide) e
 · exact hb.other b3 (by decide) e
 · obtain ⟨_, c4, b4⟩ := h1.log.row e; exact hb.other b4 (by decide) rfl
 · obtain ⟨⟨hs, sp, sc, sf, rp, ra, rb, hp, hb', A, h5, h6⟩, h7⟩ := h1.que
   obtain ⟨cs0, b0, _⟩ := h5.hand
   exact h5.apart hb (hb.other b0 (by decide)) (by decide) (by decide) (by decide) (by decide) (by decide) (by decide) (by decide) ((h6 k).1 e)
def coTypes : List TypeId := coT :: csT :: msT :: 110 :: 164 :: tqTypes
theorem CoreL.not_t (h : CoreL w p O S) {k : Nat} {T : TypeId} {cs : Array Value} (hb : Blk w k T cs) (hT : T ∉ coTypes) : ¬ O k := fun ho => by
 obtain ⟨q, gc, gm, l, r, Oq, h1, h2⟩ := h.cells
 obtain ⟨c1, b1⟩ := h1.cod.blk
 obtain ⟨c2, b2⟩ := h1.mod.blk
 obtain ⟨c3, b3⟩ := h1.log.head
 unfold coTypes at hT
 simp only [List.mem_cons, not_or] at hT
 obtain ⟨t1, t2, t3, t4, t5, t6⟩ := hT
 rcases (h2 k).1 ho with e | e | e | e | e | e
 · exact hb.other h1.head t1 e
 · exact hb.other b1 t2 e
 · exact hb.other b2 t3 e
 · exact hb.other b3 t4 e
 · obtain ⟨_, c4, b4⟩ := h1.log.row e; exact hb.other b4 t5 rfl
 · exact h1.que.apart hb t6 e
theorem CoreL.far (h : CoreL w p O S) (hk : Kept own w w') (hn : ∀ k, O k → ¬ own k) (hq : ∀ k cs, Blk w k 159 cs → ¬ own k) (hr : ∀ k cs, Blk w k 213 cs → ¬ own k) : CoreL w' p O S := by
 obtain ⟨q, gc, gm, l, r, Oq, h1, h2⟩ := h.cells
 have hn' : ∀ k, (k = p ∨ k = gc ∨ k = gm ∨ k = l ∨ r = some k ∨ Oq k) → ¬ own k := fun k ho => hn k ((h2 k).2 ho)
 exact ⟨⟨q, gc, gm, l, r, Oq, ⟨h1.head.kept hk (hn' _ (.inl rfl)), h1.que.far hk (fun k ho => hn' k (.inr (.inr (.inr (.inr (.inr ho)))))) hq hr, h1.cod.kept hk (hn' _ (.inr (.inl rfl))), h1.mod.kept hk (hn' _ (.inr (.inr (.inl rfl)))), h1.log.kept hk (hn' _ (.inr (.inr (.inr (.inl rfl))))) (fun g hg => hn' _ (.inr (.inr (.inr (.inr (.inl hg)))))), h1.ok⟩, h2⟩⟩
end
structure Two (n0 : Nat) (w : World) (a b : Nat) (S S' : Cor) : Prop where
 ex : ∃ A B : Nat → Prop, CoreL w a A S ∧ CoreL w b B S' ∧ (∀ k, A k → ¬ B k) ∧ (∀ k, A k → n0 ≤ k) ∧ (∀ k, B k → n0 ≤ k)
section
variable {n0 a b : Nat} {w w' : World} {S S' T : Cor}
theorem Two.below (h : Two n0 w a b S S') (hb : Below w.heap.size w w') : Two n0 w' a b S S' := by
 obtain ⟨⟨A, B, h1, h2, h3, h4, h5⟩⟩ := h
 exact ⟨⟨A, B, h1.below hb, h2.below hb, h3, h4, h5⟩⟩
theorem Two.swap (h : Two n0 w a b S S') : Two n0 w b a S' S := by
 obtain ⟨⟨A, B, h1, h2, h3, h4, h5⟩⟩ := h
 exact ⟨⟨B, A, h2, h1, fun k hb ha => h3 k ha hb, h5, h4⟩⟩
theorem Two.call (h : Two n0 w a b S S') {f : FuncId} {args : Array Value} {E : Ending → Prop} (hn : n0 ≤ w.heap.size) (hc : ∀ A : Nat → Prop, CoreL w a A S → Calls Tryz.prog f args w fun e w' => E e ∧ CStep w a A T w') :
   Calls Tryz.prog f args w fun e w' => E e ∧ Two n0 w' a b T S' ∧ Below n0 w w' ∧ ∀ (k : Nat) (X : TypeId) (cs : Array Value), X ∉ coTypes → Blk w k X cs → Blk w' k X cs := by
 obtain ⟨⟨A, B, h1, h2, h3, h4, h5⟩⟩ := h
 refine (hc A h1).mono ?_
 rintro e w' ⟨he, A', g1, g2, g3⟩
 refine ⟨he, ⟨⟨A', B, g1, h2.far g3 (fun k hb ha => h3 k ha hb) (fun k cs hq => h1.not_q hq) (fun k cs hr => h1.not_r hr), fun k ha hb => ?_, fun k ha => ?_, h5⟩⟩, ⟨g3.os, g3.tape, g3.output, g3.size, fun k hk => g3.block k (by omega) (fun ho => by have := h4 k ho; omega)⟩, fun k X cs hX hb => hb.kept g3 (h1.not_t hb hX)⟩
 · rcases g2 k ha with c | c
   · exact h3 k c hb
   · have := h2.lt hb; omega
 · rcases g2 k ha with c | c
   · exact h4 k c
   · omega
end
theorem doV_resv (S : Cor) (now a b c d : Int) : ∃ r0 r1 r2 r3 r4, doV S now a b c d = resv r0 r1 r2 r3 r4 := by
 unfold doV
 split
 · exact ⟨_, _, _, _, _, rfl⟩
 · split
   · exact ⟨_, _, _, _, _, rfl⟩
   · split
     · exact submitV_resv _ _ _ _
     · split
       · exact ⟨_, _, _, _, _, rfl⟩
       · exact ⟨_, _, _, _, _, rfl⟩
end Go.Proofs.YtcffeokbipjaoaaGreat
