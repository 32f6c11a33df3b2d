/- Texts of this claim, one behind the other: Cqm Cqo. -/
import Derived.Test.YtcffeokbipjaoaaGreatMtbu
import Derived.Test.YtcffeokbipjaoaaGreatMtbv
namespace Go.Proofs.YtcffeokbipjaoaaGreat
open Go.ChangeShapes Go.WideShapes Go.RowKit Kn
set_option linter.unusedVariables false
set_option linter.unusedSimpArgs false
abbrev lgT : TypeId := 110
theorem csinfo : (Tryz.prog.info? csT).map (fun i => (i.zero, i.size, i.bytes)) = some (some (.agg #[.bool false, .int .i64 0, .bool false, .int .i64 0, .int .u64 0, .int .u64 0]), 6, 48) := by kernel_rfl
theorem msinfo : (Tryz.prog.info? msT).map (fun i => (i.zero, i.size, i.bytes)) = some (some (.agg #[.bool false, .int .i64 0, .int .u64 0]), 3, 24) := by kernel_rfl
theorem run_cods (n : Nat) (hn : n ≤ 8) (w : World) :
   (Instr.makeSlice 87 (.int .i64 (n : Int)) (.int .i64 (n : Int))).run Tryz.prog w = .ok (.slice (some ⟨w.heap.size, 0, none⟩) n n) (w.alloc (.cells (madeCells #[.bool false, .int .i64 0, .bool false, .int .i64 0, .int .u64 0, .int .u64 0] (n * 6)) csT)) := by
 obtain ⟨i, hi, hzz⟩ := Option.map_eq_some_iff.1 csinfo
 simp only [Prod.mk.injEq] at hzz
 obtain ⟨hz, hs, hb⟩ := hzz
 have h := run_make (P := Tryz.prog) w 87 csT i _ Tryz.underlying87 hi hz .i64 .i64 n n (by omega) (Int.le_refl _) (by rw [hb]; omega) (by omega)
 simp only [Int.toNat_natCast, hs] at h
 exact h
theorem run_mods (n : Nat) (hn : n ≤ 8) (w : World) :
   (Instr.makeSlice 88 (.int .i64 (n : Int)) (.int .i64 (n : Int))).run Tryz.prog w = .ok (.slice (some ⟨w.heap.size, 0, none⟩) n n) (w.alloc (.cells (madeCells #[.bool false, .int .i64 0, .int .u64 0] (n * 3)) msT)) := by
 obtain ⟨i, hi, hzz⟩ := Option.map_eq_some_iff.1 msinfo
 simp only [Prod.mk.injEq] at hzz
 obtain ⟨hz, hs, hb⟩ := hzz
 have h := run_make (P := Tryz.prog) w 88 msT i _ Tryz.underlying88 hi hz .i64 .i64 n n (by omega) (Int.le_refl _) (by rw [hb]; omega) (by omega)
 simp only [Int.toNat_natCast, hs] at h
 exact h
theorem tnew_ex (w : World) : Calls Tryz.prog 38 #[] w fun e w' => e = .returned (.pointer (some ⟨w.heap.size, 0, none⟩)) ∧ w' = w.alloc (.cells #[.slice none 0 0] lgT) := by
 go_enter Tryz.func38, Tryz.ntmps38
 go_wp2_with fail
 go_ret
 exact ⟨rfl, rfl⟩
def newC (c : Cf) (N n : Nat) : Cor := ⟨c, N, n, 0, newS n, fun _ => ⟨false, 0, false, 0, 0, 0⟩, fun _ => ⟨false, 0, 0⟩, ⟨0, 0, 0⟩, [], 0, 0, 0, 0⟩
theorem newC_ok {c : Cf} {N n : Nat} (hf : c.fits) (hN : c.ti = (N : Int)) (hn : c.ro = (n : Int)) (n1 : 1 ≤ N) (n8 : N ≤ 8) (m1 : 1 ≤ n) (m2 : n ≤ 1024) : (newC c N n).ok := by
 refine ⟨hf, hN, hn, n1, n8, m1, m2, fun t _ => ⟨?_, ?_, ?_, ?_, ?_, ?_, ?_, ?_⟩, fun t _ => ⟨?_, ?_, ?_, ?_⟩, ⟨?_, ?_, ?_, ?_, ?_, ?_⟩, .inl rfl, ⟨?_, ?_⟩, ⟨?_, ?_⟩, ?_, rfl, fun i hi ht => ?_, ?_⟩
 all_goals (try dsimp only [newC, newS, List.length_nil])
 all_goals first | omega | (exact absurd ht (by simp [newC, newS]))
theorem made_row {w : World} {g N sz : Nat} {T : TypeId} {z : Array Value} {row : List Value} (h : Blk w g T (madeCells z (N * sz))) (hz : z.toList = row) (hl : row.length = sz) (h0 : 0 < sz) : RB w g T sz N (fun _ => row) := by
 refine ⟨_, h, made_size _ _, fun t ht k hk => ?_⟩
 have hlt : t * sz + k < N * sz := by
   have : (t + 1) * sz ≤ N * sz := Nat.mul_le_mul_right _ ht
   rw [Nat.add_mul, Nat.one_mul] at this; omega
 have hsz : z.size = sz := by rw [← hl, ← hz, Array.length_toList]
 rw [made_at _ _ hlt (by omega)]
 have e : (t * sz + k) % z.size = k := by rw [hsz, Nat.mul_comm, Nat.mul_add_mod, Nat.mod_eq_of_lt hk]
 rw [← hz]
 simp only [e]
 rw [List.getElem?_eq_getElem (by rw [hz, hl]; exact hk)]
 simp [Array.getElem?_eq_getElem, hsz, hk]
theorem new_end {w wa wz : World} {c : Cf} {N n p q gc gm l : Nat} {Oq : Nat → Prop} (hq : TqO wa q N n 0 (newS n) Oq) (hOq : ∀ k, Oq k → w.heap.size ≤ k) (ha : Below w.heap.size w wa) (hp : wa.heap.size ≤ p) (hgc : wa.heap.size ≤ gc) (hgm : wa.heap.size ≤ gm) (hl : wa.heap.size ≤ l)
   (bp : Blk wz p coT #[.int .i64 c.ti, .int .i64 c.ro, .int .i64 c.ta, .int .i64 c.iv, .int .i64 c.hg, .int .i64 c.lo, .int .i64 c.dw, .int .i64 c.ho, .int .i64 c.sp, .int .i64 c.kp, .int .i64 c.ki, .int .i64 c.kd, .int .i64 c.lm, .int .i64 c.st, .int .i64 c.th, .int .i64 c.rg, .pointer (some ⟨q, 0, none⟩), .slice (some ⟨gc, 0, none⟩) N N, .slice (some ⟨gm, 0, none⟩) N N, .int .i64 0, .int .i64 0, .int .i64 0, .pointer (some ⟨l, 0, none⟩), .int .u8 0, .int .i64 0, .int .i64 0, .int .u64 0]) (bc : Blk wz gc csT (madeCells #[.bool false, .int .i64 0, .bool false, .int .i64 0, .int .u64 0, .int .u64 0] (N * 6))) (bm : Blk wz gm msT (madeCells #[.bool false, .int .i64 0, .int .u64 0] (N * 3))) (bl : Blk wz l lgT #[.slice none 0 0]) (hz : Below wa.heap.size wa wz)
   (hf : c.fits) (hN : c.ti = (N : Int)) (hn : c.ro = (n : Int)) (n1 : 1 ≤ N) (n8 : N ≤ 8) (m1 : 1 ≤ n) (m2 : n ≤ 1024) :
   ∃ O, CoreL wz p O (newC c N n) ∧ ∀ k, O k → w.heap.size ≤ k := by
 have hB : CoreB wz p q gc gm l none Oq (newC c N n) := ⟨bp, hq.below hz, made_row bc rfl rfl (by omega), made_row bm rfl rfl (by omega), ⟨_, bl, OwO.nil_ _ _ _, rfl⟩, newC_ok hf hN hn n1 n8 m1 m2⟩
 have hs := ha.size
 refine ⟨_, hB.to, fun k hk => ?_⟩
 rcases hk with e | e | e | e | e | e
 · omega
 · omega
 · omega
 · omega
 · cases e
 · exact hOq k e
set_option maxRecDepth 100000 in
set_option maxHeartbeats 8000000 in
theorem cnew_yes (c : Cf) (N n : Nat) (w : World) (hv : validE c = 0) (hf : c.fits) (hN : c.ti = (N : Int)) (hn : c.ro = (n : Int)) (n1 : 1 ≤ N) (n8 : N ≤ 8) (m1 : 1 ≤ n) (m2 : n ≤ 1024) :
   Calls Tryz.prog 12 #[c.v] w fun e w' => ∃ (p : Nat) (O : Nat → Prop), e = .returned (.tuple #[.pointer (some ⟨p, 0, none⟩), .int .i64 0]) ∧ CoreL w' p O (newC c N n) ∧ (∀ k, O k → w.heap.size ≤ k) ∧ Below w.heap.size w w' := by
 have hva := fun wq => valid_any c wq
 rw [hv] at hva
 have HVA := Lib.hid hva
 have hm1 := run_cods N n8
 have hm2 := run_mods N n8
 have HF := Lib.hid hf
 have HN := Lib.hid hN
 have HN2 := Lib.hid hn
 clear hva hv hf hN hn
 obtain ⟨W0, hW0⟩ : ∃ W, w.alloc (.cells #[.int .i64 c.ti, .int .i64 c.ro, .int .i64 c.ta, .int .i64 c.iv, .int .i64 c.hg, .int .i64 c.lo, .int .i64 c.dw, .int .i64 c.ho, .int .i64 c.sp, .int .i64 c.kp, .int .i64 c.ki, .int .i64 c.kd, .int .i64 c.lm, .int .i64 c.st, .int .i64 c.th, .int .i64 c.rg] 24) = W := ⟨_, rfl⟩
 have hb0 : Below w.heap.size w W0 := by rw [← hW0]; exact (Below.refl _ _).alloc (Nat.le_refl _) _
 have hx0 : Blk W0 w.heap.size 24 #[.int .i64 c.ti, .int .i64 c.ro, .int .i64 c.ta, .int .i64 c.iv, .int .i64 c.hg, .int .i64 c.lo, .int .i64 c.dw, .int .i64 c.ho, .int .i64 c.sp, .int .i64 c.kp, .int .i64 c.ki, .int .i64 c.kd, .int .i64 c.lm, .int .i64 c.st, .int .i64 c.th, .int .i64 c.rg] := by rw [← hW0]; exact Blk.made _ _ _
 obtain ⟨g, hg⟩ : ∃ g, w.heap.size = g := ⟨_, rfl⟩
 have HG := Lib.hid hg
 have HB0 := Lib.hid hb0
 have HX0 := Lib.hid (show Blk W0 g 24 #[.int .i64 c.ti, .int .i64 c.ro, .int .i64 c.ta, .int .i64 c.iv, .int .i64 c.hg, .int .i64 c.lo, .int .i64 c.dw, .int .i64 c.ho, .int .i64 c.sp, .int .i64 c.kp, .int .i64 c.ki, .int .i64 c.kd, .int .i64 c.lm, .int .i64 c.st, .int .i64 c.th, .int .i64 c.rg] by rw [← hg]; exact hx0)
 clear hb0 hx0
 go_enter Tryz.func12, Tryz.ntmps12
 go_upto_region 1 with fail
 (try rw [hW0])
 (try rw [HG.out])
 clear hW0 hg
 have k0 : W0.cell? ⟨g, 0, none⟩ = some (.int .i64 c.ti) := HX0.out.val rfl
 have k1 : W0.cell? ⟨g, 1, none⟩ = some (.int .i64 c.ro) := HX0.out.val rfl
 have k2 : W0.cell? ⟨g, 2, none⟩ = some (.int .i64 c.ta) := HX0.out.val rfl
 have k3 : W0.cell? ⟨g, 3, none⟩ = some (.int .i64 c.iv) := HX0.out.val rfl
 have k4 : W0.cell? ⟨g, 4, none⟩ = some (.int .i64 c.hg) := HX0.out.val rfl
 have k5 : W0.cell? ⟨g, 5, none⟩ = some (.int .i64 c.lo) := HX0.out.val rfl
 have k6 : W0.cell? ⟨g, 6, none⟩ = some (.int .i64 c.dw) := HX0.out.val rfl
 have k7 : W0.cell? ⟨g, 7, none⟩ = some (.int .i64 c.ho) := HX0.out.val rfl
 have k8 : W0.cell? ⟨g, 8, none⟩ = some (.int .i64 c.sp) := HX0.out.val rfl
 have k9 : W0.cell? ⟨g, 9, none⟩ = some (.int .i64 c.kp) := HX0.out.val rfl
 have k10 : W0.cell? ⟨g, 10, none⟩ = some (.int .i64 c.ki) := HX0.out.val rfl
 have k11 : W0.cell? ⟨g, 11, none⟩ = some (.int .i64 c.kd) := HX0.out.val rfl
 have k12 : W0.cell? ⟨g, 12, none⟩ = some (.int .i64 c.lm) := HX0.out.val rfl
 have k13 : W0.cell? ⟨g, 13, none⟩ = some (.int .i64 c.st) := HX0.out.val rfl
 have k14 : W0.cell? ⟨g, 14, none⟩ = some (.int .i64 c.th) := HX0.out.val rfl
 have k15 : W0.cell? ⟨g, 15, none⟩ = some (.int .i64 c.rg) := HX0.out.val rfl
 go_wp2_with fail
 refine (HVA.out _).mono ?_
 rintro e w1 ⟨rfl, hb1⟩
 have hx1 := HX0.out.below_ hb1 HX0.out.size
 have HX1 := Lib.hid hx1
 have HB1 := Lib.hid (HB0.out.trans (hb1.mono HB0.out.size))
 clear hx1 hb1 k0 k1 k2 k3 k4 k5 k6 k7 k8 k9 k10 k11 k12 k13 k14 k15
 have a0 : w1.cell? ⟨g, 0, none⟩ = some (.int .i64 (N : Int)) := by rw [← HN.out]; exact HX1.out.val rfl
 have a1 : w1.cell? ⟨g, 1, none⟩ = some (.int .i64 (n : Int)) := by rw [← HN2.out]; exact HX1.out.val rfl
 go_wp2_with fail
 refine (tqo_new N n _ n1 n8 m1 m2).mono ?_
 rintro e wa ⟨q, Oq, rfl, hq, hOq, hb2⟩
 have hx2 := HX1.out.below_ hb2 HX1.out.size
 have HX2 := Lib.hid hx2
 have HB2 := Lib.hid (HB1.out.trans (hb2.mono HB1.out.size))
 have HQ := Lib.hid hq
 have HOQ := Lib.hid (show ∀ k, Oq k → w.heap.size ≤ k from fun k hk => by have := hOq k hk; have := HB1.out.size; omega)
 clear hq hOq hx2 hb2 a0 a1
 go_upto_region 5 with fail
 obtain ⟨ti, hti⟩ : ∃ ti, c.ti = ti := ⟨_, rfl⟩
 have k0 : wa.cell? ⟨g, 0, none⟩ = some (.int .i64 (N : Int)) := by rw [← HN.out]; exact HX2.out.val rfl
 have k1 : wa.cell? ⟨g, 1, none⟩ = some (.int .i64 c.ro) := HX2.out.val rfl
 have k2 : wa.cell? ⟨g, 2, none⟩ = some (.int .i64 c.ta) := HX2.out.val rfl
 have k3 : wa.cell? ⟨g, 3, none⟩ = some (.int .i64 c.iv) := HX2.out.val rfl
 have k4 : wa.cell? ⟨g, 4, none⟩ = some (.int .i64 c.hg) := HX2.out.val rfl
 have k5 : wa.cell? ⟨g, 5, none⟩ = some (.int .i64 c.lo) := HX2.out.val rfl
 have k6 : wa.cell? ⟨g, 6, none⟩ = some (.int .i64 c.dw) := HX2.out.val rfl
 have k7 : wa.cell? ⟨g, 7, none⟩ = some (.int .i64 c.ho) := HX2.out.val rfl
 have k8 : wa.cell? ⟨g, 8, none⟩ = some (.int .i64 c.sp) := HX2.out.val rfl
 have k9 : wa.cell? ⟨g, 9, none⟩ = some (.int .i64 c.kp) := HX2.out.val rfl
 have k10 : wa.cell? ⟨g, 10, none⟩ = some (.int .i64 c.ki) := HX2.out.val rfl
 have k11 : wa.cell? ⟨g, 11, none⟩ = some (.int .i64 c.kd) := HX2.out.val rfl
 have k12 : wa.cell? ⟨g, 12, none⟩ = some (.int .i64 c.lm) := HX2.out.val rfl
 have k13 : wa.cell? ⟨g, 13, none⟩ = some (.int .i64 c.st) := HX2.out.val rfl
 have k14 : wa.cell? ⟨g, 14, none⟩ = some (.int .i64 c.th) := HX2.out.val rfl
 have k15 : wa.cell? ⟨g, 15, none⟩ = some (.int .i64 c.rg) := HX2.out.val rfl
 have hgs : g < wa.heap.size := klt k0
 clear hti
 go_cut [2, 3] (fun s2 s3 wx => ∃ p gc gm l : Nat, s2 = .pointer (some ⟨p, 0, none⟩) ∧ s3 = .int .i64 0 ∧ wa.heap.size ≤ p ∧ wa.heap.size ≤ gc ∧ wa.heap.size ≤ gm ∧ wa.heap.size ≤ l ∧
   Blk wx p coT #[.int .i64 (N : Int), .int .i64 c.ro, .int .i64 c.ta, .int .i64 c.iv, .int .i64 c.hg, .int .i64 c.lo, .int .i64 c.dw, .int .i64 c.ho, .int .i64 c.sp, .int .i64 c.kp, .int .i64 c.ki, .int .i64 c.kd, .int .i64 c.lm, .int .i64 c.st, .int .i64 c.th, .int .i64 c.rg, .pointer (some ⟨q, 0, none⟩), .slice (some ⟨gc, 0, none⟩) N N, .slice (some ⟨gm, 0, none⟩) N N, .int .i64 0, .int .i64 0, .int .i64 0, .pointer (some ⟨l, 0, none⟩), .int .u8 0, .int .i64 0, .int .i64 0, .int .u64 0] ∧ Blk wx gc csT (madeCells #[.bool false, .int .i64 0, .bool false, .int .i64 0, .int .u64 0, .int .u64 0] (N * 6)) ∧ Blk wx gm msT (madeCells #[.bool false, .int .i64 0, .int .u64 0] (N * 3)) ∧ Blk wx l lgT #[.slice none 0 0] ∧ Below wa.heap.size wa wx)
 case first =>
   go_region_held3 (fun w' => w'.cell? ⟨g, 0, none⟩ = some (.int .i64 (N : Int)) ∧ w'.cell? ⟨g, 1, none⟩ = some (.int .i64 c.ro) ∧ w'.cell? ⟨g, 2, none⟩ = some (.int .i64 c.ta) ∧ w'.cell? ⟨g, 3, none⟩ = some (.int .i64 c.iv) ∧ w'.cell? ⟨g, 4, none⟩ = some (.int .i64 c.hg) ∧ w'.cell? ⟨g, 5, none⟩ = some (.int .i64 c.lo) ∧ w'.cell? ⟨g, 6, none⟩ = some (.int .i64 c.dw) ∧ w'.cell? ⟨g, 7, none⟩ = some (.int .i64 c.ho) ∧ w'.cell? ⟨g, 8, none⟩ = some (.int .i64 c.sp) ∧ w'.cell? ⟨g, 9, none⟩ = some (.int .i64 c.kp) ∧ w'.cell? ⟨g, 10, none⟩ = some (.int .i64 c.ki) ∧ w'.cell? ⟨g, 11, none⟩ = some (.int .i64 c.kd) ∧ w'.cell? ⟨g, 12, none⟩ = some (.int .i64 c.lm) ∧ w'.cell? ⟨g, 13, none⟩ = some (.int .i64 c.st) ∧ w'.cell? ⟨g, 14, none⟩ = some (.int .i64 c.th) ∧ w'.cell? ⟨g, 15, none⟩ = some (.int .i64 c.rg)) (repeat (first | with_reducible assumption | refine ⟨?_, ?_⟩ | with_reducible refine kdrew ?_ | with_reducible refine kalloc ?_ _)) (first | (go_at_call 38; refine (tnew_ex _).mono ?_; rintro e w1 ⟨rfl, rfl⟩))
   all_goals (try go_wp2)
   all_goals go_meet
   all_goals (first
     | (refine ⟨wa.heap.size + 1 + 1 + 1, wa.heap.size, wa.heap.size + 1, wa.heap.size + 1 + 1, rfl, rfl, by omega, by omega, by omega, by omega, ?_, ?_, ?_, ?_, ?_⟩ <;> (repeat (first | with_reducible exact Below.refl _ _ | with_reducible apply Below.drew | refine Below.alloc ?_ (by (try simp); (try omega)) _ | (with_reducible refine Blk.new_ ?_; simp; done) | with_reducible refine Blk.drew_ ?_ | with_reducible refine Blk.alloc_ ?_ _)); done)
     | (refine ⟨wa.heap.size + 1 + 1 + 1, wa.heap.size, wa.heap.size + 1 + 1, wa.heap.size + 1, rfl, rfl, by omega, by omega, by omega, by omega, ?_, ?_, ?_, ?_, ?_⟩ <;> (repeat (first | with_reducible exact Below.refl _ _ | with_reducible apply Below.drew | refine Below.alloc ?_ (by (try simp); (try omega)) _ | (with_reducible refine Blk.new_ ?_; simp; done) | with_reducible refine Blk.drew_ ?_ | with_reducible refine Blk.alloc_ ?_ _)); done)
     | (refine ⟨wa.heap.size + 1 + 1 + 1, wa.heap.size + 1, wa.heap.size, wa.heap.size + 1 + 1, rfl, rfl, by omega, by omega, by omega, by omega, ?_, ?_, ?_, ?_, ?_⟩ <;> (repeat (first | with_reducible exact Below.refl _ _ | with_reducible apply Below.drew | refine Below.alloc ?_ (by (try simp); (try omega)) _ | (with_reducible refine Blk.new_ ?_; simp; done) | with_reducible refine Blk.drew_ ?_ | with_reducible refine Blk.alloc_ ?_ _)); done)
     | (refine ⟨wa.heap.size + 1 + 1 + 1, wa.heap.size + 1, wa.heap.size + 1 + 1, wa.heap.size, rfl, rfl, by omega, by omega, by omega, by omega, ?_, ?_, ?_, ?_, ?_⟩ <;> (repeat (first | with_reducible exact Below.refl _ _ | with_reducible apply Below.drew | refine Below.alloc ?_ (by (try simp); (try omega)) _ | (with_reducible refine Blk.new_ ?_; simp; done) | with_reducible refine Blk.drew_ ?_ | with_reducible refine Blk.alloc_ ?_ _)); done)
     | (refine ⟨wa.heap.size + 1 + 1 + 1, wa.heap.size + 1 + 1, wa.heap.size, wa.heap.size + 1, rfl, rfl, by omega, by omega, by omega, by omega, ?_, ?_, ?_, ?_, ?_⟩ <;> (repeat (first | with_reducible exact Below.refl _ _ | with_reducible apply Below.drew | refine Below.alloc ?_ (by (try simp); (try omega)) _ | (with_reducible refine Blk.new_ ?_; simp; done) | with_reducible refine Blk.drew_ ?_ | with_reducible refine Blk.alloc_ ?_ _)); done)
     | (refine ⟨wa.heap.size + 1 + 1 + 1, wa.heap.size + 1 + 1, wa.heap.size + 1, wa.heap.size, rfl, rfl, by omega, by omega, by omega, by omega, ?_, ?_, ?_, ?_, ?_⟩ <;> (repeat (first | with_reducible exact Below.refl _ _ | with_reducible apply Below.drew | refine Below.alloc ?_ (by (try simp); (try omega)) _ | (with_reducible refine Blk.new_ ?_; simp; done) | with_reducible refine Blk.drew_ ?_ | with_reducible refine Blk.alloc_ ?_ _)); done))
 case rest =>
   obtain ⟨p, gc, gm, l, rfl, rfl, hp, hgc, hgm, hl, bp, bc, bm, bl, hb⟩ := hcut
   rw [← HN.out] at bp
   have hfin := new_end HQ.out HOQ.out HB2.out hp hgc hgm hl bp bc bm bl hb HF.out HN.out HN2.out n1 n8 m1 m2
   obtain ⟨O, hO1, hO2⟩ := hfin
   have HO1 := Lib.hid hO1
   have HO2 := Lib.hid hO2
   have HBZ := Lib.hid (HB2.out.trans (hb.mono HB2.out.size))
   clear hO1 hO2 bp bc bm bl hb hm1 hm2
   go_wp2
   go_ret2
   exact ⟨p, O, rfl, HO1.out, HO2.out, HBZ.out⟩
end Go.Proofs.YtcffeokbipjaoaaGreat
namespace Go.Proofs.YtcffeokbipjaoaaGreat
open Go.ChangeShapes Go.WideShapes Go.RowKit Kn
set_option linter.unusedVariables false
set_option linter.unusedSimpArgs false
def drainS (S : Cor) (d : Int) : Cor := if S.ph = 0 then { S with ph := 1, lim := d } else if S.ph = 1 then { S with lim := min S.lim d } else S
theorem Cor.ok.phl {S : Cor} {x y : Int} (h : S.ok) (hx : x = 0 ∨ x = 1 ∨ x = 2) (hy : I64_ y) : Cor.ok { S with ph := x, lim := y } := by
 obtain ⟨a1, a2, a3, a4, a5, a6, a7, a8, a9, a10, a11, a12, a13, a14, a15, a16, a17⟩ := h
 exact ⟨a1, a2, a3, a4, a5, a6, a7, a8, a9, a10, hx, hy, a13, a14, a15, a16, a17⟩
section
variable {w w' w'' : World} {p q gc gm l g b : Nat} {r r' : Option Nat} {O Oq Oq' O1 : Nat → Prop} {S S' : Cor} {T : TypeId} {cs : Array Value}
theorem CoreL.ph_ {x : Int} (h : CoreL w p O S) (hx : x = 0 ∨ x = 1 ∨ x = 2) : CoreL (w.setCell ⟨p, 23, none⟩ (.int .u8 x)) p O { S with ph := x } := by
 obtain ⟨q, gc, gm, l, r, Oq, h1, h2⟩ := h.cells
 exact ⟨⟨q, gc, gm, l, r, Oq, h1.set_ 23 _ rfl (h1.ok.phl hx h1.ok.lim) rfl rfl rfl rfl rfl rfl rfl, h2⟩⟩
theorem CoreL.lim_ {x : Int} (h : CoreL w p O S) (hx : I64_ x) : CoreL (w.setCell ⟨p, 24, none⟩ (.int .i64 x)) p O { S with lim := x } := by
 obtain ⟨q, gc, gm, l, r, Oq, h1, h2⟩ := h.cells
 exact ⟨⟨q, gc, gm, l, r, Oq, h1.set_ 24 _ rfl (h1.ok.phl h1.ok.ph hx) rfl rfl rfl rfl rfl rfl rfl, h2⟩⟩
theorem CoreL.set_kept (h : CoreL w p O S) (i : Nat) (u : Value) : Kept O w (w.setCell ⟨p, i, none⟩ u) := Kept.set_ (own := O) (Kept.refl _ _) (p := ⟨p, i, none⟩) (.inl h.p_mem) _
set_option maxRecDepth 100000 in
set_option maxHeartbeats 8000000 in
theorem co_drain (a b c d : Int) (h : CoreL w p O S) (hd : I64_ d) :
   Calls Tryz.prog 86 #[.pointer (some ⟨p, 0, none⟩), opv a b c d] w fun e w' => e = .returned (resv 10 0 0 0 0) ∧ CStep w p O (drainS S d) w' := by
 obtain ⟨q, gc, gm, l, r, Oq, h1, hO⟩ := h.cells
 have hOs : ∀ k, O k → k < w.heap.size := fun k hk => h.lt hk
 have hp : p < w.heap.size := h1.head.size
 have HC := Lib.hid h
 have HB := Lib.hid h1
 have HOS := Lib.hid hOs
 have HD := Lib.hid hd
 unfold opv resv
 clear h h1 hOs hO hd
 obtain ⟨W0, hW0⟩ : ∃ W, (w.alloc (.cells #[.int .u8 a, .int .i64 b, .int .i64 c, .int .i64 d] opT)).alloc (.cells #[.int .u8 0, .int .u64 0, .int .i64 0, .int .i64 0, .int .i64 0] resT) = W := ⟨_, rfl⟩
 have hb0 : Below w.heap.size w W0 := by rw [← hW0]; exact ((Below.refl _ _).alloc (Nat.le_refl _) _).alloc (by simp) _
 have hx0 : Blk W0 w.heap.size opT #[.int .u8 a, .int .i64 b, .int .i64 c, .int .i64 d] := by
   rw [← hW0]; exact (Blk.made w _ _).below_ ((Below.refl _ _).alloc (Nat.le_refl _) _) (by simp)
 have hy0 : Blk W0 (w.heap.size + 1) resT #[.int .u8 0, .int .u64 0, .int .i64 0, .int .i64 0, .int .i64 0] := by
   have := Blk.made (w.alloc (.cells #[.int .u8 a, .int .i64 b, .int .i64 c, .int .i64 d] opT)) resT #[.int .u8 0, .int .u64 0, .int .i64 0, .int .i64 0, .int .i64 0]
   rw [hW0] at this
   simpa using this
 have hz0 : W0.heap.size = w.heap.size + 2 := by rw [← hW0]; simp
 have hL0 := HC.out.below hb0
 have hB0 := HB.out.below hb0
 have c23 := hB0.c23
 have c24 := hB0.c24
 have f23 := hB0.head.free 23
 have f24 := hB0.head.free 24
 obtain ⟨g, hg⟩ : ∃ g, w.heap.size = g := ⟨_, rfl⟩
 rw [hg] at hx0 hy0
 have hg1 : ¬ O g := fun hc => by have := HOS.out g hc; omega
 have hg2 : ¬ O (g + 1) := fun hc => by have := HOS.out _ hc; omega
 have hgp : g ≠ p := by omega
 have hpg : p ≠ g := Ne.symm hgp
 have hgp2 : g + 1 ≠ p := by omega
 have HG := Lib.hid hg
 have HB0 := Lib.hid hb0
 have HX0 := Lib.hid hx0
 have HY0 := Lib.hid hy0
 have HZ0 := Lib.hid hz0
 have HL0 := Lib.hid hL0
 have HN1 := Lib.hid hg1
 have HN2 := Lib.hid hg2
 clear hb0 hx0 hy0 hz0 hL0 hB0 hg1 hg2
 have fin : ∀ (wq : World) (S1 : Cor) (x0 x1 x2 x3 x4 : Value) (wz : World), CStep W0 p O S1 wq → wz = put5 wq (g + 1) x0 x1 x2 x3 x4 → CStep w p O S1 wz ∧ Blk wz (g + 1) resT #[x0, x1, x2, x3, x4] := by
   intro wq S1 x0 x1 x2 x3 x4 wz hs hz
   have hy := (hs.blk (b := g + 1) (HY0.out) HN2.out)
   subst hz
   exact ⟨hs.box_ HB0.out hy resT_not (by have := HG.out; omega) (by have := HZ0.out; have := HG.out; omega) HN2.out put5_kept, put5_blk hy⟩
 have FIN := Lib.hid fin
 clear fin
 have x3 : W0.cell? ⟨g, 3, none⟩ = some (.int .i64 d) := HX0.out.val rfl
 have hgs : g < W0.heap.size := klt x3
 have hps : p < W0.heap.size := klt c23
 by_cases h0 : S.ph = 0
 · have e : drainS S d = { S with ph := 1, lim := d } := by unfold drainS; rw [if_pos h0]
   rw [e]
   rw [h0] at c23
   clear e h0
   go_enter Tryz.func86, Tryz.ntmps86
   go_upto_region 3 with fail
   (try rw [hW0])
   (try rw [HG.out])
   clear hW0 hg
   go_region_held3 (fun w' => w'.cell? ⟨g, 3, none⟩ = some (.int .i64 d)) (repeat (first | with_reducible assumption | refine ⟨?_, ?_⟩ | with_reducible refine kdrew ?_ | with_reducible refine kalloc ?_ _ | refine kset ?_ (by (try simp); (try omega)))) (fail)
   all_goals go_upto_region 6 with fail
   all_goals (first
     | (obtain ⟨wq, hwq⟩ : ∃ W, ((W0.setCell ⟨p, 23, none⟩ (.int .u8 1)).setCell ⟨p, 24, none⟩ (.int .i64 d)).drew = W := ⟨_, rfl⟩
        rw [hwq]
        have hst : CStep W0 p O { S with ph := 1, lim := d } wq := by
         rw [← hwq]
         have h1 := HL0.out.ph_ (x := 1) (by omega)
         have h2 := h1.lim_ HD.out
         exact ⟨O, h2.below (Below.drew (Below.refl _ _)), fun k hk => .inl hk, (((HL0.out.set_kept 23 (.int .u8 1)).trans (h1.set_kept 24 (.int .i64 d)))).trans (Kept.of_below (Below.drew (Below.refl _ _)))⟩
        have HST := Lib.hid hst
        clear hst hwq)
     | (obtain ⟨wq, hwq⟩ : ∃ W, ((W0.setCell ⟨p, 24, none⟩ (.int .i64 d)).setCell ⟨p, 23, none⟩ (.int .u8 1)).drew = W := ⟨_, rfl⟩
        rw [hwq]
        have hst : CStep W0 p O { S with ph := 1, lim := d } wq := by
         rw [← hwq]
         have h1 := HL0.out.lim_ HD.out
         have h2 := h1.ph_ (x := 1) (by omega)
         exact ⟨O, h2.below (Below.drew (Below.refl _ _)), fun k hk => .inl hk, (((HL0.out.set_kept 24 (.int .i64 d)).trans (h1.set_kept 23 (.int .u8 1)))).trans (Kept.of_below (Below.drew (Below.refl _ _)))⟩
        have HST := Lib.hid hst
        clear hst hwq))
   all_goals (
     have hy7 := HST.out.blk (b := g + 1) HY0.out HN2.out
     have y0 : wq.cell? ⟨g + 1, 0, none⟩ = some (.int .u8 0) := (hy7).val rfl
     have yz0 := (hy7).free 0
     have y1 : wq.cell? ⟨g + 1, 1, none⟩ = some (.int .u64 0) := (hy7).val rfl
     have yz1 := (hy7).free 1
     have y2 : wq.cell? ⟨g + 1, 2, none⟩ = some (.int .i64 0) := (hy7).val rfl
     have yz2 := (hy7).free 2
     have y3 : wq.cell? ⟨g + 1, 3, none⟩ = some (.int .i64 0) := (hy7).val rfl
     have yz3 := (hy7).free 3
     have y4 : wq.cell? ⟨g + 1, 4, none⟩ = some (.int .i64 0) := (hy7).val rfl
     have yz4 := (hy7).free 4
     clear hy7 c23 c24 f23 f24 x3
     go_wp2
     obtain ⟨WZ, hWZ⟩ : ∃ W, (((((wq.setCell ⟨g + 1, 0, none⟩ (.int .u8 10)).setCell ⟨g + 1, 1, none⟩ (.int .u64 0)).setCell ⟨g + 1, 2, none⟩ (.int .i64 0)).setCell ⟨g + 1, 3, none⟩ (.int .i64 0)).setCell ⟨g + 1, 4, none⟩ (.int .i64 0)) = W := ⟨_, rfl⟩
     have hf := FIN.out wq _ (.int .u8 10) (.int .u64 0) (.int .i64 0) (.int .i64 0) (.int .i64 0) WZ (HST.out) hWZ.symm
     rw [hWZ]
     clear hWZ
     have d0 : WZ.cell? ⟨g + 1, 0, none⟩ = some (.int .u8 10) := hf.2.val rfl
     have d1 : WZ.cell? ⟨g + 1, 1, none⟩ = some (.int .u64 0) := hf.2.val rfl
     have d2 : WZ.cell? ⟨g + 1, 2, none⟩ = some (.int .i64 0) := hf.2.val rfl
     have d3 : WZ.cell? ⟨g + 1, 3, none⟩ = some (.int .i64 0) := hf.2.val rfl
     have d4 : WZ.cell? ⟨g + 1, 4, none⟩ = some (.int .i64 0) := hf.2.val rfl
     refine bodyPost_ret (v := .agg #[.int .u8 10, .int .u64 0, .int .i64 0, .int .i64 0, .int .i64 0]) (by simp [results, Tryz.results86, go_sem, d0, d1, d2, d3, d4]) rfl ⟨rfl, hf.1⟩)
 · by_cases h1 : S.ph = 1
   · obtain ⟨ml, hml⟩ : ∃ ml, min S.lim d = ml := ⟨_, rfl⟩
     have e : drainS S d = { S with lim := ml } := by unfold drainS; rw [if_neg h0, if_pos h1, hml]
     rw [e]
     have h11 := h1
     rw [h1] at c23
     have hI : I64_ ml := by
       have h5 := HL0.out.ok.lim
       have h6 := HD.out
       unfold I64_ at *
       omega
     have HI := Lib.hid hI
     have HH := Lib.hid h1
     clear e h0 h1 h11 hI
     go_enter Tryz.func86, Tryz.ntmps86
     go_upto_region 5 with fail
     (try rw [hW0])
     (try rw [HG.out])
     clear hW0 hg
     go_still_tail 10, (by kernel_rfl)
     change wpList _ _ _ _ _ W0.drew
     go_upto_region 6 with fail
     (try rw [hml])
     obtain ⟨wq, hwq⟩ : ∃ W, (W0.setCell ⟨p, 24, none⟩ (.int .i64 ml)).drew = W := ⟨_, rfl⟩
     have HST := Lib.hid (show CStep W0 p O { S with lim := ml } wq by
       rw [← hwq]
       exact ⟨O, (HL0.out.lim_ HI.out).below (Below.drew (Below.refl _ _)), fun k hk => .inl hk, (HL0.out.set_kept 24 (.int .i64 ml)).trans (Kept.of_below (Below.drew (Below.refl _ _)))⟩)
     rw [hwq]
     clear hwq hml
     have hy7 := HST.out.blk (b := g + 1) HY0.out HN2.out
     have y0 : wq.cell? ⟨g + 1, 0, none⟩ = some (.int .u8 0) := (hy7).val rfl
     have yz0 := (hy7).free 0
     have y1 : wq.cell? ⟨g + 1, 1, none⟩ = some (.int .u64 0) := (hy7).val rfl
     have yz1 := (hy7).free 1
     have y2 : wq.cell? ⟨g + 1, 2, none⟩ = some (.int .i64 0) := (hy7).val rfl
     have yz2 := (hy7).free 2
     have y3 : wq.cell? ⟨g + 1, 3, none⟩ = some (.int .i64 0) := (hy7).val rfl
     have yz3 := (hy7).free 3
     have y4 : wq.cell? ⟨g + 1, 4, none⟩ = some (.int .i64 0) := (hy7).val rfl
     have yz4 := (hy7).free 4
     clear hy7 c23 c24 f23 f24 x3
     go_wp2
     obtain ⟨WZ, hWZ⟩ : ∃ W, (((((wq.setCell ⟨g + 1, 0, none⟩ (.int .u8 10)).setCell ⟨g + 1, 1, none⟩ (.int .u64 0)).setCell ⟨g + 1, 2, none⟩ (.int .i64 0)).setCell ⟨g + 1, 3, none⟩ (.int .i64 0)).setCell ⟨g + 1, 4, none⟩ (.int .i64 0)) = W := ⟨_, rfl⟩
     have hf := FIN.out wq _ (.int .u8 10) (.int .u64 0) (.int .i64 0) (.int .i64 0) (.int .i64 0) WZ (HST.out) hWZ.symm
     rw [hWZ]
     clear hWZ
     have d0 : WZ.cell? ⟨g + 1, 0, none⟩ = some (.int .u8 10) := hf.2.val rfl
     have d1 : WZ.cell? ⟨g + 1, 1, none⟩ = some (.int .u64 0) := hf.2.val rfl
     have d2 : WZ.cell? ⟨g + 1, 2, none⟩ = some (.int .i64 0) := hf.2.val rfl
     have d3 : WZ.cell? ⟨g + 1, 3, none⟩ = some (.int .i64 0) := hf.2.val rfl
     have d4 : WZ.cell? ⟨g + 1, 4, none⟩ = some (.int .i64 0) := hf.2.val rfl
     refine bodyPost_ret (v := .agg #[.int .u8 10, .int .u64 0, .int .i64 0, .int .i64 0, .int .i64 0]) (by simp [results, Tryz.results86, go_sem, d0, d1, d2, d3, d4]) rfl ⟨rfl, hf.1⟩
   · have e : drainS S d = S := by unfold drainS; rw [if_neg h0, if_neg h1]
     rw [e]
     have e1 : (S.ph == 0) = false := by rw [beq_eq_false_iff_ne]; exact h0
     have e2 : (S.ph == 1) = false := by rw [beq_eq_false_iff_ne]; exact h1
     have HST := Lib.hid (CStep.refl_ HL0.out (Below.refl W0.heap.size W0))
     clear e
     go_enter Tryz.func86, Tryz.ntmps86
     go_upto_region 6 with fail
     (try rw [hW0])
     (try rw [HG.out])
     clear hW0 hg
     have hy7 := HST.out.blk (b := g + 1) HY0.out HN2.out
     have y0 : W0.cell? ⟨g + 1, 0, none⟩ = some (.int .u8 0) := (hy7).val rfl
     have yz0 := (hy7).free 0
     have y1 : W0.cell? ⟨g + 1, 1, none⟩ = some (.int .u64 0) := (hy7).val rfl
     have yz1 := (hy7).free 1
     have y2 : W0.cell? ⟨g + 1, 2, none⟩ = some (.int .i64 0) := (hy7).val rfl
     have yz2 := (hy7).free 2
     have y3 : W0.cell? ⟨g + 1, 3, none⟩ = some (.int .i64 0) := (hy7).val rfl
     have yz3 := (hy7).free 3
     have y4 : W0.cell? ⟨g + 1, 4, none⟩ = some (.int .i64 0) := (hy7).val rfl
     have yz4 := (hy7).free 4
     clear hy7 c23 c24 f23 f24 x3
     go_wp2
     obtain ⟨WZ, hWZ⟩ : ∃ W, (((((W0.setCell ⟨g + 1, 0, none⟩ (.int .u8 10)).setCell ⟨g + 1, 1, none⟩ (.int .u64 0)).setCell ⟨g + 1, 2, none⟩ (.int .i64 0)).setCell ⟨g + 1, 3, none⟩ (.int .i64 0)).setCell ⟨g + 1, 4, none⟩ (.int .i64 0)) = W := ⟨_, rfl⟩
     have hf := FIN.out W0 _ (.int .u8 10) (.int .u64 0) (.int .i64 0) (.int .i64 0) (.int .i64 0) WZ (HST.out) hWZ.symm
     rw [hWZ]
     clear hWZ
     have d0 : WZ.cell? ⟨g + 1, 0, none⟩ = some (.int .u8 10) := hf.2.val rfl
     have d1 : WZ.cell? ⟨g + 1, 1, none⟩ = some (.int .u64 0) := hf.2.val rfl
     have d2 : WZ.cell? ⟨g + 1, 2, none⟩ = some (.int .i64 0) := hf.2.val rfl
     have d3 : WZ.cell? ⟨g + 1, 3, none⟩ = some (.int .i64 0) := hf.2.val rfl
     have d4 : WZ.cell? ⟨g + 1, 4, none⟩ = some (.int .i64 0) := hf.2.val rfl
     refine bodyPost_ret (v := .agg #[.int .u8 10, .int .u64 0, .int .i64 0, .int .i64 0, .int .i64 0]) (by simp [results, Tryz.results86, go_sem, d0, d1, d2, d3, d4]) rfl ⟨rfl, hf.1⟩
end
end Go.Proofs.YtcffeokbipjaoaaGreat
