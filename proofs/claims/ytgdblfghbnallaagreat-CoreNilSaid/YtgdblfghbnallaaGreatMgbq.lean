/- Texts of this claim, one behind the other: Cqm Crb Cqp. -/
import Derived.Test.YtgdblfghbnallaaGreatMgbn
import Derived.Test.YtgdblfghbnallaaGreatMgbo
import Derived.Test.YtgdblfghbnallaaGreatMgbp
/- core.New. -/
namespace Go.Proofs.YtgdblfghbnallaaGreat
open Go.ChangeShapes Go.WideShapes Go.RowKit Kn
set_option linter.unusedVariables false
set_option linter.unusedSimpArgs false
abbrev lgT : TypeId := 95
theorem csinfo : (Tryz.prog.info? csT).map (fun i => (i.zero, i.size, i.bytes)) = some (some (.agg #[.bool false, .int .i64 0, .bool false, .int .i64 0, .int .u64 0, .int .u64 0]), 6, 48) := by kernel_rfl
theorem msinfo : (Tryz.prog.info? msT).map (fun i => (i.zero, i.size, i.bytes)) = some (some (.agg #[.bool false, .int .i64 0, .int .u64 0]), 3, 24) := by kernel_rfl
theorem run_cods (n : Nat) (hn : n ≤ 8) (w : World) :
    (Instr.makeSlice 67 (.int .i64 (n : Int)) (.int .i64 (n : Int))).run Tryz.prog w = .ok (.slice (some ⟨w.heap.size, 0, none⟩) n n) (w.alloc (.cells (madeCells #[.bool false, .int .i64 0, .bool false, .int .i64 0, .int .u64 0, .int .u64 0] (n * 6)) csT)) := by
  obtain ⟨i, hi, hzz⟩ := Option.map_eq_some_iff.1 csinfo
  simp only [Prod.mk.injEq] at hzz
  obtain ⟨hz, hs, hb⟩ := hzz
  have h := run_make (P := Tryz.prog) w 67 csT i _ Tryz.underlying67 hi hz .i64 .i64 n n (by omega) (Int.le_refl _) (by rw [hb]; omega) (by omega)
  simp only [Int.toNat_natCast, hs] at h
  exact h
theorem run_mods (n : Nat) (hn : n ≤ 8) (w : World) :
    (Instr.makeSlice 68 (.int .i64 (n : Int)) (.int .i64 (n : Int))).run Tryz.prog w = .ok (.slice (some ⟨w.heap.size, 0, none⟩) n n) (w.alloc (.cells (madeCells #[.bool false, .int .i64 0, .int .u64 0] (n * 3)) msT)) := by
  obtain ⟨i, hi, hzz⟩ := Option.map_eq_some_iff.1 msinfo
  simp only [Prod.mk.injEq] at hzz
  obtain ⟨hz, hs, hb⟩ := hzz
  have h := run_make (P := Tryz.prog) w 68 msT i _ Tryz.underlying68 hi hz .i64 .i64 n n (by omega) (Int.le_refl _) (by rw [hb]; omega) (by omega)
  simp only [Int.toNat_natCast, hs] at h
  exact h
theorem tnew_ex (w : World) : Calls Tryz.prog 24 #[] w fun e w' => e = .returned (.pointer (some ⟨w.heap.size, 0, none⟩)) ∧ w' = w.alloc (.cells #[.slice none 0 0] lgT) := by
  go_enter Tryz.func24, Tryz.ntmps24
  go_wp2_with fail
  go_ret
  exact ⟨rfl, rfl⟩
/-- A core that nobody has called yet. -/
def newC (c : Cf) (N n : Nat) : Cor := ⟨c, N, n, 0, newS n, fun _ => ⟨false, 0, false, 0, 0, 0⟩, fun _ => ⟨false, 0, 0⟩, ⟨0, 0, 0⟩, [], 0, 0, 0, 0⟩
theorem newC_ok {c : Cf} {N n : Nat} (hf : c.fits) (hN : c.ti = (N : Int)) (hn : c.ro = (n : Int)) (n1 : 1 ≤ N) (n8 : N ≤ 8) (m1 : 1 ≤ n) (m2 : n ≤ 1024) : (newC c N n).ok := by
  refine ⟨hf, hN, hn, n1, n8, m1, m2, fun t _ => ⟨?_, ?_, ?_, ?_, ?_, ?_, ?_, ?_⟩, fun t _ => ⟨?_, ?_, ?_, ?_⟩, ⟨?_, ?_, ?_, ?_, ?_, ?_⟩, .inl rfl, ⟨?_, ?_⟩, ⟨?_, ?_⟩, ?_, rfl, fun i hi ht => ?_, ?_⟩
  all_goals (try dsimp only [newC, newS, List.length_nil])
  all_goals first | omega | (exact absurd ht (by simp [newC, newS]))
theorem made_row {w : World} {g N sz : Nat} {T : TypeId} {z : Array Value} {row : List Value} (h : Blk w g T (madeCells z (N * sz))) (hz : z.toList = row) (hl : row.length = sz) (h0 : 0 < sz) : RB w g T sz N (fun _ => row) := by
  refine ⟨_, h, made_size _ _, fun t ht k hk => ?_⟩
  have hlt : t * sz + k < N * sz := by
    have : (t + 1) * sz ≤ N * sz := Nat.mul_le_mul_right _ ht
    rw [Nat.add_mul, Nat.one_mul] at this; omega
  have hsz : z.size = sz := by rw [← hl, ← hz, Array.length_toList]
  rw [made_at _ _ hlt (by omega)]
  have e : (t * sz + k) % z.size = k := by rw [hsz, Nat.mul_comm, Nat.mul_add_mod, Nat.mod_eq_of_lt hk]
  rw [← hz]
  simp only [e]
  rw [List.getElem?_eq_getElem (by rw [hz, hl]; exact hk)]
  simp [Array.getElem?_eq_getElem, hsz, hk]
theorem new_end {w wa wz : World} {c : Cf} {N n p q gc gm l : Nat} {Oq : Nat → Prop} (hq : TqO wa q N n 0 (newS n) Oq) (hOq : ∀ k, Oq k → w.heap.size ≤ k) (ha : Below w.heap.size w wa) (hp : wa.heap.size ≤ p) (hgc : wa.heap.size ≤ gc) (hgm : wa.heap.size ≤ gm) (hl : wa.heap.size ≤ l)
    (bp : Blk wz p coT #[.int .i64 c.ti, .int .i64 c.ro, .int .i64 c.ta, .int .i64 c.iv, .int .i64 c.hg, .int .i64 c.lo, .int .i64 c.dw, .int .i64 c.ho, .int .i64 c.sp, .int .i64 c.kp, .int .i64 c.ki, .int .i64 c.kd, .int .i64 c.lm, .int .i64 c.st, .int .i64 c.th, .int .i64 c.rg, .pointer (some ⟨q, 0, none⟩), .slice (some ⟨gc, 0, none⟩) N N, .slice (some ⟨gm, 0, none⟩) N N, .int .i64 0, .int .i64 0, .int .i64 0, .pointer (some ⟨l, 0, none⟩), .int .u8 0, .int .i64 0, .int .i64 0, .int .u64 0]) (bc : Blk wz gc csT (madeCells #[.bool false, .int .i64 0, .bool false, .int .i64 0, .int .u64 0, .int .u64 0] (N * 6))) (bm : Blk wz gm msT (madeCells #[.bool false, .int .i64 0, .int .u64 0] (N * 3))) (bl : Blk wz l lgT #[.slice none 0 0]) (hz : Below wa.heap.size wa wz)
    (hf : c.fits) (hN : c.ti = (N : Int)) (hn : c.ro = (n : Int)) (n1 : 1 ≤ N) (n8 : N ≤ 8) (m1 : 1 ≤ n) (m2 : n ≤ 1024) :
    ∃ O, CoreL wz p O (newC c N n) ∧ ∀ k, O k → w.heap.size ≤ k := by
  have hB : CoreB wz p q gc gm l none Oq (newC c N n) := ⟨bp, hq.below hz, made_row bc rfl rfl (by omega), made_row bm rfl rfl (by omega), ⟨_, bl, OwO.nil_ _ _ _, rfl⟩, newC_ok hf hN hn n1 n8 m1 m2⟩
  have hs := ha.size
  refine ⟨_, hB.to, fun k hk => ?_⟩
  rcases hk with e | e | e | e | e | e
  · omega
  · omega
  · omega
  · omega
  · cases e
  · exact hOq k e
set_option maxRecDepth 100000 in
set_option maxHeartbeats 8000000 in
theorem cnew_yes (c : Cf) (N n : Nat) (w : World) (hv : validE c = 0) (hf : c.fits) (hN : c.ti = (N : Int)) (hn : c.ro = (n : Int)) (n1 : 1 ≤ N) (n8 : N ≤ 8) (m1 : 1 ≤ n) (m2 : n ≤ 1024) :
    Calls Tryz.prog 6 #[c.v] w fun e w' => ∃ (p : Nat) (O : Nat → Prop), e = .returned (.tuple #[.pointer (some ⟨p, 0, none⟩), .int .i64 0]) ∧ CoreL w' p O (newC c N n) ∧ (∀ k, O k → w.heap.size ≤ k) ∧ Below w.heap.size w w' := by
  have hva := fun wq => valid_any c wq
  rw [hv] at hva
  have HVA := Lib.hid hva
  have hm1 := run_cods N n8
  have hm2 := run_mods N n8
  have HF := Lib.hid hf
  have HN := Lib.hid hN
  have HN2 := Lib.hid hn
  clear hva hv hf hN hn
  obtain ⟨W0, hW0⟩ : ∃ W, w.alloc (.cells #[.int .i64 c.ti, .int .i64 c.ro, .int .i64 c.ta, .int .i64 c.iv, .int .i64 c.hg, .int .i64 c.lo, .int .i64 c.dw, .int .i64 c.ho, .int .i64 c.sp, .int .i64 c.kp, .int .i64 c.ki, .int .i64 c.kd, .int .i64 c.lm, .int .i64 c.st, .int .i64 c.th, .int .i64 c.rg] 24) = W := ⟨_, rfl⟩
  have hb0 : Below w.heap.size w W0 := by rw [← hW0]; exact (Below.refl _ _).alloc (Nat.le_refl _) _
  have hx0 : Blk W0 w.heap.size 24 #[.int .i64 c.ti, .int .i64 c.ro, .int .i64 c.ta, .int .i64 c.iv, .int .i64 c.hg, .int .i64 c.lo, .int .i64 c.dw, .int .i64 c.ho, .int .i64 c.sp, .int .i64 c.kp, .int .i64 c.ki, .int .i64 c.kd, .int .i64 c.lm, .int .i64 c.st, .int .i64 c.th, .int .i64 c.rg] := by rw [← hW0]; exact Blk.made _ _ _
  obtain ⟨g, hg⟩ : ∃ g, w.heap.size = g := ⟨_, rfl⟩
  have HG := Lib.hid hg
  have HB0 := Lib.hid hb0
  have HX0 := Lib.hid (show Blk W0 g 24 #[.int .i64 c.ti, .int .i64 c.ro, .int .i64 c.ta, .int .i64 c.iv, .int .i64 c.hg, .int .i64 c.lo, .int .i64 c.dw, .int .i64 c.ho, .int .i64 c.sp, .int .i64 c.kp, .int .i64 c.ki, .int .i64 c.kd, .int .i64 c.lm, .int .i64 c.st, .int .i64 c.th, .int .i64 c.rg] by rw [← hg]; exact hx0)
  clear hb0 hx0
  go_enter Tryz.func6, Tryz.ntmps6
  go_upto_region 1 with fail
  (try rw [hW0])
  (try rw [HG.out])
  clear hW0 hg
  have k0 : W0.cell? ⟨g, 0, none⟩ = some (.int .i64 c.ti) := HX0.out.val rfl
  have k1 : W0.cell? ⟨g, 1, none⟩ = some (.int .i64 c.ro) := HX0.out.val rfl
  have k2 : W0.cell? ⟨g, 2, none⟩ = some (.int .i64 c.ta) := HX0.out.val rfl
  have k3 : W0.cell? ⟨g, 3, none⟩ = some (.int .i64 c.iv) := HX0.out.val rfl
  have k4 : W0.cell? ⟨g, 4, none⟩ = some (.int .i64 c.hg) := HX0.out.val rfl
  have k5 : W0.cell? ⟨g, 5, none⟩ = some (.int .i64 c.lo) := HX0.out.val rfl
  have k6 : W0.cell? ⟨g, 6, none⟩ = some (.int .i64 c.dw) := HX0.out.val rfl
  have k7 : W0.cell? ⟨g, 7, none⟩ = some (.int .i64 c.ho) := HX0.out.val rfl
  have k8 : W0.cell? ⟨g, 8, none⟩ = some (.int .i64 c.sp) := HX0.out.val rfl
  have k9 : W0.cell? ⟨g, 9, none⟩ = some (.int .i64 c.kp) := HX0.out.val rfl
  have k10 : W0.cell? ⟨g, 10, none⟩ = some (.int .i64 c.ki) := HX0.out.val rfl
  have k11 : W0.cell? ⟨g, 11, none⟩ = some (.int .i64 c.kd) := HX0.out.val rfl
  have k12 : W0.cell? ⟨g, 12, none⟩ = some (.int .i64 c.lm) := HX0.out.val rfl
  have k13 : W0.cell? ⟨g, 13, none⟩ = some (.int .i64 c.st) := HX0.out.val rfl
  have k14 : W0.cell? ⟨g, 14, none⟩ = some (.int .i64 c.th) := HX0.out.val rfl
  have k15 : W0.cell? ⟨g, 15, none⟩ = some (.int .i64 c.rg) := HX0.out.val rfl
  go_wp2_with fail
  refine (HVA.out _).mono ?_
  rintro e w1 ⟨rfl, hb1⟩
  have hx1 := HX0.out.below_ hb1 HX0.out.size
  have HX1 := Lib.hid hx1
  have HB1 := Lib.hid (HB0.out.trans (hb1.mono HB0.out.size))
  clear hx1 hb1 k0 k1 k2 k3 k4 k5 k6 k7 k8 k9 k10 k11 k12 k13 k14 k15
  have a0 : w1.cell? ⟨g, 0, none⟩ = some (.int .i64 (N : Int)) := by rw [← HN.out]; exact HX1.out.val rfl
  have a1 : w1.cell? ⟨g, 1, none⟩ = some (.int .i64 (n : Int)) := by rw [← HN2.out]; exact HX1.out.val rfl
  go_wp2_with fail
  refine (tqo_new N n _ n1 n8 m1 m2).mono ?_
  rintro e wa ⟨q, Oq, rfl, hq, hOq, hb2⟩
  have hx2 := HX1.out.below_ hb2 HX1.out.size
  have HX2 := Lib.hid hx2
  have HB2 := Lib.hid (HB1.out.trans (hb2.mono HB1.out.size))
  have HQ := Lib.hid hq
  have HOQ := Lib.hid (show ∀ k, Oq k → w.heap.size ≤ k from fun k hk => by have := hOq k hk; have := HB1.out.size; omega)
  clear hq hOq hx2 hb2 a0 a1
  go_upto_region 5 with fail
  obtain ⟨ti, hti⟩ : ∃ ti, c.ti = ti := ⟨_, rfl⟩
  have k0 : wa.cell? ⟨g, 0, none⟩ = some (.int .i64 (N : Int)) := by rw [← HN.out]; exact HX2.out.val rfl
  have k1 : wa.cell? ⟨g, 1, none⟩ = some (.int .i64 c.ro) := HX2.out.val rfl
  have k2 : wa.cell? ⟨g, 2, none⟩ = some (.int .i64 c.ta) := HX2.out.val rfl
  have k3 : wa.cell? ⟨g, 3, none⟩ = some (.int .i64 c.iv) := HX2.out.val rfl
  have k4 : wa.cell? ⟨g, 4, none⟩ = some (.int .i64 c.hg) := HX2.out.val rfl
  have k5 : wa.cell? ⟨g, 5, none⟩ = some (.int .i64 c.lo) := HX2.out.val rfl
  have k6 : wa.cell? ⟨g, 6, none⟩ = some (.int .i64 c.dw) := HX2.out.val rfl
  have k7 : wa.cell? ⟨g, 7, none⟩ = some (.int .i64 c.ho) := HX2.out.val rfl
  have k8 : wa.cell? ⟨g, 8, none⟩ = some (.int .i64 c.sp) := HX2.out.val rfl
  have k9 : wa.cell? ⟨g, 9, none⟩ = some (.int .i64 c.kp) := HX2.out.val rfl
  have k10 : wa.cell? ⟨g, 10, none⟩ = some (.int .i64 c.ki) := HX2.out.val rfl
  have k11 : wa.cell? ⟨g, 11, none⟩ = some (.int .i64 c.kd) := HX2.out.val rfl
  have k12 : wa.cell? ⟨g, 12, none⟩ = some (.int .i64 c.lm) := HX2.out.val rfl
  have k13 : wa.cell? ⟨g, 13, none⟩ = some (.int .i64 c.st) := HX2.out.val rfl
  have k14 : wa.cell? ⟨g, 14, none⟩ = some (.int .i64 c.th) := HX2.out.val rfl
  have k15 : wa.cell? ⟨g, 15, none⟩ = some (.int .i64 c.rg) := HX2.out.val rfl
  have hgs : g < wa.heap.size := klt k0
  clear hti
  go_cut [2, 3] (fun s2 s3 wx => ∃ p gc gm l : Nat, s2 = .pointer (some ⟨p, 0, none⟩) ∧ s3 = .int .i64 0 ∧ wa.heap.size ≤ p ∧ wa.heap.size ≤ gc ∧ wa.heap.size ≤ gm ∧ wa.heap.size ≤ l ∧
    Blk wx p coT #[.int .i64 (N : Int), .int .i64 c.ro, .int .i64 c.ta, .int .i64 c.iv, .int .i64 c.hg, .int .i64 c.lo, .int .i64 c.dw, .int .i64 c.ho, .int .i64 c.sp, .int .i64 c.kp, .int .i64 c.ki, .int .i64 c.kd, .int .i64 c.lm, .int .i64 c.st, .int .i64 c.th, .int .i64 c.rg, .pointer (some ⟨q, 0, none⟩), .slice (some ⟨gc, 0, none⟩) N N, .slice (some ⟨gm, 0, none⟩) N N, .int .i64 0, .int .i64 0, .int .i64 0, .pointer (some ⟨l, 0, none⟩), .int .u8 0, .int .i64 0, .int .i64 0, .int .u64 0] ∧ Blk wx gc csT (madeCells #[.bool false, .int .i64 0, .bool false, .int .i64 0, .int .u64 0, .int .u64 0] (N * 6)) ∧ Blk wx gm msT (madeCells #[.bool false, .int .i64 0, .int .u64 0] (N * 3)) ∧ Blk wx l lgT #[.slice none 0 0] ∧ Below wa.heap.size wa wx)
  case first =>
    go_region_held3 (fun w' => w'.cell? ⟨g, 0, none⟩ = some (.int .i64 (N : Int)) ∧ w'.cell? ⟨g, 1, none⟩ = some (.int .i64 c.ro) ∧ w'.cell? ⟨g, 2, none⟩ = some (.int .i64 c.ta) ∧ w'.cell? ⟨g, 3, none⟩ = some (.int .i64 c.iv) ∧ w'.cell? ⟨g, 4, none⟩ = some (.int .i64 c.hg) ∧ w'.cell? ⟨g, 5, none⟩ = some (.int .i64 c.lo) ∧ w'.cell? ⟨g, 6, none⟩ = some (.int .i64 c.dw) ∧ w'.cell? ⟨g, 7, none⟩ = some (.int .i64 c.ho) ∧ w'.cell? ⟨g, 8, none⟩ = some (.int .i64 c.sp) ∧ w'.cell? ⟨g, 9, none⟩ = some (.int .i64 c.kp) ∧ w'.cell? ⟨g, 10, none⟩ = some (.int .i64 c.ki) ∧ w'.cell? ⟨g, 11, none⟩ = some (.int .i64 c.kd) ∧ w'.cell? ⟨g, 12, none⟩ = some (.int .i64 c.lm) ∧ w'.cell? ⟨g, 13, none⟩ = some (.int .i64 c.st) ∧ w'.cell? ⟨g, 14, none⟩ = some (.int .i64 c.th) ∧ w'.cell? ⟨g, 15, none⟩ = some (.int .i64 c.rg)) (repeat (first | with_reducible assumption | refine ⟨?_, ?_⟩ | with_reducible refine kdrew ?_ | with_reducible refine kalloc ?_ _)) (first | (go_at_call 24; refine (tnew_ex _).mono ?_; rintro e w1 ⟨rfl, rfl⟩))
    all_goals (try go_wp2)
    all_goals go_meet
    all_goals (first
      | (refine ⟨wa.heap.size + 1 + 1 + 1, wa.heap.size, wa.heap.size + 1, wa.heap.size + 1 + 1, rfl, rfl, by omega, by omega, by omega, by omega, ?_, ?_, ?_, ?_, ?_⟩ <;> (repeat (first | with_reducible exact Below.refl _ _ | with_reducible apply Below.drew | refine Below.alloc ?_ (by (try simp); (try omega)) _ | (with_reducible refine Blk.new_ ?_; simp; done) | with_reducible refine Blk.drew_ ?_ | with_reducible refine Blk.alloc_ ?_ _)); done)
      | (refine ⟨wa.heap.size + 1 + 1 + 1, wa.heap.size, wa.heap.size + 1 + 1, wa.heap.size + 1, rfl, rfl, by omega, by omega, by omega, by omega, ?_, ?_, ?_, ?_, ?_⟩ <;> (repeat (first | with_reducible exact Below.refl _ _ | with_reducible apply Below.drew | refine Below.alloc ?_ (by (try simp); (try omega)) _ | (with_reducible refine Blk.new_ ?_; simp; done) | with_reducible refine Blk.drew_ ?_ | with_reducible refine Blk.alloc_ ?_ _)); done)
      | (refine ⟨wa.heap.size + 1 + 1 + 1, wa.heap.size + 1, wa.heap.size, wa.heap.size + 1 + 1, rfl, rfl, by omega, by omega, by omega, by omega, ?_, ?_, ?_, ?_, ?_⟩ <;> (repeat (first | with_reducible exact Below.refl _ _ | with_reducible apply Below.drew | refine Below.alloc ?_ (by (try simp); (try omega)) _ | (with_reducible refine Blk.new_ ?_; simp; done) | with_reducible refine Blk.drew_ ?_ | with_reducible refine Blk.alloc_ ?_ _)); done)
      | (refine ⟨wa.heap.size + 1 + 1 + 1, wa.heap.size + 1, wa.heap.size + 1 + 1, wa.heap.size, rfl, rfl, by omega, by omega, by omega, by omega, ?_, ?_, ?_, ?_, ?_⟩ <;> (repeat (first | with_reducible exact Below.refl _ _ | with_reducible apply Below.drew | refine Below.alloc ?_ (by (try simp); (try omega)) _ | (with_reducible refine Blk.new_ ?_; simp; done) | with_reducible refine Blk.drew_ ?_ | with_reducible refine Blk.alloc_ ?_ _)); done)
      | (refine ⟨wa.heap.size + 1 + 1 + 1, wa.heap.size + 1 + 1, wa.heap.size, wa.heap.size + 1, rfl, rfl, by omega, by omega, by omega, by omega, ?_, ?_, ?_, ?_, ?_⟩ <;> (repeat (first | with_reducible exact Below.refl _ _ | with_reducible apply Below.drew | refine Below.alloc ?_ (by (try simp); (try omega)) _ | (with_reducible refine Blk.new_ ?_; simp; done) | with_reducible refine Blk.drew_ ?_ | with_reducible refine Blk.alloc_ ?_ _)); done)
      | (refine ⟨wa.heap.size + 1 + 1 + 1, wa.heap.size + 1 + 1, wa.heap.size + 1, wa.heap.size, rfl, rfl, by omega, by omega, by omega, by omega, ?_, ?_, ?_, ?_, ?_⟩ <;> (repeat (first | with_reducible exact Below.refl _ _ | with_reducible apply Below.drew | refine Below.alloc ?_ (by (try simp); (try omega)) _ | (with_reducible refine Blk.new_ ?_; simp; done) | with_reducible refine Blk.drew_ ?_ | with_reducible refine Blk.alloc_ ?_ _)); done))
  case rest =>
    obtain ⟨p, gc, gm, l, rfl, rfl, hp, hgc, hgm, hl, bp, bc, bm, bl, hb⟩ := hcut
    rw [← HN.out] at bp
    have hfin := new_end HQ.out HOQ.out HB2.out hp hgc hgm hl bp bc bm bl hb HF.out HN.out HN2.out n1 n8 m1 m2
    obtain ⟨O, hO1, hO2⟩ := hfin
    have HO1 := Lib.hid hO1
    have HO2 := Lib.hid hO2
    have HBZ := Lib.hid (HB2.out.trans (hb.mono HB2.out.size))
    clear hO1 hO2 bp bc bm bl hb hm1 hm2
    go_wp2
    go_ret2
    exact ⟨p, O, rfl, HO1.out, HO2.out, HBZ.out⟩
end Go.Proofs.YtgdblfghbnallaaGreat
/- A core's Do: Submit, Poll, with the end of a drain; a new core's first two calls; New of any config. -/
namespace Go.Proofs.YtgdblfghbnallaaGreat
open Go.ChangeShapes Go.WideShapes Go.RowKit Kn
set_option linter.unusedVariables false
set_option linter.unusedSimpArgs false
theorem endS_run {S : Cor} (h : S.ph = 0) : endS S = S := if_pos (.inl (by omega))
theorem endS_K (S : Cor) : (endS S).K = S.K ∧ (endS S).cf = S.cf ∧ (endS S).N = S.N ∧ (endS S).n = S.n ∧ (endS S).clk = S.clk := by
  unfold endS
  split
  · exact ⟨rfl, rfl, rfl, rfl, rfl⟩
  · have h := settleAll_like 6 (allT S.q.L S.N) S
    exact ⟨h.K, h.cf, h.N, h.n, h.clk⟩
/-- What a call finds: who is late is gone, and the drain ended if it was time. -/
noncomputable def sweptS (S : Cor) (now : Int) : Cor := endS (settleAll (clkS S now) 2 (dueL (clkS S now)))
theorem sweptS_K (S : Cor) (now : Int) : (sweptS S now).K = S.K ∧ (sweptS S now).cf = S.cf ∧ (sweptS S now).N = S.N := by
  have h1 := endS_K (settleAll (clkS S now) 2 (dueL (clkS S now)))
  have h2 := settleAll_like 2 (dueL (clkS S now)) (clkS S now)
  exact ⟨h1.1.trans h2.K, h1.2.1.trans h2.cf, h1.2.2.1.trans h2.N⟩
theorem submitV_resv (S : Cor) (b c d : Int) : ∃ r0 r1 r2 r3 r4, submitV S b c d = resv r0 r1 r2 r3 r4 := by
  unfold submitV
  split
  · split
    · split
      · exact ⟨_, _, _, _, _, rfl⟩
      · exact ⟨_, _, _, _, _, rfl⟩
    · exact ⟨_, _, _, _, _, rfl⟩
  · exact ⟨_, _, _, _, _, rfl⟩
theorem submitS_K (S : Cor) (b c d : Int) : (submitS S b c d).K ≤ S.K + 1 := by
  have h := roomS_same S b
  unfold submitS
  split
  · split
    · split
      · show (roomS S b).K + 1 ≤ _; rw [h.2.2.2.1]; omega
      · rw [h.2.2.2.1]; omega
    · omega
  · omega
theorem pollS_K (S : Cor) : (pollS S).K = S.K := by
  unfold pollS
  split
  · rfl
  · split
    · show (pollM S).K = S.K
      unfold pollM
      have h1 := thin_like (firstE S) (((turnS (restK S S.N) (firstE S)).q.L (firstE S)).length) (turnS (restK S S.N) (firstE S)) (lookC ((turnS (restK S S.N) (firstE S)).cod (firstE S)) (turnS (restK S S.N) (firstE S)).cf.iv (turnS (restK S S.N) (firstE S)).clk (hbOf (turnS (restK S S.N) (firstE S)) (firstE S))).1 (lookC ((turnS (restK S S.N) (firstE S)).cod (firstE S)) (turnS (restK S S.N) (firstE S)).cf.iv (turnS (restK S S.N) (firstE S)).clk (hbOf (turnS (restK S S.N) (firstE S)) (firstE S))).2
      exact h1.K
    · rfl
section
variable {w w' w'' : World} {p q gc gm l g b : Nat} {r r' : Option Nat} {O Oq Oq' O1 : Nat → Prop} {S S' : Cor}
theorem do_submit (now b c d : Int) (h : CoreL w p O S) (hn : I64_ now) (hK : S.K ≤ 800) (hb : I64_ b) (hc : I64_ c) (hd : I64_ d) (hr : refuseE (clkS S now) 0 b c d = 0) :
    Calls Tryz.prog 8 #[.pointer (some ⟨p, 0, none⟩), .int .i64 now, opv 0 b c d] w fun e w' => e = .returned (submitV (sweptS S now) b c d) ∧ CStep w p O (endS (submitS (sweptS S now) b c d)) w' := by
  obtain ⟨r0, r1, r2, r3, r4, hv⟩ := submitV_resv (sweptS S now) b c d
  have hk := (sweptS_K S now).1
  have hk2 := submitS_K (sweptS S now) b c d
  have hk3 := (settleAll_like 2 (dueL (clkS S now)) (clkS S now)).K
  rw [hv]
  refine co_do_submit (E := endS) (S3 := submitS (sweptS S now) b c d) now b c d h hn (by omega) hr (end_ok _ (by rw [hk3]; show S.K ≤ 1000; omega)) (fun wq Oq hq => ?_) (end_ok _ (by omega))
  have := co_submit 0 b c d hq (by show (sweptS S now).K ≤ 900; omega) hc hd hb
  rw [show submitV (endS (settleAll (clkS S now) 2 (dueL (clkS S now)))) b c d = resv r0 r1 r2 r3 r4 from hv] at this
  exact this
theorem do_poll (now b c d : Int) (h : CoreL w p O S) (hn : I64_ now) (hK : S.K ≤ 800) :
    Calls Tryz.prog 8 #[.pointer (some ⟨p, 0, none⟩), .int .i64 now, opv 1 b c d] w fun e w' => e = .returned (resv (pollR (sweptS S now)).1 (pollR (sweptS S now)).2.1 (pollR (sweptS S now)).2.2.1 (pollR (sweptS S now)).2.2.2.1 (pollR (sweptS S now)).2.2.2.2) ∧ CStep w p O (endS (pollS (sweptS S now))) w' := by
  have hk := (sweptS_K S now).1
  have hk2 := pollS_K (sweptS S now)
  have hk3 := (settleAll_like 2 (dueL (clkS S now)) (clkS S now)).K
  refine co_do_poll (E := endS) (S3 := pollS (sweptS S now)) now b c d h hn (by omega) (if_neg (fun e => by omega)) (end_ok _ (by rw [hk3]; show S.K ≤ 1000; omega)) (fun wq Oq hq => ?_) (end_ok _ (by omega))
  exact co_poll 1 b c d hq (by show (sweptS S now).K ≤ 1000; omega)
/-! ### The first two calls of a new core -/
noncomputable def A0 (b c d : Int) : Cor := admitS (newC Cf.dflt 4 64) b c d
theorem new_swept : sweptS (newC Cf.dflt 4 64) 0 = newC Cf.dflt 4 64 := by
  have e0 : clkS (newC Cf.dflt 4 64) 0 = newC Cf.dflt 4 64 := rfl
  have e1 : dueL (newC Cf.dflt 4 64) = [] := rfl
  unfold sweptS
  rw [e0, e1]
  exact endS_run rfl
theorem new_judge {b c d : Int} (hb : 0 ≤ b ∧ b < 4) (hc : 0 ≤ c ∧ c < 128) (hd : 0 < d) : judgeG 4 0 0 b c d = 0 := by
  obtain ⟨b0, b1⟩ := hb
  obtain ⟨c0, c1⟩ := hc
  unfold judgeG rightG edgeG
  simp [b0, b1, c0, c1]
  rw [if_neg (by omega), if_neg (by rw [sat_is _ (by omega) (by omega)]; omega)]
theorem first_submit {b c d : Int} (hb : 0 ≤ b ∧ b < 4) (hc : 0 ≤ c ∧ c < 128) (hd : 0 < d) (hd2 : I64_ d) (h : CoreL w p O (newC Cf.dflt 4 64)) :
    Calls Tryz.prog 8 #[.pointer (some ⟨p, 0, none⟩), .int .i64 0, opv 0 b c d] w fun e w' => e = .returned (resv 1 1 b c 0) ∧ CStep w p O (A0 b c d) w' := by
  have hj := new_judge hb hc hd
  have hr : refuseE (clkS (newC Cf.dflt 4 64) 0) 0 b c d = 0 := by
    show (if (0 : Int) = 0 ∧ (0 : Int) = 0 then (if judgeG 4 0 0 b c d = 4 then 0 else judgeG 4 0 0 b c d) else 0) = 0
    rw [if_pos ⟨rfl, rfl⟩, hj, if_neg (by omega)]
  have h1 := do_submit 0 b c d h ⟨by omega, by omega⟩ (by show (0 : Nat) ≤ 800; omega) ⟨by omega, by omega⟩ ⟨by omega, by omega⟩ hd2 hr
  have hrb : roomB (newC Cf.dflt 4 64) b = true := decide_eq_true (.inl (by show (0 : Nat) < 64; omega))
  have hrs : roomS (newC Cf.dflt 4 64) b = newC Cf.dflt 4 64 := if_pos (by show (0 : Nat) < 64; omega)
  have hv : submitV (newC Cf.dflt 4 64) b c d = resv 1 1 b c 0 := by
    unfold submitV
    rw [if_pos (show (newC Cf.dflt 4 64).ph = 0 from rfl), if_pos (show judgeG (newC Cf.dflt 4 64).cf.ti (newC Cf.dflt 4 64).pid.le (newC Cf.dflt 4 64).clk b c d = 0 from hj), if_pos hrb]
    rfl
  have hs : submitS (newC Cf.dflt 4 64) b c d = A0 b c d := by
    unfold submitS
    rw [if_pos (show (newC Cf.dflt 4 64).ph = 0 from rfl), if_pos (show judgeG (newC Cf.dflt 4 64).cf.ti (newC Cf.dflt 4 64).pid.le (newC Cf.dflt 4 64).clk b c d = 0 from hj), if_pos hrb, hrs]
    rfl
  rw [new_swept, hv, hs, endS_run (show (A0 b c d).ph = 0 from rfl)] at h1
  exact h1
theorem a0_L (t : Nat) (b c d : Int) : (A0 b c d).q.L t = if t = b.toNat then [0] else [] := by
  show pushL (fun _ => []) b.toNat 0 t = _
  unfold pushL
  split <;> simp_all
theorem a0_swept {b c d : Int} (hd : 0 < d) (hd2 : d ≤ 1000) : sweptS (A0 b c d) 0 = A0 b c d := by
  have hdg : deadG 1000 0 d = d := by unfold deadG; rw [sat_is _ (by omega) (by omega), if_neg (by omega)]
  have e0 : clkS (A0 b c d) 0 = A0 b c d := rfl
  have e1 : dueL (A0 b c d) = [] := by
    show ((dueE 0 (insE ⟨deadG 1000 0 d, 1, ((0 : Nat) : Int)⟩ [])).map fun e => e.m.toNat) = []
    rw [hdg]
    simp [insE, dueE]
    omega
  unfold sweptS
  rw [e0, e1]
  exact endS_run rfl
theorem a0_first : FirstIs (A0 0 0 9) 0 := ⟨by show (0 : Nat) < 4; omega, by rw [a0_L]; simp, fun r hr => by omega⟩
theorem pollR_first {S : Cor} (h2 : ¬ S.ph = 2) (hf : ∃ u, FirstIs S u) : (pollR S).1 = 7 ∧ (pollR S).2.1 = ((pollM S).q.R (canI (pollM S) (firstE S))).a := by
  unfold pollR
  rw [if_neg h2, if_pos hf]
  exact ⟨rfl, rfl⟩
theorem a0_poll : (pollR (A0 0 0 9)).1 = 7 ∧ (pollR (A0 0 0 9)).2.1 = 1 := by
  have hf : ∃ u, FirstIs (A0 0 0 9) u := ⟨0, a0_first⟩
  have he : firstE (A0 0 0 9) = 0 := (firstE_is hf).uni a0_first
  have hr := pollR_first (show ¬ (A0 0 0 9).ph = 2 from by show ¬ (0 : Int) = 2; omega) hf
  rw [he] at hr
  refine ⟨hr.1, hr.2.trans ?_⟩
  obtain ⟨X, hX⟩ : ∃ X, turnS (restK (A0 0 0 9) 4) 0 = X := ⟨_, rfl⟩
  have hXq : X.q = (A0 0 0 9).q := by rw [← hX]; rfl
  have hm : (pollM (A0 0 0 9)).q = (A0 0 0 9).q := by
    unfold pollM
    rw [he]
    show (thinS (turnS (restK (A0 0 0 9) 4) 0) 0).q = _
    rw [hX]
    have hb : hbOf X 0 = false := by
      unfold hbOf highB
      rw [hXq, a0_L]
      simp
    have hd : (lookC (X.cod 0) X.cf.iv X.clk false).2 = 0 := by
      rcases look_dec (X.cod 0) X.cf.iv X.clk false with e | ⟨e, _⟩
      · exact e
      · cases e
    show (thinZ X 0).1.q = _
    unfold thinZ
    rw [hb, hd, hXq, a0_L]
    show (thinGo 0 1 X _ 0).1.q = _
    unfold thinGo
    rw [if_pos rfl]
    exact hXq
  have hc : canI (pollM (A0 0 0 9)) 0 = 0 := by
    unfold canI
    rw [hm, a0_L]
    split <;> rfl
  show ((pollM (A0 0 0 9)).q.R (canI (pollM (A0 0 0 9)) 0)).a = 1
  rw [hc, hm]
  rfl
end
end Go.Proofs.YtgdblfghbnallaaGreat
/- A nil core. -/
namespace Go.Proofs.YtgdblfghbnallaaGreat
open Go.ChangeShapes Go.WideShapes Go.RowKit Kn
set_option linter.unusedVariables false
set_option linter.unusedSimpArgs false
section
variable {w w' : World}
theorem nil_clock (w : World) : Calls Tryz.prog 11 #[.pointer none] w fun e w' => e = .returned (.int .i64 0) ∧ w = w' := by
  go_enter Tryz.func11, Tryz.ntmps11
  go_wp2
  go_ret
  exact ⟨rfl, rfl⟩
theorem nil_phase (w : World) : Calls Tryz.prog 10 #[.pointer none] w fun e w' => e = .returned (.int .u8 0) ∧ w = w' := by
  go_enter Tryz.func10, Tryz.ntmps10
  go_wp2
  go_ret
  exact ⟨rfl, rfl⟩
theorem nil_ticket (w : World) : Calls Tryz.prog 13 #[.pointer none] w fun e w' => e = .returned (.int .u64 0) ∧ w = w' := by
  go_enter Tryz.func13, Tryz.ntmps13
  go_wp2
  go_ret
  exact ⟨rfl, rfl⟩
theorem nil_log (w : World) : Calls Tryz.prog 18 #[.pointer none] w fun e w' => e = .returned (.pointer none) ∧ w = w' := by
  go_enter Tryz.func18, Tryz.ntmps18
  go_wp2
  go_ret
  exact ⟨rfl, rfl⟩
set_option maxRecDepth 100000 in
theorem nil_pid (w : World) : Calls Tryz.prog 17 #[.pointer none] w fun e w' => e = .returned (.agg #[.int .i64 0, .int .i64 0, .int .i64 0]) ∧ Below w.heap.size w w' := by
  go_enter Tryz.func17, Tryz.ntmps17
  go_wp2
  refine bodyPost_ret (v := .agg #[.int .i64 0, .int .i64 0, .int .i64 0]) (by simp [results, Tryz.results17, go_sem]) rfl ⟨rfl, ?_⟩
  repeat (first | with_reducible exact Below.refl _ _ | refine Below.setCell ?_ (by simp) _ | refine Below.alloc ?_ (by simp) _)
set_option maxRecDepth 100000 in
theorem nil_level (w : World) : Calls Tryz.prog 12 #[.pointer none] w fun e w' => e = .returned (.int .i64 0) ∧ Below w.heap.size w w' := by
  go_enter Tryz.func12, Tryz.ntmps12
  have hfl := fun W => field_le 0 0 0 W
  go_wp2_with (go_at_call 17; refine (nil_pid _).mono ?_; rintro e w' ⟨he, hb⟩; subst he; have HB := Lib.hid hb; clear hb)
  go_ret
  exact ⟨rfl, HB.out⟩
set_option maxRecDepth 100000 in
theorem nil_queue (w : World) : Calls Tryz.prog 14 #[.pointer none] w fun e w' => e = .returned (.slice none 0 0) ∧ w = w' := by
  go_enter Tryz.func14, Tryz.ntmps14
  go_wp2
  go_ret
  exact ⟨rfl, rfl⟩
set_option maxRecDepth 100000 in
theorem nil_do (now a b c d : Int) (w : World) : Calls Tryz.prog 8 #[.pointer none, .int .i64 now, opv a b c d] w fun e w' => e = .returned (resv 0 0 0 0 0) ∧ Below w.heap.size w w' := by
  unfold opv resv
  go_enter Tryz.func8, Tryz.ntmps8
  go_wp2
  refine bodyPost_ret (v := .agg #[.int .u8 0, .int .u64 0, .int .i64 0, .int .i64 0, .int .i64 0]) (by simp [results, Tryz.results8, go_sem]) rfl ⟨rfl, ?_⟩
  repeat (first | with_reducible exact Below.refl _ _ | refine Below.setCell ?_ (by simp) _ | refine Below.alloc ?_ (by simp) _)
end
end Go.Proofs.YtgdblfghbnallaaGreat
