/- Texts of this claim, one behind the other: Crk Ou8 Cra Crc Ost16. -/
import Derived.ChangeArms
import Derived.Test.YtcffeokbipjaoaaGreatMtap
import Derived.Test.YtcffeokbipjaoaaGreatChecked
import Derived.Test.YtcffeokbipjaoaaGreatProg
import Derived.Test.YtcffeokbipjaoaaGreatMtaf
import Derived.Test.YtcffeokbipjaoaaGreatMtby
import Derived.Test.YtcffeokbipjaoaaGreatMtbz
namespace Go.Proofs.YtcffeokbipjaoaaGreat
open Go.RowKit Go.ChangeShapes Go.WideShapes Go.Deep
set_option linter.unusedVariables false
structure Ca where
 la : Int
 k : Int
 b : Int
 c : Int
 d : Int
def caRow (q : Ca) : List Value := [.int .i64 q.la, .int .u8 q.k, .int .i64 q.b, .int .i64 q.c, .int .i64 q.d]
structure Ca.ok (q : Ca) : Prop where
 la : -9223372036854775808 ≤ q.la ∧ q.la ≤ 9223372036854775807
 k : 0 ≤ q.k ∧ q.k ≤ 255
 b : -9223372036854775808 ≤ q.b ∧ q.b ≤ 9223372036854775807
 c : -9223372036854775808 ≤ q.c ∧ q.c ≤ 9223372036854775807
 d : -9223372036854775808 ≤ q.d ∧ q.d ≤ 9223372036854775807
section
variable {H : Type} {enc : TypeId × Value → H} {w : World}
theorem ca_cells : Tryz.prog.cellsOf 35 = 5 := by kernel_rfl
theorem cut1_ {cs : List Value} {k : Nat} {v : Value} (h : (cs.drop k).take 1 = [v]) : cs[k]? = some v := by
 have : ((cs.drop k).take 1)[0]? = some v := by rw [h]; rfl
 rw [List.getElem?_take_of_lt (by omega), List.getElem?_drop] at this
 simpa using this
theorem ca_row {spare : Nat → Bool} {held : Bool} {fuel : Nat} {cs : List Value} {x : DataW H × List MemPlace} (h : DataW.trod enc Tryz.prog w 0 spare held fuel 35 cs = some x) :
   ∃ q : Ca, q.ok ∧ ∀ k, k < 5 → cs[k]? = (caRow q)[k]? := by
 have k1 : Tryz.prog.cellsOf 2 = 1 := by kernel_rfl
 have k2 : Tryz.prog.cellsOf 3 = 1 := by kernel_rfl
 have k3 : Tryz.prog.cellsOf 5 = 1 := by kernel_rfl
 have k4 : Tryz.prog.cellsOf 33 = 4 := by kernel_rfl
 obtain ⟨xs, n, _, rfl, hl, hlen, hf⟩ := DataW.trod_struct Tryz.underlying35 h
 match xs, hlen with
 | [y0, y1], _ =>
   obtain ⟨la, ea, -, wa⟩ := DataW.trod_int Tryz.underlying2 (hf 0 _ rfl)
   obtain ⟨zs, n2, _, _, hl2, hlen2, hg⟩ := DataW.trod_struct Tryz.underlying33 (hf 1 _ rfl)
   have c0 : cs[0]? = some (.int .i64 la) := by
     have z : (cs.drop 0).take (Tryz.prog.cellsOf 2) = [.int .i64 la] := ea
     rw [k1] at z; exact cut1_ z
   match zs, hlen2 with
   | [z0, z1, z2, z3], _ =>
     obtain ⟨kk, e0, -, w0⟩ := DataW.trod_int Tryz.underlying5 (hg 0 _ rfl)
     obtain ⟨b, e1, -, w1⟩ := DataW.trod_int Tryz.underlying3 (hg 1 _ rfl)
     obtain ⟨c, e2, -, w2⟩ := DataW.trod_int Tryz.underlying3 (hg 2 _ rfl)
     obtain ⟨d, e3, -, w3⟩ := DataW.trod_int Tryz.underlying2 (hg 3 _ rfl)
     have inn : ∀ (j : Nat) (v : Value), j < 4 → ((cs.drop 1).take 4)[j]? = some v → cs[1 + j]? = some v := fun j v hj he => by
       rw [List.getElem?_take_of_lt hj, List.getElem?_drop] at he
       exact he
     have f0 : ((cs.drop 1).take 4)[0]? = some (.int .u8 kk) := by
       have z : (((cs.drop 1).take (Tryz.prog.cellsOf 33)).drop 0).take (Tryz.prog.cellsOf 5) = [.int .u8 kk] := e0
       rw [k3, k4] at z; exact cut1_ z
     have f1 : ((cs.drop 1).take 4)[1]? = some (.int .i64 b) := by
       have z : (((cs.drop 1).take (Tryz.prog.cellsOf 33)).drop 1).take (Tryz.prog.cellsOf 3) = [.int .i64 b] := e1
       rw [k2, k4] at z; exact cut1_ z
     have f2 : ((cs.drop 1).take 4)[2]? = some (.int .i64 c) := by
       have z : (((cs.drop 1).take (Tryz.prog.cellsOf 33)).drop 2).take (Tryz.prog.cellsOf 3) = [.int .i64 c] := e2
       rw [k2, k4] at z; exact cut1_ z
     have f3 : ((cs.drop 1).take 4)[3]? = some (.int .i64 d) := by
       have z : (((cs.drop 1).take (Tryz.prog.cellsOf 33)).drop 3).take (Tryz.prog.cellsOf 2) = [.int .i64 d] := e3
       rw [k1, k4] at z; exact cut1_ z
     refine ⟨⟨la, kk, b, c, d⟩, ⟨wf_i64 wa, wf_u8 w0, wf_i64 w1, wf_i64 w2, wf_i64 w3⟩, fun k hk => ?_⟩
     match k, hk with
     | 0, _ => exact c0
     | 1, _ => exact inn 0 _ (by omega) f0
     | 2, _ => exact inn 1 _ (by omega) f1
     | 3, _ => exact inn 2 _ (by omega) f2
     | 4, _ => exact inn 3 _ (by omega) f3
theorem open_calls {fuel : Nat} {A : Option Addr} {len cap : Nat} {x : DataW H × List MemPlace} (h : DataW.trod enc Tryz.prog w 0 (fun _ => true) true fuel 25 [.slice A len cap] = some x) :
   len ≤ cap ∧ cap ≤ maxLen ∧ ∃ Q : Nat → Ca, SeqAt w w.heap.size A len 5 (fun i => caRow (Q i)) ∧ ∀ i, i < len → (Q i).ok := by
 obtain ⟨h1, h2, row, hs, hr⟩ := open_seq Tryz.underlying25 ca_cells (by omega) h
 have hq : ∀ i, ∃ q : Ca, i < len → q.ok ∧ ∀ k, k < 5 → (row i)[k]? = (caRow q)[k]? := by
   intro i
   by_cases hi : i < len
   · obtain ⟨_, n, y, hy⟩ := hr i hi
     obtain ⟨q, hq⟩ := ca_row hy
     exact ⟨q, fun _ => hq⟩
   · exact ⟨⟨0, 0, 0, 0, 0⟩, fun h => absurd h hi⟩
 refine ⟨h1, h2, fun i => (hq i).choose, fun h0 => ?_, fun i hi => ((hq i).choose_spec hi).1⟩
 obtain ⟨b, off, e, hb, hc⟩ := hs h0
 exact ⟨b, off, e, hb, fun i hi k hk => (hc i hi k hk).trans (((hq i).choose_spec hi).2 k hk)⟩
end
end Go.Proofs.YtcffeokbipjaoaaGreat
namespace Go.Proofs.YtcffeokbipjaoaaGreat
open Go.ChangeShapes Go.WideShapes Go.RowKit Kn
set_option linter.unusedVariables false
set_option linter.unusedSimpArgs false
def Cf.zero : Cf := ⟨0, 0, 0, 0, 0, 0, 0, 0, 0, 0, 0, 0, 0, 0, 0, 0⟩
section
variable {w w' w'' : World} {p q gc gm l g b : Nat} {r r' : Option Nat} {O Oq Oq' O1 : Nat → Prop} {S S' : Cor}
end
end Go.Proofs.YtcffeokbipjaoaaGreat
namespace Go.Proofs.YtcffeokbipjaoaaGreat
open Go.ChangeShapes Go.WideShapes Go.RowKit Kn
set_option linter.unusedVariables false
set_option linter.unusedSimpArgs false
theorem valid_bounds {c : Cf} (h : validE c = 0) : (1 ≤ c.ti ∧ c.ti ≤ 8) ∧ (1 ≤ c.ro ∧ c.ro ≤ 1024) := by
 unfold validE at h
 split at h
 · rename_i hv
   unfold validB sizedB withinB at hv
   simp only [Bool.and_eq_true, decide_eq_true_eq] at hv
   exact ⟨hv.1.1.1.1.1.1.1, hv.1.1.1.1.1.1.2⟩
 · omega
theorem validE_or (c : Cf) : validE c = 0 ∨ validE c = 1 := by unfold validE; split; exact .inl rfl; exact .inr rfl
set_option maxRecDepth 100000 in
set_option maxHeartbeats 8000000 in
theorem cnew_no (c : Cf) (w : World) (hv : validE c = 1) :
   Calls Tryz.prog 12 #[c.v] w fun e w' => e = .returned (.tuple #[.pointer none, .int .i64 1]) ∧ Below w.heap.size w w' := by
 have hva := fun wq => valid_any c wq
 rw [hv] at hva
 have HVA := Lib.hid hva
 clear hva hv
 obtain ⟨ti, ro, ta, iv, hx, lo, dw, ho, sp, kp, ki, kd, lm, sx, th, rg⟩ := c
 go_enter Tryz.func12, Tryz.ntmps12
 go_upto_region 1 with fail
 refine wp_worldx (fun wx => Blk wx w.heap.size 24 #[.int .i64 ti, .int .i64 ro, .int .i64 ta, .int .i64 iv, .int .i64 hx, .int .i64 lo, .int .i64 dw, .int .i64 ho, .int .i64 sp, .int .i64 kp, .int .i64 ki, .int .i64 kd, .int .i64 lm, .int .i64 sx, .int .i64 th, .int .i64 rg] ∧ Below w.heap.size w wx) ⟨Blk.made _ _ _, (Below.refl _ _).alloc (Nat.le_refl _) _⟩ ?_
 obtain ⟨g, hg⟩ : ∃ g, w.heap.size = g := ⟨_, rfl⟩
 rw [hg]
 rintro w1 ⟨h1, h2⟩
 have k0 : w1.cell? ⟨g, 0, none⟩ = some (.int .i64 ti) := h1.val (i := 0) rfl
 have k1 : w1.cell? ⟨g, 1, none⟩ = some (.int .i64 ro) := h1.val (i := 1) rfl
 have k2 : w1.cell? ⟨g, 2, none⟩ = some (.int .i64 ta) := h1.val (i := 2) rfl
 have k3 : w1.cell? ⟨g, 3, none⟩ = some (.int .i64 iv) := h1.val (i := 3) rfl
 have k4 : w1.cell? ⟨g, 4, none⟩ = some (.int .i64 hx) := h1.val (i := 4) rfl
 have k5 : w1.cell? ⟨g, 5, none⟩ = some (.int .i64 lo) := h1.val (i := 5) rfl
 have k6 : w1.cell? ⟨g, 6, none⟩ = some (.int .i64 dw) := h1.val (i := 6) rfl
 have k7 : w1.cell? ⟨g, 7, none⟩ = some (.int .i64 ho) := h1.val (i := 7) rfl
 have k8 : w1.cell? ⟨g, 8, none⟩ = some (.int .i64 sp) := h1.val (i := 8) rfl
 have k9 : w1.cell? ⟨g, 9, none⟩ = some (.int .i64 kp) := h1.val (i := 9) rfl
 have k10 : w1.cell? ⟨g, 10, none⟩ = some (.int .i64 ki) := h1.val (i := 10) rfl
 have k11 : w1.cell? ⟨g, 11, none⟩ = some (.int .i64 kd) := h1.val (i := 11) rfl
 have k12 : w1.cell? ⟨g, 12, none⟩ = some (.int .i64 lm) := h1.val (i := 12) rfl
 have k13 : w1.cell? ⟨g, 13, none⟩ = some (.int .i64 sx) := h1.val (i := 13) rfl
 have k14 : w1.cell? ⟨g, 14, none⟩ = some (.int .i64 th) := h1.val (i := 14) rfl
 have k15 : w1.cell? ⟨g, 15, none⟩ = some (.int .i64 rg) := h1.val (i := 15) rfl
 have HB := Lib.hid (show Below w.heap.size w w1 from by rw [hg]; exact h2)
 clear h1 h2 hg
 go_wp2_with fail
 refine (HVA.out w1).mono ?_
 rintro e w2 ⟨rfl, hb⟩
 have HB2 := Lib.hid (HB.out.trans (hb.mono HB.out.size))
 clear hb HB k0 k1 k2 k3 k4 k5 k6 k7 k8 k9 k10 k11 k12 k13 k14 k15
 go_wp2
 go_ret2
 exact ⟨rfl, HB2.out⟩
theorem cnew_any (c : Cf) (w : World) (hf : c.fits) :
   Calls Tryz.prog 12 #[c.v] w fun e w' => ∃ P, e = .returned (.tuple #[.pointer P, .int .i64 (validE c)]) ∧ ((P = none ∧ validE c = 1) ∨ (validE c = 0 ∧ ∃ (p : Nat) (O : Nat → Prop) (N n : Nat), P = some ⟨p, 0, none⟩ ∧ CoreL w' p O (newC c N n) ∧ (∀ k, O k → w.heap.size ≤ k))) ∧ Below w.heap.size w w' := by
 rcases validE_or c with h | h
 · obtain ⟨⟨a0, a1⟩, ⟨b0, b1⟩⟩ := valid_bounds h
   refine (cnew_yes c c.ti.toNat c.ro.toNat w h hf (by omega) (by omega) (by omega) (by omega) (by omega) (by omega)).mono ?_
   rintro e w' ⟨p, O, rfl, h1, h2, h3⟩
   exact ⟨_, by rw [h], .inr ⟨h, p, O, _, _, rfl, h1, h2⟩, h3⟩
 · refine (cnew_no c w h).mono ?_
   rintro e w' ⟨rfl, h3⟩
   exact ⟨_, by rw [h], .inl ⟨rfl, h⟩, h3⟩
theorem dflt_fits : Cf.dflt.fits := by
 constructor <;> (unfold I64_ Cf.dflt; decide)
theorem dflt_valid : validE Cf.dflt = 0 := by decide +kernel
theorem cnew_dflt (w : World) :
   Calls Tryz.prog 12 #[Cf.dflt.v] w fun e w' => ∃ (p : Nat) (O : Nat → Prop), e = .returned (.tuple #[.pointer (some ⟨p, 0, none⟩), .int .i64 0]) ∧ CoreL w' p O (newC Cf.dflt 4 64) ∧ (∀ k, O k → w.heap.size ≤ k) ∧ Below w.heap.size w w' :=
 cnew_yes Cf.dflt 4 64 w dflt_valid dflt_fits rfl rfl (by omega) (by omega) (by omega) (by omega)
set_option maxRecDepth 100000 in
set_option maxHeartbeats 8000000 in
theorem awake16 (w : World) : Calls Tryz.prog 11 #[] w fun e w' => e = .returned (.bool true) ∧ Below w.heap.size w w' := by
 go_enter Tryz.func11, Tryz.ntmps11
 go_wp2_with fail
 refine (cdef_any _).mono ?_
 rintro e w1 ⟨rfl, hb1⟩
 have HB1 := Lib.hid hb1
 clear hb1
 go_wp2_with fail
 refine (cnew_dflt _).mono ?_
 rintro e w2 ⟨p, O, rfl, h2, hO, hb2⟩
 have HL := Lib.hid h2
 have HO := Lib.hid (fun k hk => show w.heap.size ≤ k from by have := hO k hk; have := HB1.out.size; omega)
 have HB2 := Lib.hid (HB1.out.trans (hb2.mono HB1.out.size))
 clear h2 hO hb2 HB1
 go_wp2_with fail
 refine (first_submit (b := 0) (c := 0) (d := 9) ⟨by omega, by omega⟩ ⟨by omega, by omega⟩ (by omega) ⟨by omega, by omega⟩ HL.out).mono ?_
 rintro e w3 ⟨hv, hst⟩
 replace hv : e = .returned (.agg #[.int .u8 1, .int .u64 1, .int .i64 0, .int .i64 0, .int .i64 0]) := hv
 subst hv
 obtain ⟨O3, hL3, hO3, hk3⟩ := hst
 have hb3 : Below w.heap.size w w3 := HB2.out.trans (hk3.below (fun k hk => HO.out k hk) HB2.out.size)
 go_upto_region 5 with fail
 refine wp_worldx (fun wx => CoreL wx p O3 (A0 0 0 9) ∧ Blk wx w3.heap.size resT #[.int .u8 1, .int .u64 1, .int .i64 0, .int .i64 0, .int .i64 0] ∧ Below w.heap.size w wx) ⟨hL3.below ((Below.refl _ _).alloc (Nat.le_refl _) _), Blk.made _ _ _, hb3.alloc hb3.size _⟩ ?_
 have hn3 : ¬ O3 w3.heap.size := fun e => by have := hL3.lt e; omega
 have hO3' : ∀ k, O3 k → w.heap.size ≤ k := fun k hk => by rcases hO3 k hk with e | e; exact HO.out k e; have := HB2.out.size; omega
 obtain ⟨g3, hg3⟩ : ∃ g, w3.heap.size = g := ⟨_, rfl⟩
 rw [hg3] at hn3 ⊢
 have HN3 := Lib.hid hn3
 have HO3 := Lib.hid hO3'
 clear hL3 hO3 hk3 hb3 hg3 hn3 hO3' HL HO HB2
 rintro w4 ⟨h1, h2, h3⟩
 have HL := Lib.hid h1
 have HX := Lib.hid h2
 have HB := Lib.hid h3
 clear h1 h2 h3
 go_wp2_with fail
 have hsw := a0_swept (b := 0) (c := 0) (d := 9) (by omega) (by omega)
 refine (do_poll 0 0 0 0 HL.out ⟨by omega, by omega⟩ (by show (1 : Nat) ≤ 800; omega)).mono ?_
 rw [hsw, a0_poll.1, a0_poll.2]
 obtain ⟨⟨z0, z1, z2, z3, z4⟩, hz⟩ : ∃ z : Int × Int × Int × Int × Int, pollR (A0 0 0 9) = z := ⟨_, rfl⟩
 rw [hz]
 rintro e w5 ⟨hv, hst⟩
 replace hv : e = .returned (.agg #[.int .u8 7, .int .u64 1, .int .i64 z2, .int .i64 z3, .int .i64 z4]) := hv
 subst hv
 obtain ⟨O5, hL5, hO5, hk5⟩ := hst
 have hb5 : Below w.heap.size w w5 := HB.out.trans (hk5.below (fun k hk => HO3.out k hk) HB.out.size)
 have hx5 := HX.out.kept hk5 HN3.out
 clear hL5 hO5 hk5 HL HX HB hz hsw
 go_upto_region 6 with fail
 refine wp_worldx (fun wx => Blk wx g3 resT #[.int .u8 1, .int .u64 1, .int .i64 0, .int .i64 0, .int .i64 0] ∧ Blk wx w5.heap.size resT #[.int .u8 7, .int .u64 1, .int .i64 z2, .int .i64 z3, .int .i64 z4] ∧ Below w.heap.size w wx) ⟨hx5.alloc_ _, Blk.made _ _ _, hb5.alloc hb5.size _⟩ ?_
 obtain ⟨g5, hg5⟩ : ∃ g, w5.heap.size = g := ⟨_, rfl⟩
 rw [hg5]
 clear hx5 hb5 hg5
 rintro w6 ⟨h1, h2, h3⟩
 have a0 : w6.cell? ⟨g3, 0, none⟩ = some (.int .u8 1) := h1.val (i := 0) rfl
 have a1 : w6.cell? ⟨g3, 1, none⟩ = some (.int .u64 1) := h1.val (i := 1) rfl
 have b0 : w6.cell? ⟨g5, 0, none⟩ = some (.int .u8 7) := h2.val (i := 0) rfl
 have b1 : w6.cell? ⟨g5, 1, none⟩ = some (.int .u64 1) := h2.val (i := 1) rfl
 have HB := Lib.hid h3
 clear h1 h2 h3
 go_wp2
 go_ret
 exact ⟨rfl, HB.out⟩
end Go.Proofs.YtcffeokbipjaoaaGreat
namespace Go.Proofs.YtcffeokbipjaoaaGreat
open Go.RowKit Go.ChangeShapes Go.WideShapes Go.Deep
set_option linter.unusedVariables false
section
variable {H : Type} {enc : TypeId × Value → H} {P : Program} {w : World} {base : Nat} {spare : Nat → Bool} {held : Bool}
theorem open_16 {r : Reach} {b0 : Nat} {t : TypeId} {f0 f1 f2 f3 f4 f5 f6 f7 f8 f9 f10 f11 f12 f13 f14 f15 : Field} {v : Value} {d : DataW H} {p : List MemPlace} (hs : P.underlying t = some (.struct #[f0, f1, f2, f3, f4, f5, f6, f7, f8, f9, f10, f11, f12, f13, f14, f15])) (hone : oneCellFields P #[f0, f1, f2, f3, f4, f5, f6, f7, f8, f9, f10, f11, f12, f13, f14, f15] = true) (hC : P.cellsOf t = 16)
   (hv : Value.okWide P w r b0 t v) (h : DataW.Trod enc P w base spare held t v d p) :
   ∃ (v0 v1 v2 v3 v4 v5 v6 v7 v8 v9 v10 v11 v12 v13 v14 v15 : Value) (y0 y1 y2 y3 y4 y5 y6 y7 y8 y9 y10 y11 y12 y13 y14 y15 : DataW H × List MemPlace) (n : Nat), v = .agg #[v0, v1, v2, v3, v4, v5, v6, v7, v8, v9, v10, v11, v12, v13, v14, v15] ∧
     DataW.trod enc P w base spare held n f0.type [v0] = some y0 ∧ DataW.trod enc P w base spare held n f1.type [v1] = some y1 ∧ DataW.trod enc P w base spare held n f2.type [v2] = some y2 ∧ DataW.trod enc P w base spare held n f3.type [v3] = some y3 ∧ DataW.trod enc P w base spare held n f4.type [v4] = some y4 ∧ DataW.trod enc P w base spare held n f5.type [v5] = some y5 ∧ DataW.trod enc P w base spare held n f6.type [v6] = some y6 ∧ DataW.trod enc P w base spare held n f7.type [v7] = some y7 ∧ DataW.trod enc P w base spare held n f8.type [v8] = some y8 ∧ DataW.trod enc P w base spare held n f9.type [v9] = some y9 ∧ DataW.trod enc P w base spare held n f10.type [v10] = some y10 ∧ DataW.trod enc P w base spare held n f11.type [v11] = some y11 ∧ DataW.trod enc P w base spare held n f12.type [v12] = some y12 ∧ DataW.trod enc P w base spare held n f13.type [v13] = some y13 ∧ DataW.trod enc P w base spare held n f14.type [v14] = some y14 ∧ DataW.trod enc P w base spare held n f15.type [v15] = some y15 := by
 obtain ⟨cs, rfl, hsz⟩ := okWide_struct hs hv
 obtain ⟨l⟩ := cs
 match l, hsz.trans hC with
 | [c0, c1, c2, c3, c4, c5, c6, c7, c8, c9, c10, c11, c12, c13, c14, c15], _ =>
   obtain ⟨fuel, hf⟩ := h
   obtain ⟨xs, n, _, hx, _, hlen, hg⟩ := DataW.trod_struct hs hf
   obtain ⟨o0, k0⟩ := Go.Deep.hone_of hone 0 f0 rfl
   obtain ⟨o1, k1⟩ := Go.Deep.hone_of hone 1 f1 rfl
   obtain ⟨o2, k2⟩ := Go.Deep.hone_of hone 2 f2 rfl
   obtain ⟨o3, k3⟩ := Go.Deep.hone_of hone 3 f3 rfl
   obtain ⟨o4, k4⟩ := Go.Deep.hone_of hone 4 f4 rfl
   obtain ⟨o5, k5⟩ := Go.Deep.hone_of hone 5 f5 rfl
   obtain ⟨o6, k6⟩ := Go.Deep.hone_of hone 6 f6 rfl
   obtain ⟨o7, k7⟩ := Go.Deep.hone_of hone 7 f7 rfl
   obtain ⟨o8, k8⟩ := Go.Deep.hone_of hone 8 f8 rfl
   obtain ⟨o9, k9⟩ := Go.Deep.hone_of hone 9 f9 rfl
   obtain ⟨o10, k10⟩ := Go.Deep.hone_of hone 10 f10 rfl
   obtain ⟨o11, k11⟩ := Go.Deep.hone_of hone 11 f11 rfl
   obtain ⟨o12, k12⟩ := Go.Deep.hone_of hone 12 f12 rfl
   obtain ⟨o13, k13⟩ := Go.Deep.hone_of hone 13 f13 rfl
   obtain ⟨o14, k14⟩ := Go.Deep.hone_of hone 14 f14 rfl
   obtain ⟨o15, k15⟩ := Go.Deep.hone_of hone 15 f15 rfl
   match xs, hlen with
   | [y0, y1, y2, y3, y4, y5, y6, y7, y8, y9, y10, y11, y12, y13, y14, y15], _ =>
     exact ⟨c0, c1, c2, c3, c4, c5, c6, c7, c8, c9, c10, c11, c12, c13, c14, c15, y0, y1, y2, y3, y4, y5, y6, y7, y8, y9, y10, y11, y12, y13, y14, y15, n, rfl, by simpa [Value.cells, o0, k0] using hg 0 f0 rfl, by simpa [Value.cells, o1, k1] using hg 1 f1 rfl, by simpa [Value.cells, o2, k2] using hg 2 f2 rfl, by simpa [Value.cells, o3, k3] using hg 3 f3 rfl, by simpa [Value.cells, o4, k4] using hg 4 f4 rfl, by simpa [Value.cells, o5, k5] using hg 5 f5 rfl, by simpa [Value.cells, o6, k6] using hg 6 f6 rfl, by simpa [Value.cells, o7, k7] using hg 7 f7 rfl, by simpa [Value.cells, o8, k8] using hg 8 f8 rfl, by simpa [Value.cells, o9, k9] using hg 9 f9 rfl, by simpa [Value.cells, o10, k10] using hg 10 f10 rfl, by simpa [Value.cells, o11, k11] using hg 11 f11 rfl, by simpa [Value.cells, o12, k12] using hg 12 f12 rfl, by simpa [Value.cells, o13, k13] using hg 13 f13 rfl, by simpa [Value.cells, o14, k14] using hg 14 f14 rfl, by simpa [Value.cells, o15, k15] using hg 15 f15 rfl⟩
end
end Go.Proofs.YtcffeokbipjaoaaGreat
