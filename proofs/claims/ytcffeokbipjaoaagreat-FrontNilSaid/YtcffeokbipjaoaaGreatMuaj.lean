/- Texts of this claim, one behind the other: Hpo Srtl Shelf Hpq Hpr. -/
import Derived.Shelf.SlSortCmp.WholeK
import Derived.Test.YtcffeokbipjaoaaGreatProg
import Derived.Shelf.Spec.BitsCarry
import Derived.Shelf.Small.Bits
import Derived.Shelf.Strconv.Itoa0
import Derived.Shelf.Bits.Mul64
import Derived.WalkMore
import Derived.Test.YtcffeokbipjaoaaGreatMuae
import Derived.Test.YtcffeokbipjaoaaGreatMuai
namespace Go.Proofs.YtcffeokbipjaoaaGreat
open Go.ChangeShapes Go.WideShapes Go.RowKit
set_option linter.unusedVariables false
set_option linter.unusedSimpArgs false
def flatE (E : Nat → En) (l : List Nat) : List Value := l.flatMap fun j => entRow (E j)
theorem flatE_append (E : Nat → En) (l l' : List Nat) : flatE E (l ++ l') = flatE E l ++ flatE E l' := by unfold flatE; simp
theorem flatE_one (E : Nat → En) (j : Nat) : flatE E [j] = entRow (E j) := by unfold flatE; simp
section
variable {w w' : World} {p b n m c B : Nat} {A : Option Addr} {E : Nat → En} {P : Nat → Int} {F : Nat → Option (Int × Int)}
structure Under (B p b : Nat) (A : Option Addr) : Prop where
 p : p < B
 b : b < B
 a : ∀ x, A = some x → x.block < B
theorem HeapAt.kept2 {own : Nat → Prop} (h : HeapAt w p b n A m c E P) (hk : Kept own w w') (hp : ¬ own p) (hb : ¬ own b) (ha : ∀ x, A = some x → ¬ own x.block) : HeapAt w' p b n A m c E P := by
 obtain ⟨hd, h1, h2, h3, ht, ⟨ps, bp, pz, pc⟩⟩ := h
 refine ⟨hd.kept hk hp, h1, h2, h3, fun h0 => ?_, ⟨ps, bp.kept hk hb, pz, pc⟩⟩
 obtain ⟨a, cs, e, ba, az, ac⟩ := ht h0
 exact ⟨a, cs, e, ba.kept hk (ha _ e), az, ac⟩
theorem HeapIn.kept2 {own : Nat → Prop} (h : HeapIn w p b n A m c E F) (hk : Kept own w w') (hp : ¬ own p) (hb : ¬ own b) (ha : ∀ x, A = some x → ¬ own x.block) : HeapIn w' p b n A m c E F := by
 obtain ⟨P, h1, h2⟩ := h.at_
 exact ⟨⟨P, h1.kept2 hk hp hb ha, h2⟩, h.nil_, h.cmax⟩
theorem HeapIn.under (h : HeapIn w p b n A m c E F) (hu : Under B p b A) (hb : Below B w w') : HeapIn w' p b n A m c E F :=
 h.kept2 (own := fun g => B ≤ g) ⟨hb.os, hb.tape, hb.output, hb.size, fun k hk hn => hb.block k (by omega)⟩ (Nat.not_le.2 hu.p) (Nat.not_le.2 hu.b) fun x hx => Nat.not_le.2 (hu.a x hx)
set_option maxRecDepth 20000 in
set_option maxHeartbeats 4000000 in
theorem hdue (key : Int) (hu : Under B p b A) : ∀ (K q : Nat) (w : World) (v : Value) (len : Nat) (xs : List Value), m ≤ K + q → q ≤ 4096 → len + (dueI m E key K q).length ≤ 100000 → B ≤ w.heap.size → HeapIn w p b n A m c E F → w.ownsRow B 270 3 v len xs →
   Calls Tryz.prog 159 #[.pointer (some ⟨p, 0, none⟩), .int .i64 (q : Int), .int .i64 key, v] w fun e w' => ∃ v', e = .returned v' ∧ w'.ownsRow B 270 3 v' (len + (dueI m E key K q).length) (xs ++ flatE E (dueI m E key K q)) ∧ Below B w w' := by
 intro K
 induction K with
 | zero =>
   intro q w v len xs hm hq hl hB h hown
   obtain ⟨P, h1⟩ := hlen _ h
   have e1 : (m : Int) ≤ (q : Int) := by omega
   have HA := Lib.hid h1
   have HO := Lib.hid hown
   obtain ⟨Av, cv, rfl⟩ := own_form hown
   clear h1 h hown
   go_enter Tryz.func159, Tryz.ntmps159
   go_wp2_with fail
   refine (hlen_any _ HA.out).mono ?_
   rintro e w1 ⟨rfl, rfl⟩
   go_wp2_with fail
   go_ret
   exact ⟨_, rfl, by simpa [dueI, flatE] using HO.out, Below.refl _ _⟩
 | succ K ih =>
   intro q w v len xs hm hq hl hB h hown
   obtain ⟨P, h1⟩ := hlen _ h
   have hmn := h.mn
   have hn0 := h.n0
   obtain ⟨Av, cv, rfl⟩ := own_form hown
   by_cases hqm : q < m
   · have e0 : ¬ (m : Int) ≤ (q : Int) := by omega
     have e1 : decide ((m : Int) ≤ (q : Int)) = false := decide_eq_false e0
     have e2 : (q : Int) < (m : Int) := by omega
     have e3 : (0 : Int) ≤ (q : Int) := by omega
     have q0 := h1.p0
     obtain ⟨a, rfl, hc, hf⟩ := h1.at_ (by omega)
     obtain ⟨c0, c1, c2⟩ := hc q hqm
     have c0' := c0
     obtain ⟨⟨k, t, i⟩, hE⟩ : ∃ e, E q = e := ⟨_, rfl⟩
     rw [hE] at c0 c1 c2
     have za := hf (q * 3)
     have HA := Lib.hid h1
     have HH := Lib.hid h
     have HO := Lib.hid hown
     have HE := Lib.hid hE
     clear h1 h hown hc hf c0' hE
     by_cases hk : k ≤ key
     · have hD : dueI m E key (K + 1) q = q :: (dueI m E key K (2 * q + 1) ++ dueI m E key K (2 * q + 2)) := by
         have : (E q).k ≤ key := by rw [HE.out]; exact hk
         show (if q < m ∧ (E q).k ≤ key then _ else _) = _
         rw [if_pos ⟨hqm, this⟩]
       rw [hD] at hl ⊢
       obtain ⟨D1, h1⟩ : ∃ D, dueI m E key K (2 * q + 1) = D := ⟨_, rfl⟩
       obtain ⟨D2, h2⟩ : ∃ D, dueI m E key K (2 * q + 2) = D := ⟨_, rfl⟩
       rw [h1, h2] at hl ⊢
       have H1 := Lib.hid h1
       have H2 := Lib.hid h2
       simp only [List.length_cons, List.length_append] at hl
       have HIH := Lib.hid ih
       clear hD h1 h2 ih
       have k1 : ¬ key < k := by omega
       have k2 : decide (key < k) = false := decide_eq_false k1
       obtain ⟨i0', hi0, hzz⟩ := Option.map_eq_some_iff.1 hinfe
       simp only [Prod.mk.injEq] at hzz
       obtain ⟨hz0, hz1, hz2⟩ := hzz
       have HZ := Lib.hid (And.intro hi0 (And.intro hz0 (And.intro hz1 hz2)))
       clear hi0 hz0 hz1 hz2
       go_enter Tryz.func159, Tryz.ntmps159
       go_wp2_with fail
       refine (hlen_any _ HA.out).mono ?_
       rintro e w1 ⟨rfl, rfl⟩
       go_upto_region 4 with (at_builtin; refine wpList_append_own _ rfl (.tmp 28) (.tmp 36) 224 rfl B 270 i0' (.agg #[.int .i64 0, .int .u64 0, .int .i64 0]) 3 24 Tryz.underlying224 HZ.out.1 HZ.out.2.1 HZ.out.2.2.1 HZ.out.2.2.2 rfl (by decide) (.slice Av len cv) len xs rfl (HO.out.alloc _) ⟨w.heap.size, 0, none⟩ 1 1 [.int .i64 k, .int .u64 t, .int .i64 i] rfl rfl (by intro j u hj; match j, hj with | 0, hj => simp at hj; subst hj; exact (Blk.new_ (by simp)).val rfl | 1, hj => simp at hj; subst hj; exact (Blk.new_ (by simp)).val rfl | 2, hj => simp at hj; subst hj; exact (Blk.new_ (by simp)).val rfl) (by intro u hu; simp at hu; rcases hu with rfl | rfl | rfl <;> rfl) (by unfold maxLen; omega) (by omega) (by simp; omega) ?_; intro v7 w7 hown7 hg7 _; have HO7 := Lib.hid hown7; have HG7 := Lib.hid hg7; clear hown7 hg7)
       have hb7 : Below B w w7 := ((Below.refl _ _).alloc hB _).grown HG7.out (by simp; omega) (fun g' e => own_base (HO.out.alloc (.cells #[.int .i64 k, .int .u64 t, .int .i64 i] 270)) e)
       obtain ⟨A7, c7, rfl⟩ := own_form HO7.out
       refine wp_worldh (fun wx => wx.ownsRow B 270 3 (.slice A7 (len + 1) c7) (len + 1) (xs ++ flatE E [q]) ∧ Below B w wx) ⟨by rw [flatE_one, HE.out]; exact HO7.out, hb7⟩ ?_
       clear HG7 HO7 hb7 q0 c0 c1 c2 za
       rintro w8 ⟨o8, b8⟩
       have O8 := Lib.hid o8
       have B8 := Lib.hid b8
       clear o8 b8
       go_wp2_with fail
       refine (hbelow q (by omega) _).mono ?_
       rintro e w9 ⟨rfl, hb9⟩
       have O9 := Lib.hid (own_below O8.out hb9)
       have B9 := Lib.hid (B8.out.trans (hb9.mono (Nat.le_trans hB B8.out.size)))
       obtain ⟨x, hx⟩ : ∃ x : Nat, 2 * q + 1 = x := ⟨_, rfl⟩
       obtain ⟨y, hy⟩ : ∃ y : Nat, 2 * q + 2 = y := ⟨_, rfl⟩
       have h1 := H1.out
       have h2 := H2.out
       rw [hx] at h1
       rw [hy] at h2
       rw [hx, hy]
       have HX := Lib.hid hx
       have HY := Lib.hid hy
       have D1' := Lib.hid h1
       have D2' := Lib.hid h2
       clear h1 h2 H1 H2 hx hy hb9 O8 B8
       have ix0 : ∀ w, (Instr.index 214 (.agg #[.int .i64 (x : Int), .int .i64 (y : Int)]) (.int .i64 0)).run Tryz.prog w = .ok (.int .i64 (x : Int)) w := fun _ => by kernel_rfl
       have ix1 : ∀ w, (Instr.index 214 (.agg #[.int .i64 (x : Int), .int .i64 (y : Int)]) (.int .i64 1)).run Tryz.prog w = .ok (.int .i64 (y : Int)) w := fun _ => by kernel_rfl
       go_wp2_with fail
       go_loopw [3, 40] (fun s3 s40 wr => ∃ (i : Nat) (l : List Nat) (Aw : Option Addr) (cw : Nat), s40 = .int .i64 (i : Int) ∧ s3 = .slice Aw (len + l.length) cw ∧ ((i = 0 ∧ l = [q]) ∨ (i = 1 ∧ l = q :: D1) ∨ (i = 2 ∧ l = q :: (D1 ++ D2))) ∧ wr.ownsRow B 270 3 (.slice Aw (len + l.length) cw) (len + l.length) (xs ++ flatE E l) ∧ Below B w wr) (fun _ i _ => 2 - (intOf i).toNat)
       case atStart => exact ⟨0, [q], A7, c7, rfl, rfl, .inl ⟨rfl, rfl⟩, O9.out, B9.out⟩
       case round =>
         clear O9 B9
         obtain ⟨i, l, Aw, cw, rfl, rfl, hc, ho, hb⟩ := hrel
         have OW := Lib.hid ho
         have BW := Lib.hid hb
         have HW := Lib.hid (HH.out.under hu hb)
         clear ho hb
         rcases hc with ⟨rfl, rfl⟩ | ⟨rfl, rfl⟩ | ⟨rfl, rfl⟩
         · simp only [List.length_cons, List.length_nil, Nat.zero_add] at OW ⊢
           go_wp2_with fail
           refine (HIH.out x _ _ (len + 1) (xs ++ flatE E [q]) (by have := HX.out; omega) (by have := HX.out; omega) (by rw [D1'.out]; omega) (Nat.le_trans hB BW.out.size) HW.out OW.out).mono ?_
           rw [D1'.out]
           rintro e w10 ⟨v10, rfl, o10, b10⟩
           obtain ⟨A10, c10, rfl⟩ := own_form o10
           have O10 := Lib.hid o10
           have B10 := Lib.hid (BW.out.trans b10)
           clear o10 b10
           go_wp2_with fail
           go_roundw
           case rel =>
             refine ⟨1, q :: D1, A10, c10, by go_num, by rw [List.length_cons, show len + (D1.length + 1) = len + 1 + D1.length from by omega], .inr (.inl ⟨rfl, rfl⟩), ?_, B10.out⟩
             have := O10.out
             rw [List.length_cons, show len + (D1.length + 1) = len + 1 + D1.length from by omega, show q :: D1 = [q] ++ D1 from rfl, flatE_append, ← List.append_assoc]
             exact this
           case measure => simp [intOf]
         · simp only [List.length_cons] at OW ⊢
           go_wp2_with fail
           refine (HIH.out y _ _ (len + (D1.length + 1)) (xs ++ flatE E (q :: D1)) (by have := HY.out; omega) (by have := HY.out; omega) (by rw [D2'.out]; omega) (Nat.le_trans hB BW.out.size) HW.out OW.out).mono ?_
           rw [D2'.out]
           rintro e w10 ⟨v10, rfl, o10, b10⟩
           obtain ⟨A10, c10, rfl⟩ := own_form o10
           have O10 := Lib.hid o10
           have B10 := Lib.hid (BW.out.trans b10)
           clear o10 b10
           go_wp2_with fail
           go_roundw
           case rel =>
             refine ⟨2, q :: (D1 ++ D2), A10, c10, by go_num, by rw [List.length_cons, List.length_append, show len + (D1.length + D2.length + 1) = len + (D1.length + 1) + D2.length from by omega], .inr (.inr ⟨rfl, rfl⟩), ?_, B10.out⟩
             have := O10.out
             rw [List.length_cons, List.length_append, show len + (D1.length + D2.length + 1) = len + (D1.length + 1) + D2.length from by omega, show q :: (D1 ++ D2) = (q :: D1) ++ D2 from rfl, flatE_append, ← List.append_assoc]
             exact this
           case measure => simp [intOf]
         · go_wp2_with fail
           go_ret
           exact ⟨_, rfl, OW.out, BW.out⟩
     · have hD : dueI m E key (K + 1) q = [] := by
         have : ¬ (E q).k ≤ key := by rw [HE.out]; exact hk
         show (if q < m ∧ (E q).k ≤ key then _ else _) = _
         rw [if_neg (fun h => this h.2)]
       rw [hD]
       clear hD ih
       have k1 : key < k := by omega
       go_enter Tryz.func159, Tryz.ntmps159
       go_wp2_with fail
       refine (hlen_any _ HA.out).mono ?_
       rintro e w1 ⟨rfl, rfl⟩
       go_wp2_with fail
       go_ret
       exact ⟨_, rfl, by simpa [flatE] using HO.out, Below.refl _ _⟩
   · have hD : dueI m E key (K + 1) q = [] := by
       show (if q < m ∧ (E q).k ≤ key then _ else _) = _
       rw [if_neg (fun h => hqm h.1)]
     rw [hD]
     have e1 : (m : Int) ≤ (q : Int) := by omega
     have HA := Lib.hid h1
     have HO := Lib.hid hown
     clear h1 h hown hD ih
     go_enter Tryz.func159, Tryz.ntmps159
     go_wp2_with fail
     refine (hlen_any _ HA.out).mono ?_
     rintro e w1 ⟨rfl, rfl⟩
     go_wp2_with fail
     go_ret
     exact ⟨_, rfl, by simpa [flatE] using HO.out, Below.refl _ _⟩
end
end Go.Proofs.YtcffeokbipjaoaaGreat
namespace Go.Proofs
open Go.Shelf
def Tryz.sortEn_ren : Go.Shelf.Ren := ⟨fun | 6 => 160 | 15 => 189 | 14 => 201 | 28 => 232 | 29 => 233 | 20 => 238 | 21 => 239 | 22 => 240 | 23 => 241 | 24 => 242 | 25 => 243 | 26 => 244 | 27 => 245 | 46 => 261 | 47 => 257 | 48 => 258 | 49 => 262 | 50 => 263 | 57 => 273 | n => n, fun | 22 => 224 | 24 => 270 | 25 => 271 | 3 => 3 | 39 => 296 | 0 => 0 | 53 => 332 | 55 => 37 | 4 => 4 | 46 => 326 | 45 => 325 | 50 => 147 | 5 => 5 | 9 => 9 | 66 => 351 | 70 => 343 | 76 => 364 | 77 => 365 | n => n, fun | n => n⟩
theorem Tryz.sortEn : Go.Proofs.SlLaysF0.n6 Tryz.prog Tryz.sortEn_ren := {
 mixed := by kernel_rfl
 f6 := ⟨Tryz.f160.name, by decide, Tryz.func160.trans (congrArg some (by kernel_rfl))⟩
 f14 := ⟨Tryz.f201.name, by decide, Tryz.func201.trans (congrArg some (by kernel_rfl))⟩
 f15 := Tryz.func189.trans (congrArg some (by kernel_rfl))
 f20 := ⟨Tryz.f238.name, by decide, Tryz.func238.trans (congrArg some (by kernel_rfl))⟩
 f21 := ⟨Tryz.f239.name, by decide, Tryz.func239.trans (congrArg some (by kernel_rfl))⟩
 f22 := ⟨Tryz.f240.name, by decide, Tryz.func240.trans (congrArg some (by kernel_rfl))⟩
 f23 := ⟨Tryz.f241.name, by decide, Tryz.func241.trans (congrArg some (by kernel_rfl))⟩
 f24 := ⟨Tryz.f242.name, by decide, Tryz.func242.trans (congrArg some (by kernel_rfl))⟩
 f25 := ⟨Tryz.f243.name, by decide, Tryz.func243.trans (congrArg some (by kernel_rfl))⟩
 f26 := ⟨Tryz.f244.name, by decide, Tryz.func244.trans (congrArg some (by kernel_rfl))⟩
 f27 := ⟨Tryz.f245.name, by decide, Tryz.func245.trans (congrArg some (by kernel_rfl))⟩
 f28 := Tryz.func232.trans (congrArg some (by kernel_rfl))
 f29 := Tryz.func233.trans (congrArg some (by kernel_rfl))
 f46 := ⟨Tryz.f261.name, by decide, Tryz.func261.trans (congrArg some (by kernel_rfl))⟩
 f47 := Tryz.func257.trans (congrArg some (by kernel_rfl))
 f48 := Tryz.func258.trans (congrArg some (by kernel_rfl))
 f49 := ⟨Tryz.f262.name, by decide, Tryz.func262.trans (congrArg some (by kernel_rfl))⟩
 f50 := ⟨Tryz.f263.name, by decide, Tryz.func263.trans (congrArg some (by kernel_rfl))⟩
 f57 := ⟨Tryz.f273.name, by decide, Tryz.func273.trans (congrArg some (by kernel_rfl))⟩
 t0 := Tryz.underlying0
 a0 := Tryz.isAgg0
 z0 := Tryz.sizeOf0
 v0 := Tryz.zeroValue0
 t3 := Tryz.underlying3
 a3 := Tryz.isAgg3
 z3 := Tryz.sizeOf3
 v3 := Tryz.zeroValue3
 t4 := Tryz.underlying4
 a4 := Tryz.isAgg4
 z4 := Tryz.sizeOf4
 v4 := Tryz.zeroValue4
 t5 := Tryz.underlying5
 a5 := Tryz.isAgg5
 z5 := Tryz.sizeOf5
 v5 := Tryz.zeroValue5
 t9 := Tryz.underlying9
 a9 := Tryz.isAgg9
 z9 := Tryz.sizeOf9
 v9 := Tryz.zeroValue9
 t22 := Tryz.underlying224
 a22 := Tryz.isAgg224
 z22 := Tryz.sizeOf224
 v22 := Tryz.zeroValue224
 t25 := Tryz.underlying271
 a25 := Tryz.isAgg271
 z25 := Tryz.sizeOf271
 v25 := Tryz.zeroValue271
 t39 := Tryz.underlying296
 a39 := Tryz.isAgg296
 z39 := Tryz.sizeOf296
 v39 := Tryz.zeroValue296
 t45 := Tryz.underlying325
 a45 := Tryz.isAgg325
 z45 := Tryz.sizeOf325
 v45 := Tryz.zeroValue325
 t46 := Tryz.underlying326
 a46 := Tryz.isAgg326
 z46 := Tryz.sizeOf326
 v46 := Tryz.zeroValue326
 t50 := Tryz.underlying147
 a50 := Tryz.isAgg147
 z50 := Tryz.sizeOf147
 v50 := Tryz.zeroValue147
 t53 := Tryz.underlying332
 a53 := Tryz.isAgg332
 z53 := Tryz.sizeOf332
 v53 := Tryz.zeroValue332
 t55 := Tryz.underlying37
 a55 := Tryz.isAgg37
 z55 := Tryz.sizeOf37
 v55 := Tryz.zeroValue37
 t66 := Tryz.underlying351
 a66 := Tryz.isAgg351
 z66 := Tryz.sizeOf351
 v66 := Tryz.zeroValue351
 t70 := Tryz.underlying343
 a70 := Tryz.isAgg343
 z70 := Tryz.sizeOf343
 v70 := Tryz.zeroValue343
 t76 := Tryz.underlying364
 a76 := Tryz.isAgg364
 z76 := Tryz.sizeOf364
 v76 := Tryz.zeroValue364
 t77 := Tryz.underlying365
 a77 := Tryz.isAgg365
 z77 := Tryz.sizeOf365
 v77 := Tryz.zeroValue365 }
end Go.Proofs
namespace Go.Proofs
open Go.Shelf
def Tryz.lays125_ren : Go.Shelf.Ren := ⟨fun | 125 => 189 | 128 => 232 | 129 => 233 | n => n, fun | 46 => 296 | 3 => 3 | 51 => 332 | 53 => 37 | 4 => 4 | 5 => 5 | 9 => 9 | n => n, fun | n => n⟩
theorem Tryz.lays125 : Go.Proofs.Lays.n125 Tryz.prog Tryz.lays125_ren := {
 mixed := by kernel_rfl
 f125 := Tryz.func189.trans (congrArg some (by kernel_rfl))
 f128 := Tryz.func232.trans (congrArg some (by kernel_rfl))
 f129 := Tryz.func233.trans (congrArg some (by kernel_rfl))
 t3 := Tryz.underlying3
 a3 := Tryz.isAgg3
 z3 := Tryz.sizeOf3
 v3 := Tryz.zeroValue3
 t4 := Tryz.underlying4
 a4 := Tryz.isAgg4
 z4 := Tryz.sizeOf4
 v4 := Tryz.zeroValue4
 t5 := Tryz.underlying5
 a5 := Tryz.isAgg5
 z5 := Tryz.sizeOf5
 v5 := Tryz.zeroValue5
 t9 := Tryz.underlying9
 a9 := Tryz.isAgg9
 z9 := Tryz.sizeOf9
 v9 := Tryz.zeroValue9
 t46 := Tryz.underlying296
 a46 := Tryz.isAgg296
 z46 := Tryz.sizeOf296
 v46 := Tryz.zeroValue296
 t51 := Tryz.underlying332
 a51 := Tryz.isAgg332
 z51 := Tryz.sizeOf332
 v51 := Tryz.zeroValue332
 t53 := Tryz.underlying37
 a53 := Tryz.isAgg37
 z53 := Tryz.sizeOf37
 v53 := Tryz.zeroValue37 }
theorem Tryz.bits_Len (x : Int) (w : World) (h0 : 0 ≤ x) (h1 : x ≤ 18446744073709551615) :
   Calls Tryz.prog 189 #[.int .u64 x] w fun e w' => e = .returned (.int .i64 (Lib.bitLen x.toNat)) ∧ w' = w := Any.bits_Len Tryz.lays125 x w h0 h1
end Go.Proofs
namespace Go.Proofs.YtcffeokbipjaoaaGreat
open Go.ChangeShapes Go.WideShapes Go.RowKit Go.Sort Go.Lib
set_option linter.unusedVariables false
set_option linter.unusedSimpArgs false
instance : Inhabited En := ⟨⟨0, 0, 0⟩⟩
def Grew (w w' : World) : Prop := ∃ q os, w' = grow (w.drewN q) os
theorem Grew.refl (w : World) : Grew w w := ⟨0, #[], by rw [grow_empty]; rfl⟩
theorem Grew.drew {w w' : World} (h : Grew w w') : Grew w w'.drew := by
 obtain ⟨q, os, rfl⟩ := h
 exact ⟨q + 1, os, rfl⟩
theorem Grew.alloc {w w' : World} (h : Grew w w') (o : Obj) : Grew w (w'.alloc o) := by
 obtain ⟨q, os, rfl⟩ := h
 exact ⟨q, os ++ #[o], by rw [alloc_eq_grow, grow_grow]⟩
set_option maxHeartbeats 1000000 in
theorem compare_grew (a b : En) (w : World) :
   Calls Tryz.prog 161 #[a.v, b.v] w fun e w' => e = .returned (.int .i64 (cmpE a b)) ∧ Grew w w' := by
 obtain ⟨ak, at_, am⟩ := a
 obtain ⟨bk, bt, bm⟩ := b
 have hc : cmpE ⟨ak, at_, am⟩ ⟨bk, bt, bm⟩ = or3 (cmp3 ak bk) (cmp3 at_ bt) (cmp3 am bm) := rfl
 rw [hc]; clear hc
 obtain ⟨x1, e1⟩ : ∃ x, cmp3 ak bk = x := ⟨_, rfl⟩
 obtain ⟨x2, e2⟩ : ∃ x, cmp3 at_ bt = x := ⟨_, rfl⟩
 obtain ⟨x3, e3⟩ : ∃ x, cmp3 am bm = x := ⟨_, rfl⟩
 rw [e1, e2, e3]
 obtain ⟨r, er⟩ : ∃ x, or3 x1 x2 x3 = x := ⟨_, rfl⟩
 rw [er]
 have E1 := Lib.hid e1
 have E2 := Lib.hid e2
 have E3 := Lib.hid e3
 have ER := Lib.hid er
 clear e1 e2 e3 er
 go_enter Tryz.func161, Tryz.ntmps161
 go_upto_region 1 with fail
 refine wp_worldh (fun wx => wx.cell? ⟨w.heap.size, 0, none⟩ = some (.int .i64 ak) ∧ wx.cell? ⟨w.heap.size, 1, none⟩ = some (.int .u64 at_) ∧ wx.cell? ⟨w.heap.size, 2, none⟩ = some (.int .i64 am) ∧ wx.cell? ⟨w.heap.size + 1, 0, none⟩ = some (.int .i64 bk) ∧ wx.cell? ⟨w.heap.size + 1, 1, none⟩ = some (.int .u64 bt) ∧ wx.cell? ⟨w.heap.size + 1, 2, none⟩ = some (.int .i64 bm) ∧ Grew w wx ∧ w.heap.size + 1 < wx.heap.size) ⟨((Blk.made w _ _).alloc_ _).val (i := 0) rfl, ((Blk.made w _ _).alloc_ _).val (i := 1) rfl, ((Blk.made w _ _).alloc_ _).val (i := 2) rfl, (Blk.new_ (by simp)).val (i := 0) rfl, (Blk.new_ (by simp)).val (i := 1) rfl, (Blk.new_ (by simp)).val (i := 2) rfl, ((Grew.refl _).alloc _).alloc _, by simp⟩ ?_
 rintro wx ⟨c0, c1, c2, c3, c4, c5, hb, hz⟩
 (go_region_held3 (fun w' => w'.cell? ⟨w.heap.size, 0, none⟩ = some (.int .i64 ak) ∧ w'.cell? ⟨w.heap.size, 1, none⟩ = some (.int .u64 at_) ∧ w'.cell? ⟨w.heap.size, 2, none⟩ = some (.int .i64 am) ∧ w'.cell? ⟨w.heap.size + 1, 0, none⟩ = some (.int .i64 bk) ∧ w'.cell? ⟨w.heap.size + 1, 1, none⟩ = some (.int .u64 bt) ∧ w'.cell? ⟨w.heap.size + 1, 2, none⟩ = some (.int .i64 bm)) ((repeat (first | with_reducible assumption | refine ⟨?_, ?_⟩ | with_reducible refine kdrew ?_ | with_reducible refine kalloc ?_ _)))
   (first
     | (go_at_call 191; refine (comp1 _ _ _).mono ?_; rw [E1.out]; rintro e w1 ⟨rfl, rfl⟩)
     | (go_at_call 192; refine (comp2 _ _ _).mono ?_; rw [E2.out]; rintro e w1 ⟨rfl, rfl⟩)
     | (go_at_call 202; refine (comp3 _ _ _).mono ?_; rw [E3.out]; rintro e w1 ⟨rfl, rfl⟩)
     | (go_at_call 190; (first | refine (or_any _ _ _ _ _ (Blk.made _ _ _)).mono ?_ | refine (or_any _ _ _ _ _ (Blk.drew_ (Blk.made _ _ _))).mono ?_); rw [ER.out]; rintro e w1 ⟨rfl, rfl⟩)))
 all_goals
   go_wp2_with fail
   go_ret
   exact ⟨rfl, by repeat (first | with_reducible exact hb | with_reducible refine Grew.drew ?_ | with_reducible refine Grew.alloc ?_ _)⟩
theorem swoE : SWO (ltOf cmpE) := by
 have key : ∀ x y, ltOf cmpE x y = true ↔ ltE x y := fun x y => by unfold ltOf; rw [decide_eq_true_iff]; exact cmpE_neg x y
 have key2 : ∀ x y, ltOf cmpE x y = false ↔ ¬ ltE x y := fun x y => by rw [← key]; simp
 exact ⟨fun x => (key2 x x).2 (ltE_irrefl x), fun x y z h k => (key x z).2 (ltE_trans ((key x y).1 h) ((key y z).1 k)), fun x y z h k => (key2 x z).2 (nlt_trans ((key2 x y).1 h) ((key2 y z).1 k))⟩
set_option maxRecDepth 20000 in
set_option maxHeartbeats 1000000 in
theorem ins_nil (w : World) (f : Value) : Calls Tryz.prog 238 #[.slice none 0 0, .int .i64 0, .int .i64 0, f] w fun e w' => e = .returned (.tuple #[]) ∧ w = w' := by
 go_enter Tryz.func238, Tryz.ntmps238
 go_wp2_with fail
 go_loopw [8] (fun s8 wr => s8 = .int .i64 1 ∧ wr = w) (fun _ _ => 0)
 case atStart => exact ⟨rfl, rfl⟩
 case round =>
   obtain ⟨rfl, rfl⟩ := hrel
   go_wp2_with fail
   first | go_end0 | skip
   exact ⟨rfl, rfl⟩
set_option maxRecDepth 20000 in
set_option maxHeartbeats 1000000 in
theorem pdq_nil (w : World) (f : Value) : Calls Tryz.prog 201 #[.slice none 0 0, .int .i64 0, .int .i64 0, .int .i64 0, f] w fun e w' => e = .returned (.tuple #[]) ∧ w = w' := by
 go_enter Tryz.func201, Tryz.ntmps201
 go_wp2_with fail
 go_loopw [1, 2] (fun s1 s2 wr => s1 = .int .i64 0 ∧ s2 = .int .i64 0 ∧ wr = w) (fun _ _ _ => 0)
 case atStart => exact ⟨rfl, rfl, rfl⟩
 case round =>
   obtain ⟨rfl, rfl, rfl⟩ := hrel
   go_wp2_with fail
   refine (ins_nil _ _).mono ?_
   rintro e w1 ⟨rfl, rfl⟩
   go_wp2_with fail
   refine bodyPost_ret (results_none rfl _ _ _) rfl ?_
   exact ⟨rfl, rfl⟩
theorem hsort_nil (w : World) (f : Value) : Calls Tryz.prog 160 #[.slice none 0 0, f] w fun e w' => e = .returned (.tuple #[]) ∧ w = w' := by
 have hb : (Lib.bitLen (0 : Int).toNat : Int) = 0 := by decide
 go_enter Tryz.func160, Tryz.ntmps160
 go_wp2_with fail
 refine (Tryz.bits_Len 0 _ (by decide) (by decide)).mono ?_
 rw [hb]
 rintro e w1 ⟨rfl, rfl⟩
 go_wp2_with fail
 refine (pdq_nil _ _).mono ?_
 rintro e w2 ⟨rfl, rfl⟩
 go_wp2_with fail
 first | go_end0 | skip
 exact ⟨rfl, rfl⟩
theorem hsort (w : World) (g cap : Nat) (d : Array En) (hH : HoldsK entRow 3 w g 0 d) (hg : g < w.heap.size) (hd : d.size ≤ 100000) :
   Calls Tryz.prog 160 #[.slice (some ⟨g, 0, none⟩) d.size cap, .func (.func 161) #[] #[]] w fun e w' => e = .returned (.tuple #[]) ∧ ∃ d' n os, PermIn 0 d.size d d' ∧ SortedIn (ltOf cmpE) 0 d.size d' ∧ w' = sortWorldK entRow 3 w g 0 n d' os := by
 have eg : ∀ args w, (callFunc 161 args).run Tryz.prog w = .ok (.enter 161 args) w := enters_of Tryz.func161 (by kernel_rfl) rfl
 have h := AnyQ.slices_SortFunc Tryz.sortEn 3 Tryz.isAgg270 Tryz.sizeOf270 entRow (fun _ => rfl) (fun x v hv => by simp [entRow] at hv; rcases hv with rfl | rfl | rfl <;> rfl) cmpE swoE 161 #[] g 0 cap d w eg (fun m os dk _ x y => compare_grew x y _) hH hg (by omega)
 exact h
end Go.Proofs.YtcffeokbipjaoaaGreat
namespace Go.Proofs.YtcffeokbipjaoaaGreat
open Go.ChangeShapes Go.WideShapes Go.RowKit Go.Sort Go.Lib
set_option linter.unusedVariables false
set_option linter.unusedSimpArgs false
def flatL (L : List En) : List Value := L.flatMap entRow
theorem flatL_len (L : List En) : (flatL L).length = L.length * 3 := by
 unfold flatL
 induction L with
 | nil => rfl
 | cons a l ih => rw [List.flatMap_cons, List.length_append, ih, List.length_cons]; simp [entRow]; omega
theorem flatE_L (E : Nat → En) (l : List Nat) : flatE E l = flatL (l.map E) := by
 unfold flatE flatL
 rw [List.flatMap_map]
theorem flatL_get : ∀ (L : List En) (i j : Nat), i < L.length → j < 3 → (flatL L)[i * 3 + j]? = (entRow L[i]!)[j]?
 | [], i, j, hi, _ => by simp at hi
 | a :: L, 0, j, _, hj => by
   unfold flatL
   rw [List.flatMap_cons, List.getElem?_append_left (by simp [entRow]; omega)]
   simp
 | a :: L, i + 1, j, hi, hj => by
   have h := flatL_get L i j (by simpa using hi) hj
   unfold flatL at h ⊢
   rw [List.flatMap_cons, List.getElem?_append_right (by simp [entRow]; omega)]
   rw [show (i + 1) * 3 + j - (entRow a).length = i * 3 + j from by simp [entRow]; omega, h]
   simp
section
variable {w w' : World} {B k : Nat} {v : Value} {L : List En}
theorem flat_holds {g cap : Nat} {cur : Array Value} {L0 : List En} (hb : Blk w g 270 cur) (hx : ∀ i, i < L0.length * 3 → cur[i]? = (flatL L0)[i]?) : HoldsK entRow 3 w g 0 L0.toArray := by
 intro j hj
 rw [size_flatK] at hj
 have hj' : j < L0.length * 3 := by simpa using hj
 refine ⟨?_, hb.free _⟩
 rw [hb.at_, Nat.zero_add, hx j hj', get_flatK _ _ _ _ hj]
 have hd : j = (j / 3) * 3 + j % 3 := by omega
 have h := flatL_get L0 (j / 3) (j % 3) (by omega) (by omega)
 rw [← hd] at h
 rw [h]
 have hjd : j / 3 < L0.length := by omega
 have e1 : (L0.toArray)[j / 3]! = L0[j / 3]! := by simp [hjd]
 rw [e1]
 have : j % 3 < 3 := Nat.mod_lt _ (by decide)
 generalize j % 3 = r at this
 match r, this with
 | 0, _ => rfl
 | 1, _ => rfl
 | 2, _ => rfl
theorem map_block (w : World) (g : Nat) (f : Array Value → Array Value) {c : Array Value} {e : TypeId} (h : Blk w g e c) : Blk (mapBlock w g f) g e (f c) := by
 unfold Blk at h ⊢
 simp [mapBlock, Array.getElem?_modify, h, onCells]
theorem map_far (w : World) (g : Nat) (f : Array Value → Array Value) {i : Nat} (h : i ≠ g) : (mapBlock w g f).heap[i]? = w.heap[i]? := by
 simp [mapBlock, Array.getElem?_modify, Ne.symm h]
theorem sortW_block (w : World) (g n : Nat) (d : Array En) (os : Array Obj) {c : Array Value} {e : TypeId} (h : Blk w g e c) : ∃ c', c'.size = c.size ∧ Blk (sortWorldK entRow 3 w g 0 n d os) g e c' := by
 have h1 : Blk (Sort.ahead w n) g e c := h
 have h2 := map_block (Sort.ahead w n) g (putCells id 0 (flatK entRow 3 d)) h1
 refine ⟨putCells id 0 (flatK entRow 3 d) c, by simp [putCells], ?_⟩
 have h3 : (grow (mapBlock (Sort.ahead w n) g (putCells id 0 (flatK entRow 3 d))) os).heap[g]? = _ := heap_grow_old _ _ h2.size
 exact h3.trans h2
theorem sortW_below (w : World) (g n : Nat) (d : Array En) (os : Array Obj) (hB : B ≤ g) (hw : B ≤ w.heap.size) : RowKit.Below B w (sortWorldK entRow 3 w g 0 n d os) := by
 have hs : (mapBlock (Sort.ahead w n) g (putCells id 0 (flatK entRow 3 d))).heap.size = w.heap.size := by simp [mapBlock, Sort.ahead]
 refine ⟨rfl, rfl, rfl, ?_, fun i hi => ?_⟩
 · show w.heap.size ≤ (grow (mapBlock (Sort.ahead w n) g (putCells id 0 (flatK entRow 3 d))) os).heap.size
   rw [size_grow, hs]; omega
 · show (grow (mapBlock (Sort.ahead w n) g (putCells id 0 (flatK entRow 3 d))) os).heap[i]? = _
   rw [heap_grow_old _ _ (by rw [hs]; omega), map_far _ _ _ (by omega)]
   rfl
theorem hsort_own {L0 : List En} (w : World) (hw : B ≤ w.heap.size) (hk : k = L0.length) (hs : k ≤ 100000) (hown : w.ownsRow B 270 3 v k (flatL L0)) :
   Calls Tryz.prog 160 #[v, .func (.func 161) #[] #[]] w fun e w' => e = .returned (.tuple #[]) ∧ ∃ L, L.Perm L0 ∧ L.Pairwise (fun a b => ¬ ltE b a) ∧ w'.ownsRow B 270 3 v k (flatL L) ∧ RowKit.Below B w w' := by
 subst hk
 rcases hown.2 with ⟨rfl, h0⟩ | ⟨g, cap, cur, rfl, hg, hb, h1, h2, h3, h4⟩
 · obtain rfl : L0 = [] := by simpa using h0
   refine (hsort_nil w _).mono ?_
   rintro e w' ⟨rfl, rfl⟩
   exact ⟨rfl, [], List.Perm.refl _, List.Pairwise.nil, hown, RowKit.Below.refl _ _⟩
 · have hb' : Blk w g 270 cur := hb
   have hx : ∀ i, i < L0.length * 3 → cur[i]? = (flatL L0)[i]? := fun i hi => by rw [← h4, List.getElem?_take_of_lt hi, Array.getElem?_toList]
   have hH := flat_holds (cap := cap) hb' hx
   have hc := hsort w g cap L0.toArray hH hb'.size (by simpa using hs)
   rw [List.size_toArray] at hc
   refine hc.mono ?_
   rintro e w' ⟨rfl, d', n, os, hp, hso, rfl⟩
   obtain ⟨hds, _, hpe⟩ := hp
   have hd'l : d'.toList.length = L0.length := by simpa using hds
   have hds2 : d'.size = L0.length := by simpa using hds
   have hperm : d'.toList.Perm L0 := by
     have e1 : d'.extract 0 L0.length = d' := by rw [show L0.length = d'.size from by simpa using hds.symm]; simp
     have e2 : L0.toArray.extract 0 L0.length = L0.toArray := by rw [show L0.length = L0.toArray.size from by simp]; simp
     rw [e1, e2] at hpe
     simpa using hpe
   refine ⟨rfl, d'.toList, hperm, ?_, ?_, sortW_below w g n d' os hg hw⟩
   · rw [List.pairwise_iff_getElem]
     intro i j hi hj hij
     have hso' := hso i j (Nat.zero_le _) hij (by omega)
     have hi' : i < d'.size := by simpa using hi
     have hj' : j < d'.size := by simpa using hj
     rw [getElem!_pos d' i hi', getElem!_pos d' j hj'] at hso'
     unfold ltOf at hso'
     rw [decide_eq_false_iff_not, cmpE_neg] at hso'
     simpa using hso'
   · obtain ⟨c', hc', hb2⟩ := sortW_block w g n d' os hb'
     have hH2 := holdsK_sortWorldK_c entRow 3 w g 0 L0.toArray d' n os hH hb'.size (by simpa using hds)
     refine ⟨by rw [flatL_len, hd'l], .inr ⟨g, cap, c', rfl, hg, hb2, h1, h2, by rw [hc', h3], ?_⟩⟩
     apply List.ext_getElem?
     intro i
     by_cases hi : i < L0.length * 3
     · rw [List.getElem?_take_of_lt hi, Array.getElem?_toList]
       have hd : i = (i / 3) * 3 + i % 3 := by omega
       have h := (HoldsK.cell hH2 (i := i / 3) (c := i % 3) (by omega) (by omega)).1
       rw [hb2.at_, Nat.zero_add, ← hd] at h
       rw [h]
       have h5 := flatL_get d'.toList (i / 3) (i % 3) (by omega) (by omega)
       rw [← hd] at h5
       rw [h5]
       have hjd : i / 3 < d'.size := by omega
       have e1 : d'.toList[i / 3]! = d'[i / 3]! := by simp [hjd]
       rw [e1]
       have : i % 3 < 3 := Nat.mod_lt _ (by decide)
       generalize i % 3 = r at this
       match r, this with
       | 0, _ => rfl
       | 1, _ => rfl
       | 2, _ => rfl
     · rw [List.getElem?_eq_none (by rw [List.length_take]; omega), List.getElem?_eq_none (by rw [flatL_len, hd'l]; omega)]
theorem own_ent {i : Nat} (h : w.ownsRow B 270 3 v k (flatL L)) (hi : i < k) : ∃ g c, v = .slice (some ⟨g, 0, none⟩) k c ∧ B ≤ g ∧ g < w.heap.size ∧ w.cell? ⟨g, i * 3, none⟩ = some (.int .i64 (L[i]!).k) ∧ w.cell? ⟨g, i * 3 + 1, none⟩ = some (.int .u64 (L[i]!).t) ∧ w.cell? ⟨g, i * 3 + 2, none⟩ = some (.int .i64 (L[i]!).m) := by
 have hl := h.1
 rw [flatL_len] at hl
 rcases h.2 with ⟨_, h1⟩ | ⟨g, cap, cur, rfl, hb, hg, h1, h2, h3, h4⟩
 · omega
 · have hb' : Blk w g 270 cur := hg
   have hx : ∀ j, j < 3 → w.cell? ⟨g, i * 3 + j, none⟩ = (entRow L[i]!)[j]? := fun j hj => by
     rw [hb'.at_, ← flatL_get L i j (by omega) hj, ← h4, List.getElem?_take_of_lt (by omega), Array.getElem?_toList]
   exact ⟨g, cap, rfl, hb, hb'.size, hx 0 (by omega), hx 1 (by omega), hx 2 (by omega)⟩
end
end Go.Proofs.YtcffeokbipjaoaaGreat
