/- Texts of this claim, one behind the other: Hpi Hpj Hpk Hpn. -/
import Derived.Laws.MakeOwn
import Derived.WalkMore
import Derived.StillTailTactics
import Derived.Deep.AppendLies
import Derived.Test.YtcffeokbipjaoaaGreatMuah
namespace Go.Proofs.YtcffeokbipjaoaaGreat
open Go.ChangeShapes Go.WideShapes Go.RowKit
set_option linter.unusedVariables false
set_option linter.unusedSimpArgs false
theorem pigeon : ∀ (n m : Nat) (f : Nat → Nat), (∀ k, k < m → f k < n) → (∀ i j, i < m → j < m → f i = f j → i = j) → m ≤ n
 | 0, m, f, h, _ => by
   rcases Nat.eq_zero_or_pos m with e | e
   · omega
   · have := h 0 e; omega
 | n + 1, m, f, h, hi => by
   by_cases hex : ∃ k, k < m ∧ f k = n
   · obtain ⟨k0, hk0, e0⟩ := hex
     have := pigeon n (m - 1) (fun j => f (if j < k0 then j else j + 1)) (fun k hk => by
       have h1 : (if k < k0 then k else k + 1) < m := by split <;> omega
       have h2 := h _ h1
       have h3 : f (if k < k0 then k else k + 1) ≠ n := by
         intro e
         have := hi _ _ h1 hk0 (by rw [e, e0])
         split at this <;> omega
       show f (if k < k0 then k else k + 1) < n
       omega) (fun i j hi' hj' e => by
       have h1 : (if i < k0 then i else i + 1) < m := by split <;> omega
       have h2 : (if j < k0 then j else j + 1) < m := by split <;> omega
       have := hi _ _ h1 h2 e
       split at this <;> split at this <;> omega)
     omega
   · have := pigeon n m f (fun k hk => by
       have h1 := h k hk
       have h2 : f k ≠ n := fun e => hex ⟨k, hk, e⟩
       omega) hi
     omega
section
variable {w w' : World} {p b n m c : Nat} {A : Option Addr} {E : Nat → En} {P : Nat → Int} {F : Nat → Option (Int × Int)}
theorem Links.room (h : Links n m E P F) {i : Nat} (hi : i < n) (hF : F i = none) : m < n := by
 have := pigeon n (m + 1) (fun k => if k = m then i else (E k).m.toNat) (fun k hk => by
   show (if k = m then i else (E k).m.toNat) < n
   split
   · exact hi
   · have := h.mem k (by omega); omega) (fun x y hx hy e => by
   have e : (if x = m then i else (E x).m.toNat) = (if y = m then i else (E y).m.toNat) := e
   have key : ∀ z, z < m → (E z).m.toNat ≠ i := by
     intro z hz he
     obtain ⟨j, hj, ej, pj, fj⟩ := h.tom z hz
     have : j = i := by omega
     subst this
     rw [hF] at fj; cases fj
   by_cases h1 : x = m
   · by_cases h2 : y = m
     · omega
     · rw [if_pos h1, if_neg h2] at e
       exact absurd e.symm (key y (by omega))
   · by_cases h2 : y = m
     · rw [if_neg h1, if_pos h2] at e
       exact absurd e (key x (by omega))
     · rw [if_neg h1, if_neg h2] at e
       have a := h.mem x (by omega)
       have b := h.mem y (by omega)
       exact h.one (by omega) (by omega) (by omega))
 omega
theorem HeapAt.sameP {P' : Nat → Int} (h : HeapAt w p b n A m c E P) (hP : ∀ i, i < n → P' i = P i) : HeapAt w p b n A m c E P' := by
 obtain ⟨hd, h1, h2, h3, ht, ⟨ps, bp, pz, pc⟩⟩ := h
 exact ⟨hd, h1, h2, h3, ht, ⟨ps, bp, pz, fun i hi => by rw [hP i hi]; exact pc i hi⟩⟩
theorem hinfo : (Tryz.prog.info? 3).map (fun i => (i.zero, i.size, i.bytes)) = some (some (.int .i64 0), 1, 8) := by kernel_rfl
theorem hinfe : (Tryz.prog.info? 270).map (fun i => (i.zero, i.size, i.bytes)) = some (some (.agg #[.int .i64 0, .int .u64 0, .int .i64 0]), 3, 24) := by kernel_rfl
theorem run_ints_ (n : Nat) (hn : n ≤ 4096) (w : World) :
   (Instr.makeSlice 67 (.int .i64 (n : Int)) (.int .i64 (n : Int))).run Tryz.prog w = .ok (.slice (some ⟨w.heap.size, 0, none⟩) n n) (w.alloc (.cells (madeCells #[.int .i64 0] n) 3)) := by
 obtain ⟨i, hi, hzz⟩ := Option.map_eq_some_iff.1 hinfo
 simp only [Prod.mk.injEq] at hzz
 obtain ⟨hz, hs, hb⟩ := hzz
 have h := run_make (P := Tryz.prog) w 67 3 i _ Tryz.underlying67 hi hz .i64 .i64 n n (by omega) (Int.le_refl _) (by rw [hb]; omega) (by omega)
 simp only [Int.toNat_natCast, hs, Nat.mul_one] at h
 exact h
set_option maxRecDepth 20000 in
set_option maxHeartbeats 2000000 in
theorem hnew_yes (n : Nat) (h1 : 1 ≤ n) (h2 : n ≤ 1024) (w : World) : Calls Tryz.prog 77 #[.int .i64 (n : Int)] w fun e w' => ∃ p b, e = .returned (.tuple #[.pointer (some ⟨p, 0, none⟩), .int .i64 0]) ∧ w.heap.size ≤ p ∧ w.heap.size ≤ b ∧ HeapIn w' p b n none 0 0 (fun _ => ⟨0, 0, 0⟩) (fun _ => none) ∧ Below w.heap.size w w' := by
 have hm := run_ints_ n (by omega)
 have n1 : (1 : Int) ≤ (n : Int) := by omega
 have n2 : (n : Int) ≤ 1024 := by omega
 go_enter Tryz.func77, Tryz.ntmps77
 go_upto_region 4 with fail
 refine wp_worldh (fun wx => HeapAt wx (w.heap.size + 1) w.heap.size n none 0 0 (fun _ => ⟨0, 0, 0⟩) (fun _ => 0) ∧ Below w.heap.size w wx) ⟨⟨Blk.new_ (by simp), h2, Nat.zero_le _, Nat.le_refl _, fun h => absurd h (by omega), ⟨_, (Blk.made w _ _).alloc_ _, made_size _ _, fun i hi => by rw [made_at _ _ hi (by simp)]; simp [Nat.mod_one]⟩⟩, ((Below.refl _ _).alloc (Nat.le_refl _) _).alloc (by simp) _⟩ ?_
 rintro w1 ⟨ha, hb⟩
 have HA := Lib.hid ha
 have HB := Lib.hid hb
 have q1 := ha.p1
 clear ha hb hm
 go_wp2_with fail
 go_loopw [21] (fun s21 wr => ∃ k : Nat, k ≤ n ∧ s21 = .int .i64 (k : Int) ∧ HeapAt wr (w.heap.size + 1) w.heap.size n none 0 0 (fun _ => ⟨0, 0, 0⟩) (fun i => if i < k then -1 else 0) ∧ Below w.heap.size w wr) (fun i _ => n - (intOf i).toNat)
 case atStart => exact ⟨0, Nat.zero_le _, rfl, HA.out.sameP fun i hi => by simp, HB.out⟩
 case round =>
   clear HA HB q1
   obtain ⟨k, hk, rfl, ha, hb⟩ := hrel
   have HA := Lib.hid ha
   have HB := Lib.hid hb
   have q1 := ha.p1
   by_cases hlt : k < n
   · have c0 := ha.b0 hlt
     have z0 := ha.zb k
     have k0 : (0 : Int) ≤ (k : Int) := by omega
     have k1 : (k : Int) < (n : Int) := by omega
     clear ha hb
     go_wp2_with fail
     go_roundw
     case rel => exact ⟨k + 1, by omega, by go_num, (HA.out.setP (k := k) (-1)).sameP fun i hi => by
       by_cases e : i = k
       · subst e; simp
       · show _ = (if i = k then _ else if i < k then _ else _); rw [if_neg e]; split <;> split <;> first | rfl | omega, HB.out.setCell (Nat.le_refl _) _⟩
     case measure => simp [intOf]; omega
   · obtain rfl : k = n := by omega
     clear ha hb
     go_wp2_with fail
     go_ret2
     refine ⟨w.heap.size + 1, w.heap.size, rfl, by omega, Nat.le_refl _, ⟨⟨fun _ => -1, HA.out.sameP fun i hi => (by simp [hi]), ⟨fun k hk => absurd hk (by omega), fun i hi => .inl ⟨rfl, rfl⟩⟩⟩, fun _ => rfl, by unfold maxLen; omega⟩, HB.out⟩
theorem HeapAt.row (h : HeapAt w p b n A m c E P) (hn : c = 0 → A = none) (hc : c ≤ maxLen) : ∃ xs, w.ownsRow 0 270 3 (.slice A m c) m xs ∧ ∀ k, k < m → ∀ j, j < 3 → xs[k * 3 + j]? = (entRow (E k))[j]? := by
 rcases Nat.eq_zero_or_pos c with h0 | h0
 · have hm : m = 0 := by have := h.mc; omega
   have hA := hn h0
   subst h0 hm hA
   exact ⟨[], ⟨rfl, .inl ⟨rfl, rfl⟩⟩, fun k hk => absurd hk (by omega)⟩
 · obtain ⟨a, cs, ea, ba, az, ac⟩ := h.tree h0
   subst ea
   have hmc := h.mc
   refine ⟨cs.toList.take (m * 3), ⟨?_, .inr ⟨a, c, cs, rfl, Nat.zero_le _, ba, hmc, hc, az, rfl⟩⟩, fun k hk j hj => ?_⟩
   · rw [List.length_take]; simp [az]; omega
   · rw [List.getElem?_take_of_lt (by omega), Array.getElem?_toList]; exact ac k hk j hj
theorem own_one {e : TypeId} {v : Value} {xs : List Value} (h : w.ownsRow 0 e 3 v (m + 1) xs) : ∃ g cap cur, v = .slice (some ⟨g, 0, none⟩) (m + 1) cap ∧ Blk w g e cur ∧ m + 1 ≤ cap ∧ cap ≤ maxLen ∧ cur.size = cap * 3 ∧ ∀ k, k < (m + 1) * 3 → cur[k]? = xs[k]? := by
 rcases h.2 with ⟨_, h1⟩ | ⟨g, cap, cur, rfl, _, hg, h1, h2, h3, h4⟩
 · omega
 · refine ⟨g, cap, cur, rfl, hg, h1, h2, h3, fun k hk => ?_⟩
   rw [← h4, List.getElem?_take_of_lt hk, Array.getElem?_toList]
end
end Go.Proofs.YtcffeokbipjaoaaGreat
namespace Go.Proofs.YtcffeokbipjaoaaGreat
open Go.ChangeShapes Go.WideShapes Go.RowKit
set_option linter.unusedVariables false
set_option linter.unusedSimpArgs false
def hOwnP (p b : Nat) (A : Option Addr) : Nat → Prop := fun g => g = p ∨ hOwn b A g
section
variable {w w' : World} {p b n m c : Nat} {A : Option Addr} {E : Nat → En} {P : Nat → Int} {F : Nat → Option (Int × Int)}
theorem HeapAt.pushed {w2 w7 : World} {v : Value} (h : HeapAt w2 p b n A m c E P) (hm : m + 1 ≤ n) (lit : Obj) {xs : List Value} {e : En} (ho : (w2.alloc lit).ownsRow 0 270 3 (.slice A m c) m xs) (hx : ∀ k, k < m → ∀ j, j < 3 → xs[k * 3 + j]? = (entRow (E k))[j]?) (hxs : xs.length = m * 3)
   (hown : w7.ownsRow 0 270 3 v (m + 1) (xs ++ entRow e)) (hg : (w2.alloc lit).grownBy w7 (Value.slice A m c).ownBlock) (hlie : (Value.slice A m c).ownBlock = v.ownBlock ∨ v.ownBlock = some (w2.heap.size + 1)) :
   ∃ A' c', v = .slice A' (m + 1) c' ∧ (∀ x, A' = some x → (∃ y, A = some y ∧ y.block = x.block) ∨ w2.heap.size ≤ x.block) ∧ 0 < c' ∧ c' ≤ maxLen ∧ HeapAt (w7.setCell ⟨p, 0, none⟩ v) p b n A' (m + 1) c' (fun x => if x = m then e else E x) P ∧ Kept (hOwnP p b A) w2 (w7.setCell ⟨p, 0, none⟩ v) ∧ w7.cell? ⟨p, 0, none⟩ = some (.slice A m c) ∧ w7.frozen? ⟨p, 0, none⟩ = false := by
 obtain ⟨hd, h1, h2, h3, ht, ⟨ps, bp, pz, pc⟩⟩ := h
 obtain ⟨g, cap, cur, rfl, hgb, hcap, hmax, hsz, hcur⟩ := own_one hown
 have hd7 : Blk w7 p _ _ := (hd.alloc_ lit).grown_ hg ho (by decide)
 have bp7 : Blk w7 b _ _ := (bp.alloc_ lit).grown_ hg ho (by decide)
 have npb : b ≠ p := bp.other hd (by decide)
 have npg : g ≠ p := hgb.other hd7 (by decide)
 refine ⟨some ⟨g, 0, none⟩, cap, rfl, fun x hx => ?_, by omega, hmax, ⟨?_, h1, hm, by omega, fun _ => ⟨g, cur, rfl, hgb.far _ npg, hsz, fun k hk j hj => ?_⟩, ⟨ps, bp7.far _ npb, pz, pc⟩⟩, ?_, hd7.val rfl, hd7.free 0⟩
 · injection hx with hx
   subst hx
   rcases hlie with hl | hl
   · cases A with
     | none => simp [Value.ownBlock] at hl
     | some y => exact .inl ⟨y, rfl, by simpa [Value.ownBlock] using hl⟩
   · exact .inr (by simp [Value.ownBlock] at hl; show _ ≤ g; omega)
 · have := hd7.set_ 0 (.slice (some ⟨g, 0, none⟩) (m + 1) cap)
   simpa using this
 · rw [hcur (k * 3 + j) (by omega)]
   by_cases hkm : k = m
   · subst hkm
     show _ = (entRow (if k = k then e else E k))[j]?
     rw [if_pos rfl, List.getElem?_append_right (by omega), hxs, Nat.add_sub_cancel_left]
   · show _ = (entRow (if k = m then e else E k))[j]?
     rw [if_neg hkm, List.getElem?_append_left (by omega)]
     exact hx k (by omega) j hj
 · refine (((Kept.refl (hOwnP p b A) w2).alloc_ lit).grown hg fun k hk => ?_).set_ (.inl (.inl rfl)) _
   cases A with
   | none => simp [Value.ownBlock] at hk
   | some x => exact .inl (.inr (.inr ⟨x, rfl, by simpa [Value.ownBlock] using hk⟩))
set_option maxRecDepth 20000 in
set_option maxHeartbeats 2000000 in
theorem hput_new {i : Nat} (k t : Int) (hi : i < n) (hF : F i = none) (w : World) (h : HeapIn w p b n A m c E F) (ho : Ord m E) : Calls Tryz.prog 172 #[.pointer (some ⟨p, 0, none⟩), .int .i64 (i : Int), .int .i64 k, .int .u64 t] w fun e w' => e = .returned (.int .i64 0) ∧
   ∃ A' c' E' w2, HeapIn w' p b n A' (m + 1) c' E' (fun x => if x = i then some (k, t) else F x) ∧ Ord (m + 1) E' ∧ Kept (hOwnP p b A) w w2 ∧ Kept (hOwn b A') w2 w' ∧ (∀ x, A' = some x → (∃ y, A = some y ∧ y.block = x.block) ∨ w.heap.size ≤ x.block) := by
 obtain ⟨P, h1, h2⟩ := h.at_
 have hmn := h2.room hi hF
 have hP := (h2.none_ hi).1 hF
 have q0 := h1.p0
 have q1 := h1.p1
 have hn0 := h1.n0
 have c0 := h1.b0 hi
 have z0 := h1.zb i
 have hz := h1.head.size
 rw [hP] at c0
 have i0 : (0 : Int) ≤ (i : Int) := by omega
 have i1 : (i : Int) < (n : Int) := by omega
 have HA := Lib.hid h1
 have HL := Lib.hid h2
 have HO := Lib.hid ho
 have HC := Lib.hid h
 clear h1 h2 h ho
 obtain ⟨i0', hi0, hzz⟩ := Option.map_eq_some_iff.1 hinfe
 simp only [Prod.mk.injEq] at hzz
 obtain ⟨hz0, hz1, hz2⟩ := hzz
 have HZ := Lib.hid (And.intro hi0 (And.intro hz0 (And.intro hz1 hz2)))
 clear hi0 hz0 hz1 hz2
 go_enter Tryz.func172, Tryz.ntmps172
 go_wp2_with fail
 refine (hmem_yes hi _ HA.out).mono ?_
 rintro e w1 ⟨rfl, rfl⟩
 go_upto_region 7 with fail
 go_still_tail 11, (by kernel_rfl)
 go_upto_region 8 with fail
 refine wp_worldh (fun wx => HeapAt wx p b n A m c E (fun x => if x = i then (m : Int) else P x) ∧ Kept (hOwnP p b A) w wx) ⟨by first | exact (HA.out.setP (k := i) (m : Int)).drew | exact (HA.out.drew.setP (k := i) (m : Int)), by first | exact ((Kept.refl _ _).set_ (.inl (.inr (.inl rfl))) _).drew_ | exact (Kept.refl _ _).drew_.set_ (.inl (.inr (.inl rfl))) _⟩ ?_
 clear q0 q1 c0 z0 hz HA
 rintro w2 ⟨h2, k2⟩
 obtain ⟨xs, hx1, hx2⟩ := h2.row HC.out.nil_ HC.out.cmax
 have hxl := hx1.1
 have q0 := h2.p0
 have H2 := Lib.hid h2
 have K2 := Lib.hid k2
 have X1 := Lib.hid hx1
 have X2 := Lib.hid hx2
 have HS := Lib.hid k2.size
 clear h2 k2 hx1 hx2
 go_upto_region 9 with (at_builtin; refine wpList_append_lies _ rfl (.tmp 38) (.tmp 43) 224 rfl 0 270 i0' (.agg #[.int .i64 0, .int .u64 0, .int .i64 0]) 3 24 Tryz.underlying224 HZ.out.1 HZ.out.2.1 HZ.out.2.2.1 HZ.out.2.2.2 rfl (by decide) (.slice A m c) m xs rfl (X1.out.alloc _) ⟨w2.heap.size, 0, none⟩ 1 1 [.int .i64 k, .int .u64 t, .int .i64 (i : Int)] rfl rfl (by intro j u hj; match j, hj with | 0, hj => simp at hj; subst hj; exact (Blk.new_ (by simp)).val rfl | 1, hj => simp at hj; subst hj; exact (Blk.new_ (by simp)).val rfl | 2, hj => simp at hj; subst hj; exact (Blk.new_ (by simp)).val rfl) (by intro u hu; simp at hu; rcases hu with rfl | rfl | rfl <;> rfl) (by omega) (by unfold maxLen; omega) (by omega) (by simp) _ rfl ?_; intro g7 cap7 w7 hown7 hg7 hl7 _; obtain ⟨A', c', e7, hA7, hc1, hc2, h7, k7, q7, z7⟩ := H2.out.pushed hmn _ (X1.out.alloc _) X2.out hxl (e := ⟨k, t, (i : Int)⟩) hown7 hg7 (by rcases hl7 with h | h; exact .inl h; exact .inr (by rw [h]; simp [Value.ownBlock])); rw [e7] at h7 k7 ⊢; have H7 := Lib.hid h7; have HA7 := Lib.hid hA7; have K7 := Lib.hid (K2.out.trans k7); clear hown7 hg7 h7 k7 hl7 e7 hA7)
 refine wp_worldh (fun wx => HeapAt wx p b n A' (m + 1) c' (fun x => if x = m then ⟨k, t, (i : Int)⟩ else E x) (fun x => if x = i then (m : Int) else P x) ∧ Kept (hOwnP p b A) w wx) ⟨H7.out, K7.out⟩ ?_
 clear q0 q7 z7 H7 K7 H2 K2 X1 X2
 rintro w8 ⟨h8, k8⟩
 have q1 := h8.p1
 have c0 : w8.cell? ⟨b, i, none⟩ = some (.int .i64 (m : Int)) := (h8.b0 hi).trans (by simp)
 have h9 : HeapIn w8 p b n A' (m + 1) c' (fun x => if x = m then ⟨k, t, (i : Int)⟩ else E x) (fun x => if x = i then some (k, t) else F x) := ⟨⟨_, h8, HL.out.push hi hF k t⟩, fun h => absurd h (by omega), hc2⟩
 have H9 := Lib.hid h9
 have K8 := Lib.hid k8
 clear h8 k8 h9
 go_wp2_with fail
 refine (hrise _ (by omega) H9.out (HO.out.push _)).mono ?_
 rintro e w10 ⟨rfl, ⟨E', h10, o10⟩, k10⟩
 have H10 := Lib.hid h10
 have O10 := Lib.hid (o10.all (by omega))
 have K10 := Lib.hid k10
 clear h10 o10 k10
 go_wp2_with fail
 go_ret
 exact ⟨rfl, A', c', E', w8, H10.out, O10.out, K8.out, K10.out, fun x hx => (HA7.out x hx).imp id fun h => Nat.le_trans HS.out h⟩
end
end Go.Proofs.YtcffeokbipjaoaaGreat
namespace Go.Proofs.YtcffeokbipjaoaaGreat
open Go.ChangeShapes Go.WideShapes Go.RowKit
set_option linter.unusedVariables false
set_option linter.unusedSimpArgs false
section
variable {w w' : World} {p b n m c : Nat} {A : Option Addr} {E : Nat → En} {P : Nat → Int} {F : Nat → Option (Int × Int)}
theorem HeapAt.cut {M : Nat} (h : HeapAt w p b n A M c E P) (hM : M = m + 1) : HeapAt (w.setCell ⟨p, 0, none⟩ (.slice A m c)) p b n A m c E P := by
 obtain ⟨hd, h1, h2, h3, ht, ⟨ps, bp, pz, pc⟩⟩ := h
 have npb : b ≠ p := bp.other hd (by decide)
 refine ⟨?_, h1, by omega, by omega, fun h0 => ?_, ⟨ps, bp.far _ npb, pz, pc⟩⟩
 · have := hd.set_ 0 (.slice A m c)
   simpa using this
 · obtain ⟨a, cs, e, ba, az, ac⟩ := ht h0
   exact ⟨a, cs, e, ba.far _ (ba.other hd (by decide)), az, fun k hk => ac k (by omega)⟩
theorem HeapIn.drewN (h : HeapIn w p b n A m c E F) (k : Nat) : HeapIn (w.drewN k) p b n A m c E F := h.below ⟨rfl, rfl, rfl, Nat.le_refl _, fun _ _ => rfl⟩
theorem HeapIn.drew (h : HeapIn w p b n A m c E F) : HeapIn w.drew p b n A m c E F := h.below ⟨rfl, rfl, rfl, Nat.le_refl _, fun _ _ => rfl⟩
set_option maxRecDepth 20000 in
set_option maxHeartbeats 2000000 in
theorem hrem_yes {i M : Nat} {kt : Int × Int} (hi : i < n) (hF : F i = some kt) (hM : M = m + 1) (w : World) (h : HeapIn w p b n A M c E F) (ho : Ord M E) : Calls Tryz.prog 167 #[.pointer (some ⟨p, 0, none⟩), .int .i64 (i : Int)] w fun e w' => e = .returned (.int .i64 0) ∧
   ∃ E', HeapIn w' p b n A m c E' (fun x => if x = i then none else F x) ∧ Ord m E' ∧ Kept (hOwnP p b A) w w' := by
 obtain ⟨P, h1, h2⟩ := h.at_
 obtain ⟨x, hx, hp, hex⟩ := h2.get hi hF
 have q0 := h1.p0
 have q1 := h1.p1
 have c0 := h1.b0 hi
 have hn := h1.n0
 have hmn := h1.mn
 have hmc := h1.mc
 rw [hp] at c0
 have i0 : (0 : Int) ≤ (i : Int) := by omega
 have i1 : (i : Int) < (n : Int) := by omega
 have x1 : ¬ (x : Int) = -1 := by omega
 have e1 : IntKind.i64.wrap ((M : Int) - 1) = (m : Int) := by rw [IntKind.wrap_i64]; omega
 have hmM : m < M := by omega
 have HX := Lib.hid hex
 have HA := Lib.hid h1
 have HO := Lib.hid ho
 have HC := Lib.hid h
 have HM := Lib.hid hM
 clear h1 h2 h hM ho hex
 go_enter Tryz.func167, Tryz.ntmps167
 go_wp2_with fail
 refine (hmem_yes hi _ HA.out).mono ?_
 rintro e w1 ⟨rfl, rfl⟩
 go_upto_region 5 with fail
 go_quiet (fail)
 go_wp2_with fail
 refine (hswap _ hx hmM (HC.out.drewN _)).mono ?_
 rintro e w2 ⟨rfl, h2, k2⟩
 obtain ⟨P2, a2, l2⟩ := h2.at_
 obtain ⟨y, hy, hpy, hey⟩ := l2.get hi hF
 have hym : y = m := by
   refine l2.one hy hmM ?_
   rw [hey, swE_j, HX.out]
 rw [hym] at hpy
 have HP := Lib.hid hpy
 have H2 := Lib.hid h2
 have A2 := Lib.hid a2
 have L2 := Lib.hid l2
 have K2 := Lib.hid (((Kept.refl (hOwnP p b A) w).drewN_ _).trans (k2.more fun g _ h => .inr h))
 obtain ⟨a, ea, -, -⟩ := a2.at_ (by omega)
 clear q0 q1 c0 HA hey hpy k2 l2 h2
 have q0 := a2.p0
 have zp : w2.frozen? ⟨p, 0, none⟩ = false := a2.head.free 0
 rw [ea] at q0
 have m0 : (0 : Int) ≤ (m : Int) := by omega
 have m1 : (m : Int) ≤ (c : Int) := by omega
 clear a2
 go_upto_region 10 with fail
 refine wp_worldh (fun wx => HeapAt wx p b n A m c (swE E x m) P2 ∧ Kept (hOwnP p b A) w wx) ⟨by have h3 := A2.out.cut HM.out; rw [ea] at h3 ⊢; exact h3, K2.out.set_ (.inl (.inl rfl)) _⟩ ?_
 clear q0 zp A2 K2
 rintro w3 ⟨a3, k3⟩
 have q1 := a3.p1
 have c0 := a3.b0 hi
 have z0 := a3.zb i
 have A3 := Lib.hid a3
 have K3 := Lib.hid k3
 clear a3 k3
 go_upto_region 11 with fail
 refine wp_worldh (fun wx => HeapAt wx p b n A m c (swE E x m) (fun y => if y = i then -1 else P2 y) ∧ Kept (hOwnP p b A) w wx) ⟨A3.out.setP (-1), K3.out.set_ (.inl (.inr (.inl rfl))) _⟩ ?_
 clear q1 c0 z0 A3 K3
 rintro w4 ⟨a4, k4⟩
 have h4 : HeapIn w4 p b n A m c (swE E x m) (fun y => if y = i then none else F y) := ⟨⟨_, a4, Links.pop (by have := L2.out; rw [HM.out] at this; exact this) hi HP.out⟩, (fun h => by rw [HC.out.nil_ h] at ea; cases ea), HC.out.cmax⟩
 have H4 := Lib.hid h4
 have K4 := Lib.hid k4
 clear h4 a4 k4 ea
 by_cases hxm : x < m
 · have xi : (x : Int) < (m : Int) := by omega
   go_wp2_with fail
   refine (hrise _ hxm H4.out (by have := HO.out; rw [HM.out] at this; exact this.gap hxm)).mono ?_
   rintro e w5 ⟨rfl, ⟨E5, h5, o5⟩, k5⟩
   have H5 := Lib.hid h5
   have O5 := Lib.hid o5
   have K5 := Lib.hid (K4.out.trans (k5.more fun g _ h => .inr h))
   clear h5 o5 k5
   go_wp2_with fail
   refine (hsink _ hxm H5.out O5.out).mono ?_
   rintro e w6 ⟨rfl, ⟨E6, h6, o6⟩, k6⟩
   have H6 := Lib.hid h6
   have O6 := Lib.hid o6
   have K6 := Lib.hid (K5.out.trans (k6.more fun g _ h => .inr h))
   clear h6 o6 k6
   go_wp2_with fail
   go_ret
   exact ⟨rfl, E6, H6.out, O6.out, K6.out⟩
 · have xm : x = m := by have := HM.out; omega
   have xi : ¬ (x : Int) < (m : Int) := by omega
   have e2 : decide ((x : Int) < (m : Int)) = false := by simp; omega
   have HXM := Lib.hid xm
   clear xm
   go_wp2_with fail
   go_ret
   refine ⟨rfl, _, H4.out, ?_, K4.out⟩
   have ho := HO.out
   rw [HM.out] at ho
   exact ho.cut.same fun k hk => swE_x E (i := x) (j := m) (x := k) (by have := HXM.out; omega) (by omega)
end
end Go.Proofs.YtcffeokbipjaoaaGreat
namespace Go.Proofs.YtcffeokbipjaoaaGreat
set_option linter.unusedVariables false
def dueI (m : Nat) (E : Nat → En) (key : Int) : Nat → Nat → List Nat
 | 0, _ => []
 | K + 1, q => if q < m ∧ (E q).k ≤ key then q :: (dueI m E key K (2 * q + 1) ++ dueI m E key K (2 * q + 2)) else []
section
variable {m : Nat} {E : Nat → En} {key : Int}
theorem dueI_sub : ∀ (K q j : Nat), j ∈ dueI m E key K q → j < m ∧ (E j).k ≤ key ∧ ∃ d, (j + 1) / 2 ^ d = q + 1
 | 0, _, _, h => by simp [dueI] at h
 | K + 1, q, j, h => by
   unfold dueI at h
   split at h
   · rename_i hc
     simp only [List.mem_cons, List.mem_append] at h
     rcases h with h | h | h
     · subst h; exact ⟨hc.1, hc.2, 0, by simp⟩
     · obtain ⟨h1, h2, d, hd⟩ := dueI_sub K _ _ h
       exact ⟨h1, h2, d + 1, by rw [Nat.pow_succ, ← Nat.div_div_eq_div_mul, hd]; omega⟩
     · obtain ⟨h1, h2, d, hd⟩ := dueI_sub K _ _ h
       exact ⟨h1, h2, d + 1, by rw [Nat.pow_succ, ← Nat.div_div_eq_div_mul, hd]; omega⟩
   · simp at h
theorem up_le {j d e a b : Nat} (h : (j + 1) / 2 ^ d = a) (k : (j + 1) / 2 ^ (d + e) = b) : b = a / 2 ^ e := by
 rw [Nat.pow_add, ← Nat.div_div_eq_div_mul, h] at k; exact k.symm
theorem half_le (a e : Nat) : a / 2 ^ (e + 1) ≤ a / 2 := by
 rw [Nat.pow_succ, Nat.mul_comm, ← Nat.div_div_eq_div_mul]
 exact Nat.div_le_self _ _
theorem apart_ {j d e a b : Nat} (h : (j + 1) / 2 ^ d = a) (k : (j + 1) / 2 ^ e = b) (hab : a ≠ b) (h1 : a / 2 < b) (h2 : b / 2 < a) : False := by
 rcases Nat.lt_trichotomy d e with hl | hl | hl
 · obtain ⟨f, rfl⟩ : ∃ f, e = d + (f + 1) := ⟨e - d - 1, by omega⟩
   have := up_le h k
   have := half_le a f
   omega
 · subst hl; omega
 · obtain ⟨f, rfl⟩ : ∃ f, d = e + (f + 1) := ⟨d - e - 1, by omega⟩
   have := up_le k h
   have := half_le b f
   omega
theorem dueI_nodup : ∀ (K q : Nat), (dueI m E key K q).Nodup
 | 0, _ => by simp [dueI]
 | K + 1, q => by
   unfold dueI
   split
   · refine List.nodup_cons.2 ⟨fun h => ?_, List.nodup_append.2 ⟨dueI_nodup K _, dueI_nodup K _, fun x hx y hy e => ?_⟩⟩
     · rcases List.mem_append.1 h with h | h
       · obtain ⟨_, _, d, hd⟩ := dueI_sub K _ _ h
         have := Nat.div_le_self (q + 1) (2 ^ d)
         omega
       · obtain ⟨_, _, d, hd⟩ := dueI_sub K _ _ h
         have := Nat.div_le_self (q + 1) (2 ^ d)
         omega
     · subst e
       obtain ⟨_, _, d, hd⟩ := dueI_sub K _ _ hx
       obtain ⟨_, _, e, he⟩ := dueI_sub K _ _ hy
       exact apart_ hd he (by omega) (by omega) (by omega)
   · simp
theorem key_up (ho : Ord m E) : ∀ (d j q : Nat), j < m → (j + 1) / 2 ^ d = q + 1 → (E q).k ≤ (E j).k
 | 0, j, q, _, h => by simp at h; subst h; exact Int.le_refl _
 | d + 1, j, q, hj, h => by
   obtain ⟨r, hr⟩ : ∃ r, (j + 1) / 2 ^ d = r := ⟨_, rfl⟩
   rw [Nat.pow_succ, ← Nat.div_div_eq_div_mul, hr] at h
   have hrj : r ≤ j + 1 := by rw [← hr]; exact Nat.div_le_self _ _
   have h1 := key_up ho d j (r - 1) hj (by omega)
   have h2 := ho (r - 1) (by omega) (by omega)
   have h3 : (r - 1 - 1) / 2 = q := by omega
   rw [h3] at h2
   unfold ltE at h2
   omega
theorem dueI_all (ho : Ord m E) : ∀ (d K j q : Nat), j < m → (E j).k ≤ key → (j + 1) / 2 ^ d = q + 1 → m ≤ K + q → j ∈ dueI m E key K q
 | d, 0, j, q, hj, hk, h, hm => by
   have : (j + 1) / 2 ^ d ≤ j + 1 := Nat.div_le_self _ _
   omega
 | 0, K + 1, j, q, hj, hk, h, hm => by
   simp at h
   subst h
   unfold dueI
   rw [if_pos ⟨hj, hk⟩]
   simp
 | d + 1, K + 1, j, q, hj, hk, h, hm => by
   have hq := key_up ho (d + 1) j q hj h
   have hqj : q + 1 ≤ j + 1 := by rw [← h]; exact Nat.div_le_self _ _
   obtain ⟨r, hr⟩ : ∃ r, (j + 1) / 2 ^ d = r := ⟨_, rfl⟩
   rw [Nat.pow_succ, ← Nat.div_div_eq_div_mul, hr] at h
   unfold dueI
   rw [if_pos ⟨by omega, by omega⟩]
   rw [List.mem_cons, List.mem_append]
   by_cases he : r = 2 * q + 2
   · exact .inr (.inl (dueI_all ho d K j (2 * q + 1) hj hk (by omega) (by omega)))
   · exact .inr (.inr (dueI_all ho d K j (2 * q + 2) hj hk (by omega) (by omega)))
theorem nodup_len {l : List Nat} {m : Nat} (h : l.Nodup) (hm : ∀ j, j ∈ l → j < m) : l.length ≤ m := by
 refine pigeon m l.length (fun k => l.getD k 0) (fun k hk => ?_) (fun i j hi hj e => ?_)
 · rw [List.getD_eq_getElem?_getD, List.getElem?_eq_getElem hk]; exact hm _ (List.getElem_mem hk)
 · have e : l.getD i 0 = l.getD j 0 := e
   rw [List.getD_eq_getElem?_getD, List.getD_eq_getElem?_getD, List.getElem?_eq_getElem hi, List.getElem?_eq_getElem hj] at e
   exact (List.getElem_inj h).1 e
theorem dueI_len (K q : Nat) : (dueI m E key K q).length ≤ m := nodup_len (dueI_nodup K q) fun j hj => (dueI_sub K q j hj).1
theorem dueI_mem (ho : Ord m E) (j : Nat) : j ∈ dueI m E key m 0 ↔ j < m ∧ (E j).k ≤ key := by
 constructor
 · intro h; obtain ⟨h1, h2, _⟩ := dueI_sub _ _ _ h; exact ⟨h1, h2⟩
 · rintro ⟨h1, h2⟩
   have : ∃ d, (j + 1) / 2 ^ d = 1 := by
     have key : ∀ n, 0 < n → ∃ d, n / 2 ^ d = 1 := by
       intro n
       induction n using Nat.strongRecOn with
       | ind n ih =>
         intro h0
         by_cases h1 : n = 1
         · exact ⟨0, by simp [h1]⟩
         · obtain ⟨d, hd⟩ := ih (n / 2) (by omega) (by omega)
           exact ⟨d + 1, by rw [Nat.pow_succ, Nat.mul_comm, ← Nat.div_div_eq_div_mul]; exact hd⟩
     exact key _ (by omega)
   obtain ⟨d, hd⟩ := this
   exact dueI_all ho d m j 0 h1 h2 (by omega) (by omega)
end
end Go.Proofs.YtcffeokbipjaoaaGreat
