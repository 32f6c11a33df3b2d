/- Texts of this claim, one behind the other: Crh Cql. -/
import Derived.Test.YtcffeokbipjaoaaGreatMtbp
import Derived.Test.YtcffeokbipjaoaaGreatMtbt
namespace Go.Proofs.YtcffeokbipjaoaaGreat
open Go.ChangeShapes Go.WideShapes Go.RowKit Go.Sort Kn
set_option linter.unusedVariables false
set_option linter.unusedSimpArgs false
open Classical in
noncomputable def keepQ (E : Int) (L : List Qu) : List Qu := L.filter fun x => !decide (loQ E x)
section
variable {E : Int} {L : List Qu} {j : Nat}
theorem take_succ_at (h : j < L.length) : L.take (j + 1) = L.take j ++ [quAt L j] := by
 unfold quAt
 rw [List.take_add_one, List.getElem?_eq_getElem h, getElem!_pos L j h]
 rfl
theorem keepQ_lo (h : j < L.length) (hl : loQ E (quAt L j)) : keepQ E (L.take (j + 1)) = keepQ E (L.take j) := by
 unfold keepQ
 rw [take_succ_at h, List.filter_append]
 simp [hl]
theorem keepQ_hi (h : j < L.length) (hl : ¬ loQ E (quAt L j)) : keepQ E (L.take (j + 1)) = keepQ E (L.take j) ++ [quAt L j] := by
 unfold keepQ
 rw [take_succ_at h, List.filter_append]
 simp [hl]
theorem keepQ_all (h : ∀ k, k < j → ¬ loQ E (quAt L k)) (hj : j ≤ L.length) : keepQ E (L.take j) = L.take j := by
 induction j with
 | zero => rfl
 | succ j ih => rw [keepQ_hi (by omega) (h j (by omega)), ih (fun k hk => h k (by omega)) (by omega), ← take_succ_at (by omega)]
theorem flatU_app (M M' : List Qu) : flatU (M ++ M') = flatU M ++ flatU M' := by unfold flatU; simp
theorem flatU_take (hj : j ≤ L.length) {k : Nat} (hk : k < j * 6) : (flatU (L.take j))[k]? = (flatU L)[k]? := by
 conv => rhs; rw [← List.take_append_drop j L, flatU_app]
 rw [List.getElem?_append_left (by rw [flatU_len, List.length_take]; omega)]
end
def putU (cur : Array Value) (o : Nat) (h a b c d e : Int) : Array Value := (((((cur.setIfInBounds o (.int .u64 h)).setIfInBounds (o + 1) (.int .u64 a)).setIfInBounds (o + 2) (.int .i64 b)).setIfInBounds (o + 3) (.int .i64 c)).setIfInBounds (o + 4) (.int .i64 d)).setIfInBounds (o + 5) (.int .i64 e)
def putW (w : World) (g o : Nat) (h a b c d e : Int) : World := (((((w.setCell ⟨g, o, none⟩ (.int .u64 h)).setCell ⟨g, o + 1, none⟩ (.int .u64 a)).setCell ⟨g, o + 2, none⟩ (.int .i64 b)).setCell ⟨g, o + 3, none⟩ (.int .i64 c)).setCell ⟨g, o + 4, none⟩ (.int .i64 d)).setCell ⟨g, o + 5, none⟩ (.int .i64 e)
section
variable {w w' : World} {g o B n m : Nat} {cur : Array Value} {h a b c d e : Int} {T : TypeId}
theorem putU_size : (putU cur o h a b c d e).size = cur.size := by simp [putU]
theorem putU_out {k : Nat} (hk : k < o ∨ o + 6 ≤ k) : (putU cur o h a b c d e)[k]? = cur[k]? := by
 unfold putU
 simp only [Array.getElem?_setIfInBounds]
 repeat' split
 all_goals first | omega | rfl
theorem putU_in {j : Nat} (hj : j < 6) (ho : o + 6 ≤ cur.size) : (putU cur o h a b c d e)[o + j]? = (quRow h a b c d e)[j]? := by
 unfold putU quRow
 match j, hj with
 | 0, _ => simp [Array.getElem?_setIfInBounds]; omega
 | 1, _ => simp [Array.getElem?_setIfInBounds]; omega
 | 2, _ => simp [Array.getElem?_setIfInBounds]; omega
 | 3, _ => simp [Array.getElem?_setIfInBounds]; omega
 | 4, _ => simp [Array.getElem?_setIfInBounds]; omega
 | 5, _ => simp [Array.getElem?_setIfInBounds]; omega
theorem putW_blk (hb : Blk w g T cur) : Blk (putW w g o h a b c d e) g T (putU cur o h a b c d e) :=
 (((((hb.set_ o _).set_ (o + 1) _).set_ (o + 2) _).set_ (o + 3) _).set_ (o + 4) _).set_ (o + 5) _
theorem putW_kept : Kept (fun k => k = g) w (putW w g o h a b c d e) :=
 ((((((Kept.refl (fun k => k = g) w).set_ (p := ⟨g, o, none⟩) (.inl rfl) _).set_ (p := ⟨g, o + 1, none⟩) (.inl rfl) _).set_ (p := ⟨g, o + 2, none⟩) (.inl rfl) _).set_ (p := ⟨g, o + 3, none⟩) (.inl rfl) _).set_ (p := ⟨g, o + 4, none⟩) (.inl rfl) _).set_ (p := ⟨g, o + 5, none⟩) (.inl rfl) _
theorem set_row {M : List Qu} {x : Qu} {ix : Nat} (hx : x = ⟨h, ⟨a, b, c, d, e⟩, ix⟩) (hM : M.length = m) (hz : m * 6 + 6 ≤ cur.size) (hc : ∀ k, k < m * 6 → cur[k]? = (flatU M)[k]?) :
   ∀ k, k < (m + 1) * 6 → (putU cur (m * 6) h a b c d e)[k]? = (flatU (M ++ [x]))[k]? := by
 intro k hk
 have hl : (flatU M).length = m * 6 := by rw [flatU_len, hM]
 rw [flatU_app]
 by_cases h1 : k < m * 6
 · rw [putU_out (.inl h1), hc k h1, List.getElem?_append_left (by rw [hl]; exact h1)]
 · obtain ⟨j, rfl⟩ : ∃ j, k = m * 6 + j := ⟨k - m * 6, by omega⟩
   rw [putU_in (by omega) hz, List.getElem?_append_right (by rw [hl]; omega), hl, Nat.add_sub_cancel_left, hx]
   rfl
theorem cells_blk : ∀ (vs : List Value) (o : Nat) (w : World) (cs : Array Value), Blk w g T cs → ∃ cs', cs'.size = cs.size ∧ (∀ k, k < o → cs'[k]? = cs[k]?) ∧ Blk (w.setCells g o vs) g T cs' ∧ Kept (fun k => k = g) w (w.setCells g o vs)
 | [], _, w, cs, hb => ⟨cs, rfl, fun _ _ => rfl, hb, Kept.refl _ _⟩
 | v :: r, o, w, cs, hb => by
   obtain ⟨cs', h1, h2, h3, h4⟩ := cells_blk r (o + 1) _ _ (hb.set_ o v)
   refine ⟨cs', by rw [h1]; simp, fun k hk => ?_, h3, Kept.trans ((Kept.refl (fun k => k = g) w).set_ (p := ⟨g, o, none⟩) (.inl rfl) _) h4⟩
   rw [h2 k (by omega), Array.getElem?_setIfInBounds, if_neg (by omega)]
theorem kept_below {K : Nat → Prop} (hk : Kept K w w') (hB : ∀ k, K k → B ≤ k) (hw : B ≤ w.heap.size) : Below B w w' :=
 hk.below (fun k hk' => by have := hB k hk'; omega) hw
end
theorem clear_rows (w : World) (t e ty : TypeId) (z : Value) (ht : Tryz.prog.underlying t = some (.slice e)) (hv : ∀ w, (zeroValue e).run Tryz.prog w = .ok z w) (hz : z.cells.size = 6) (h1 : ∀ v ∈ z.cells, v.oneCell' = true) (b o n c : Nat) (hn : 0 < n)
   (hc : ∀ j, j < n * 6 → (w.cell? ⟨b, o + j, none⟩).isSome = true) (hf : ∀ j, j < n * 6 → w.frozen? ⟨b, o + j, none⟩ = false) :
   (Builtin.clear_ #[t] ty #[.slice (some ⟨b, o, none⟩) n c]).run Tryz.prog w = .ok (.tuple #[]) (w.setCells b o (Builtin.zeroCells z.cells n).toList) := by
 have hl : (Builtin.zeroCells z.cells n).toList.length = n * 6 := by simp [Builtin.zeroCells, hz]
 have ho : ∀ v ∈ (Builtin.zeroCells z.cells n).toList, v.oneCell' = true := by
   intro v hv
   simp [Builtin.zeroCells] at hv
   obtain ⟨i, hi, hv2⟩ := hv
   have hlt : i % z.cells.size < z.cells.size := Nat.mod_lt _ (by omega)
   rw [getElem!_pos z.cells _ hlt] at hv2
   rw [← hv2]
   exact h1 _ (Array.getElem_mem _)
 have hst := run_storeCells_cells (P := Tryz.prog) b o (Builtin.zeroCells z.cells n).toList 0 w (by rw [hl]; simpa using hc) (by rw [hl]; simpa using hf) ho
 simp only [Nat.add_zero] at hst
 obtain ⟨m, rfl⟩ : ∃ m, n = m + 1 := ⟨n - 1, by omega⟩
 simp [Builtin.clear_, run_underlying ht, hv, hst]
set_option maxRecDepth 100000 in
set_option maxHeartbeats 8000000 in
theorem idx_nil (F : Value) (w : World) : Calls Tryz.prog 187 #[.slice none 0 0, F] w fun e w' => e = .returned (.int .i64 (-1)) ∧ w = w' := by
 go_enter Tryz.func187, Tryz.ntmps187
 go_wp2_with fail
 go_loopw [8] (fun s8 wr => s8 = .int .i64 0 ∧ w = wr) (fun _ _ => 0)
 case atStart => exact ⟨rfl, rfl⟩
 case round =>
   obtain ⟨rfl, rfl⟩ := hrel
   go_wp2_with fail
   go_ret
   exact ⟨rfl, rfl⟩
set_option maxRecDepth 100000 in
set_option maxHeartbeats 8000000 in
theorem del_nil (F : Value) (w : World) : Calls Tryz.prog 132 #[.slice none 0 0, F] w fun e w' => e = .returned (.slice none 0 0) ∧ w = w' := by
 go_enter Tryz.func132, Tryz.ntmps132
 go_wp2_with (go_at_call 187; refine (idx_nil _ _).mono ?_; rintro e w1 ⟨rfl, rfl⟩)
 go_ret
 exact ⟨rfl, rfl⟩
set_option maxRecDepth 100000 in
set_option maxHeartbeats 16000000 in
theorem del_own (B : Nat) (E : Int) (ga g cap n : Nat) (w : World) (L : List Qu) (cur : Array Value) (hBg : B ≤ g) (hBw : B ≤ w.heap.size) (hE : Blk w ga i8T #[.int .i64 E]) (hb : Blk w g quT cur) (hn : n = L.length) (hs : n ≤ 100000) (hnc : n ≤ cap) (hcm : cap ≤ maxLen) (hsz : cur.size = cap * 6) (hx : ∀ i, i < L.length * 6 → cur[i]? = (flatU L)[i]?) :
   Calls Tryz.prog 132 #[.slice (some ⟨g, 0, none⟩) n cap, .func (.func 133) #[] #[.pointer (some ⟨ga, 0, none⟩)]] w fun e w' =>
     ∃ cur' : Array Value, e = .returned (.slice (some ⟨g, 0, none⟩) (keepQ E L).length cap) ∧ Blk w' g quT cur' ∧ cur'.size = cap * 6 ∧ (∀ k, k < (keepQ E L).length * 6 → cur'[k]? = (flatU (keepQ E L))[k]?) ∧ Below B w w' := by
 subst hn
 obtain ⟨n, hn⟩ : ∃ n, L.length = n := ⟨_, rfl⟩
 rw [hn] at hs hx hnc ⊢
 have hng : ga ≠ g := hE.other hb (by decide)
 have HN := Lib.hid hn
 have HX := Lib.hid hx
 have HB := Lib.hid hb
 have HE := Lib.hid hE
 have HSZ := Lib.hid hsz
 have HBG := Lib.hid hBg
 have HBW := Lib.hid hBw
 have HNG := Lib.hid hng
 have HCM := Lib.hid hcm
 have HNC := Lib.hid hnc
 clear hx hb hE hn hsz hBg hBw hng hcm hnc
 go_enter Tryz.func132, Tryz.ntmps132
 go_wp2_with fail
 refine (idx_own E ga g cap n _ L cur HE.out HB.out HN.out.symm hs (by rw [HN.out]; exact HX.out)).mono ?_
 rintro e w1 ⟨hg1, ⟨rfl, hno⟩ | ⟨i, hi, rfl, hlo, hno⟩⟩
 · have HG1 := Lib.hid hg1
   have HNO := Lib.hid hno
   clear hg1 hno
   go_wp2_with fail
   go_ret
   have hk : keepQ E L = L := by have := keepQ_all (E := E) (L := L) (j := n) HNO.out (by rw [HN.out]; omega); rw [← HN.out, List.take_length] at this; exact this
   exact ⟨cur, by rw [hk, HN.out]; rfl, HB.out.below_ HG1.out.below HB.out.size, HSZ.out, by rw [hk, HN.out]; exact HX.out, HG1.out.below.mono HBW.out⟩
 · have HG1 := Lib.hid hg1
   have HNO := Lib.hid hno
   have HLO := Lib.hid hlo
   have j0 : ((i : Int) == -1) = false := by rw [beq_eq_false_iff_ne]; omega
   clear hg1 hno hlo
   go_wp2_with fail
   go_loopw [5, 6] (fun s5 s6 wr => ∃ (m j : Nat) (cur1 : Array Value), m < j ∧ j ≤ n ∧ s5 = .int .i64 (m : Int) ∧ s6 = .int .i64 (j : Int) ∧ m = (keepQ E (L.take j)).length ∧ Blk wr g quT cur1 ∧ cur1.size = cap * 6 ∧ (∀ k, k < m * 6 → cur1[k]? = (flatU (keepQ E (L.take j)))[k]?) ∧ (∀ k, j * 6 ≤ k → k < n * 6 → cur1[k]? = (flatU L)[k]?) ∧ Blk wr ga i8T #[.int .i64 E] ∧ Below B w wr) (fun _ j _ => n - (intOf j).toNat)
   case atStart =>
     have hk : keepQ E (L.take (i + 1)) = L.take i := by rw [keepQ_lo (by rw [HN.out]; exact hi) HLO.out]; exact keepQ_all HNO.out (by rw [HN.out]; omega)
     exact ⟨i, i + 1, cur, by omega, by omega, rfl, by go_num, by rw [hk, List.length_take, HN.out]; omega, HB.out.below_ HG1.out.below HB.out.size, HSZ.out, fun k hk2 => by rw [hk, flatU_take (by rw [HN.out]; omega) hk2]; exact HX.out k (by omega), fun k _ hk2 => HX.out k hk2, HE.out.below_ HG1.out.below HE.out.size, HG1.out.below.mono HBW.out⟩
   case round =>
     obtain ⟨m, j, cur1, hmj, hjn, rfl, rfl, hml, hb1, hz1, hlo1, hhi1, hE1, hB1⟩ := hrel
     by_cases hj : j < n
     · obtain ⟨x, hxx⟩ : ∃ x, quAt L j = x := ⟨_, rfl⟩
       have hjl : j < L.length := by rw [HN.out]; exact hj
       obtain ⟨h, ⟨a, b, c, d, e⟩, ix⟩ := x
       have hrow : ∀ q, q < 6 → cur1[j * 6 + q]? = (quRow h a b c d e)[q]? := fun q hq => by
         rw [hhi1 _ (by omega) (by omega), flatU_get L j q hjl hq, show L[j]! = quAt L j from rfl, hxx]; rfl
       obtain ⟨c0, c1, c2, c3, c4, c5⟩ := cells_x hb1 hrow
       have hkey : loQ E (quAt L j) ↔ keyW b c < E := by rw [hxx]; rfl
       have j1 : (j : Int) < (n : Int) := by omega
       have j2 : (0 : Int) ≤ (j : Int) := by omega
       have HML := Lib.hid hml
       have HB1 := Lib.hid hb1
       have HZ1 := Lib.hid hz1
       have HLO1 := Lib.hid hlo1
       have HHI1 := Lib.hid hhi1
       have HE1 := Lib.hid hE1
       have HBL := Lib.hid hB1
       have HKEY := Lib.hid hkey
       have HXX := Lib.hid hxx
       have HJL := Lib.hid hjl
       clear hml hb1 hz1 hlo1 hhi1 hE1 hB1 hkey hxx hjl hrow hi
       have hbw := HB1.out.size
       by_cases hc : keyW b c < E
       · have hd : decide (keyW b c < E) = true := decide_eq_true hc
         go_wp2_with (go_at_call 133; refine (cut_w h a b c d e E ga _ (HE1.out.alloc_ _)).mono ?_; rw [hd]; rintro e w2 ⟨rfl, hg2⟩)
         have hgr : Below wr.heap.size wr w2 := ((Grew.refl _).alloc _ |>.trans hg2).below
         have hk := keepQ_lo HJL.out (HKEY.out.2 hc)
         exact ⟨⟨m, j + 1, cur1, by omega, by omega, rfl, by go_num, by rw [hk]; exact HML.out, HB1.out.below_ hgr HB1.out.size, HZ1.out, by rw [hk]; exact HLO1.out, fun k h1 h2 => HHI1.out k (by omega) h2, HE1.out.below_ hgr HE1.out.size, HBL.out.trans (hgr.mono (Nat.le_trans HBW.out HBL.out.size))⟩, by simp [intOf]; omega⟩
       · have hd : decide (keyW b c < E) = false := decide_eq_false hc
         have hz1 := HZ1.out
         have hnc := HNC.out
         go_wp2_with (go_at_call 133; refine (cut_w h a b c d e E ga _ (HE1.out.alloc_ _)).mono ?_; rw [hd]; rintro e' w2 ⟨rfl, hg2⟩; have hgr : Below wr.heap.size wr w2 := ((Grew.refl _).alloc _ |>.trans hg2).below; have hbx := (Blk.made wr quT (quRow h a b c d e).toArray).below_ hg2.below (Blk.made wr quT (quRow h a b c d e).toArray).size; have hb2 := HB1.out.below_ hgr HB1.out.size; have d0 : w2.cell? ⟨wr.heap.size, 0, none⟩ = some (.int .u64 h) := hbx.val (i := 0) rfl; have d1 : w2.cell? ⟨wr.heap.size, 1, none⟩ = some (.int .u64 a) := hbx.val (i := 1) rfl; have d2 : w2.cell? ⟨wr.heap.size, 2, none⟩ = some (.int .i64 b) := hbx.val (i := 2) rfl; have d3 : w2.cell? ⟨wr.heap.size, 3, none⟩ = some (.int .i64 c) := hbx.val (i := 3) rfl; have d4 : w2.cell? ⟨wr.heap.size, 4, none⟩ = some (.int .i64 d) := hbx.val (i := 4) rfl; have d5 : w2.cell? ⟨wr.heap.size, 5, none⟩ = some (.int .i64 e) := hbx.val (i := 5) rfl; obtain ⟨o0, ho0⟩ : ∃ v, w2.cell? ⟨g, m * 6, none⟩ = some v := ⟨_, by rw [hb2.at_]; exact Array.getElem?_eq_getElem (by omega)⟩; obtain ⟨o1, ho1⟩ : ∃ v, w2.cell? ⟨g, m * 6 + 1, none⟩ = some v := ⟨_, by rw [hb2.at_]; exact Array.getElem?_eq_getElem (by omega)⟩; obtain ⟨o2, ho2⟩ : ∃ v, w2.cell? ⟨g, m * 6 + 2, none⟩ = some v := ⟨_, by rw [hb2.at_]; exact Array.getElem?_eq_getElem (by omega)⟩; obtain ⟨o3, ho3⟩ : ∃ v, w2.cell? ⟨g, m * 6 + 3, none⟩ = some v := ⟨_, by rw [hb2.at_]; exact Array.getElem?_eq_getElem (by omega)⟩; obtain ⟨o4, ho4⟩ : ∃ v, w2.cell? ⟨g, m * 6 + 4, none⟩ = some v := ⟨_, by rw [hb2.at_]; exact Array.getElem?_eq_getElem (by omega)⟩; obtain ⟨o5, ho5⟩ : ∃ v, w2.cell? ⟨g, m * 6 + 5, none⟩ = some v := ⟨_, by rw [hb2.at_]; exact Array.getElem?_eq_getElem (by omega)⟩; have fz := hb2.free; clear hbx)
         have hks := keepQ_hi HJL.out (fun hh => absurd (HKEY.out.1 hh) (by omega))
         have hwB : B ≤ wr.heap.size := Nat.le_trans HBW.out HBL.out.size
         have hgrB := HBL.out.trans (hgr.mono hwB)
         have hpk : Kept (fun k => k = g) w2 (putW w2 g (m * 6) h a b c d e) := putW_kept
         refine ⟨⟨m + 1, j + 1, putU cur1 (m * 6) h a b c d e, by omega, by omega, by go_num, by go_num, ?_, putW_blk hb2, by rw [putU_size]; exact hz1, ?_, fun k h1 h2 => ?_, ?_, ?_⟩, by simp [intOf]; omega⟩
         · rw [hks, List.length_append, ← HML.out]; rfl
         · rw [hks]; exact set_row HXX.out HML.out.symm (by omega) HLO1.out
         · rw [putU_out (.inr (by omega))]; exact HHI1.out k (by omega) h2
         · exact (HE1.out.below_ hgr HE1.out.size).kept hpk HNG.out
         · exact hgrB.trans (kept_below hpk (fun k hk => by rw [hk]; exact HBG.out) (Nat.le_trans hwB hgr.size))
     · obtain rfl : j = n := by omega
       have hkl : keepQ E (L.take j) = keepQ E L := by rw [← HN.out, List.take_length]
       rw [hkl] at hml hlo1
       have hnc := HNC.out
       have hfr : ∀ q, wr.frozen? ⟨g, q, none⟩ = false := fun q => hb1.free q
       have hcl : ∀ ty, (Builtin.clear_ #[167] ty #[.slice (some ⟨g, m * 6, none⟩) (j - m) (cap - m)]).run Tryz.prog wr = .ok (.tuple #[]) (wr.setCells g (m * 6) (Builtin.zeroCells (Value.cells (.agg #[.int .u64 0, .int .u64 0, .int .i64 0, .int .i64 0, .int .i64 0, .int .i64 0])) (j - m)).toList) := fun ty =>
         clear_rows wr _ quT ty _ Tryz.underlying167 Tryz.zeroValue170 rfl (by simp [Value.cells, Value.oneCell']) g (m * 6) (j - m) (cap - m) (by omega) (fun q hq => by rw [hb1.at_, Array.getElem?_eq_getElem (by omega)]; rfl) (fun q hq => hfr _)
       obtain ⟨wz, hwz⟩ : ∃ wz, wr.setCells g (m * 6) (Builtin.zeroCells (Value.cells (.agg #[.int .u64 0, .int .u64 0, .int .i64 0, .int .i64 0, .int .i64 0, .int .i64 0])) (j - m)).toList = wz := ⟨_, rfl⟩
       rw [hwz] at hcl
       obtain ⟨cur2, e1, e2, e3, e4⟩ := cells_blk (Builtin.zeroCells (Value.cells (.agg #[.int .u64 0, .int .u64 0, .int .i64 0, .int .i64 0, .int .i64 0, .int .i64 0])) (j - m)).toList (m * 6) wr cur1 hb1
       rw [hwz] at e3 e4
       have HF := Lib.hid (show _ ∧ _ ∧ _ ∧ _ ∧ _ from ⟨hml, e3, e1.trans hz1, fun k (hk : k < m * 6) => (e2 k hk).trans (hlo1 k hk), hB1.trans (kept_below e4 (fun k hk => by rw [hk]; exact HBG.out) (Nat.le_trans HBW.out hB1.size))⟩)
       clear hml hb1 hz1 hlo1 hhi1 hE1 hB1 hfr hwz e1 e2 e3 e4 hkl hi
       have j1 : ¬ (j : Int) < (j : Int) := by omega
       have j2 : (0 : Int) ≤ (m : Int) := by omega
       have j3 : (m : Int) ≤ (j : Int) := by omega
       go_wp2_with fail
       go_ret
       exact ⟨by rw [← HF.out.1]; rfl, cur2, HF.out.2.1, HF.out.2.2.1, by rw [← HF.out.1]; exact HF.out.2.2.2.1, HF.out.2.2.2.2⟩
theorem cut_own (B : Nat) (E : Int) (ga : Nat) (w : World) (v : Value) (L : List Qu) (hBw : B ≤ w.heap.size) (hE : Blk w ga i8T #[.int .i64 E]) (hs : L.length ≤ 100000) (hown : w.ownsRow B quT 6 v L.length (flatU L)) :
   Calls Tryz.prog 132 #[v, .func (.func 133) #[] #[.pointer (some ⟨ga, 0, none⟩)]] w fun e w' =>
     ∃ v', e = .returned v' ∧ w'.ownsRow B quT 6 v' (keepQ E L).length (flatU (keepQ E L)) ∧ Below B w w' := by
 rcases hown.2 with ⟨rfl, h0⟩ | ⟨g, cap, cur, rfl, hg, hb, h1, h2, h3, h4⟩
 · obtain rfl : L = [] := by simpa using h0
   refine (del_nil _ w).mono ?_
   rintro e w' ⟨rfl, rfl⟩
   exact ⟨_, rfl, hown, Below.refl _ _⟩
 · have hx : ∀ i, i < L.length * 6 → cur[i]? = (flatU L)[i]? := fun i hi => by rw [← h4, List.getElem?_take_of_lt hi, Array.getElem?_toList]
   refine (del_own B E ga g cap L.length w L cur hg hBw hE hb rfl hs h1 h2 h3 hx).mono ?_
   rintro e w' ⟨cur', rfl, hb2, hz2, hx2, hbl⟩
   have hle : (keepQ E L).length ≤ L.length := List.length_filter_le _ _
   refine ⟨_, rfl, ⟨flatU_len _, .inr ⟨g, cap, cur', rfl, hg, hb2, by omega, h2, hz2, ?_⟩⟩, hbl⟩
   apply List.ext_getElem?
   intro i
   by_cases hi : i < (keepQ E L).length * 6
   · rw [List.getElem?_take_of_lt hi, Array.getElem?_toList]; exact hx2 i hi
   · rw [List.getElem?_eq_none (by rw [List.length_take]; omega), List.getElem?_eq_none (by rw [flatU_len]; omega)]
end Go.Proofs.YtcffeokbipjaoaaGreat
namespace Go.Proofs.YtcffeokbipjaoaaGreat
open Go.ChangeShapes Go.WideShapes Go.RowKit Kn
set_option linter.unusedVariables false
set_option linter.unusedSimpArgs false
section
variable {w w' w'' : World} {p q gc gm l g b : Nat} {r r' : Option Nat} {O Oq Oq' O1 : Nat → Prop} {S S' : Cor} {T : TypeId} {cs : Array Value}
set_option maxRecDepth 100000 in
set_option maxHeartbeats 4000000 in
theorem co_end_idle (h : CoreL w p O S) (hph : S.ph ≠ 1) :
   Calls Tryz.prog 47 #[.pointer (some ⟨p, 0, none⟩)] w fun e w' => e = .returned (.tuple #[]) ∧ Below w.heap.size w w' := by
 obtain ⟨q, gc, gm, l, r, Oq, h1, -⟩ := h.cells
 have c23 := h1.c23
 have h2 : (S.ph == 1) = false := by rw [beq_eq_false_iff_ne]; exact hph
 have h3 : (S.ph != 1) = true := by rw [bne, h2]; rfl
 have h4 : decide (S.ph = 1) = false := decide_eq_false hph
 clear h h1
 go_enter Tryz.func47, Tryz.ntmps47
 go_upto_region 0 with fail
 go_quiet (fail)
 go_wp2
 exact bodyPost_ret (results_none rfl _ _ _) rfl ⟨rfl, ⟨rfl, rfl, rfl, Nat.le_refl _, fun _ _ => rfl⟩⟩
set_option maxRecDepth 100000 in
set_option maxHeartbeats 4000000 in
theorem co_end_wait (h : CoreL w p O S) (hph : S.ph = 1) (hc : S.clk < S.lim) (hq : S.q.m < S.n) :
   Calls Tryz.prog 47 #[.pointer (some ⟨p, 0, none⟩)] w fun e w' => e = .returned (.tuple #[]) ∧ Below w.heap.size w w' := by
 obtain ⟨q, gc, gm, l, r, Oq, h1, -⟩ := h.cells
 have c23 := h1.c23
 have c24 := h1.c24
 have c25 := h1.c25
 have c16 := h1.c16
 have hp : p < w.heap.size := h1.head.size
 rw [hph] at c23
 have HQ := Lib.hid h1.que
 obtain ⟨x, hx⟩ : ∃ x, (S.n : Int) - S.q.m = x := ⟨_, rfl⟩
 have hx2 : decide (0 < x) = true := decide_eq_true (by omega)
 have hx3 : decide (S.clk < S.lim) = true := decide_eq_true hc
 have hx4 : 0 < x := by omega
 have HX := Lib.hid hx
 clear h h1 hx
 go_enter Tryz.func47, Tryz.ntmps47
 go_upto_region 0 with fail
 go_region_held3 (fun w' => w'.cell? ⟨p, 16, none⟩ = some (.pointer (some ⟨q, 0, none⟩)) ∧ w'.cell? ⟨p, 23, none⟩ = some (.int .u8 1) ∧ w'.cell? ⟨p, 24, none⟩ = some (.int .i64 S.lim) ∧ w'.cell? ⟨p, 25, none⟩ = some (.int .i64 S.clk)) (repeat (first | with_reducible assumption | refine ⟨?_, ?_⟩ | with_reducible refine kdrew ?_)) (first | (go_at_call 87; refine (tq_len (HQ.out.below (Below.drew (Below.refl _ _))).toL).mono ?_; rw [HX.out]; rintro e w1 ⟨rfl, hb⟩; have d1 : w1.cell? ⟨p, 16, none⟩ = some (.pointer (some ⟨q, 0, none⟩)) := (hb.cell hp).trans c16; have d2 : w1.cell? ⟨p, 23, none⟩ = some (.int .u8 1) := (hb.cell hp).trans c23; have d3 : w1.cell? ⟨p, 24, none⟩ = some (.int .i64 S.lim) := (hb.cell hp).trans c24; have d4 : w1.cell? ⟨p, 25, none⟩ = some (.int .i64 S.clk) := (hb.cell hp).trans c25; have HB := Lib.hid hb; clear hb))
 go_wp2
 exact bodyPost_ret (results_none rfl _ _ _) rfl ⟨rfl, (Below.drew (Below.refl _ _)).trans HB.out⟩
end
end Go.Proofs.YtcffeokbipjaoaaGreat
