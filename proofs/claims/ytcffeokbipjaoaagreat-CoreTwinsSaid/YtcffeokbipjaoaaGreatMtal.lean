/- Texts of this claim, one behind the other: Hpr Hps Hpt Hpu. -/
import Derived.Test.YtcffeokbipjaoaaGreatMtae
import Derived.Test.YtcffeokbipjaoaaGreatMtak
namespace Go.Proofs.YtcffeokbipjaoaaGreat
open Go.ChangeShapes Go.WideShapes Go.RowKit Go.Sort Go.Lib
set_option linter.unusedVariables false
set_option linter.unusedSimpArgs false
def flatL (L : List En) : List Value := L.flatMap entRow
theorem flatL_len (L : List En) : (flatL L).length = L.length * 3 := by
 unfold flatL
 induction L with
 | nil => rfl
 | cons a l ih => rw [List.flatMap_cons, List.length_append, ih, List.length_cons]; simp [entRow]; omega
theorem flatE_L (E : Nat → En) (l : List Nat) : flatE E l = flatL (l.map E) := by
 unfold flatE flatL
 rw [List.flatMap_map]
theorem flatL_get : ∀ (L : List En) (i j : Nat), i < L.length → j < 3 → (flatL L)[i * 3 + j]? = (entRow L[i]!)[j]?
 | [], i, j, hi, _ => by simp at hi
 | a :: L, 0, j, _, hj => by
   unfold flatL
   rw [List.flatMap_cons, List.getElem?_append_left (by simp [entRow]; omega)]
   simp
 | a :: L, i + 1, j, hi, hj => by
   have h := flatL_get L i j (by simpa using hi) hj
   unfold flatL at h ⊢
   rw [List.flatMap_cons, List.getElem?_append_right (by simp [entRow]; omega)]
   rw [show (i + 1) * 3 + j - (entRow a).length = i * 3 + j from by simp [entRow]; omega, h]
   simp
section
variable {w w' : World} {B k : Nat} {v : Value} {L : List En}
theorem flat_holds {g cap : Nat} {cur : Array Value} {L0 : List En} (hb : Blk w g 270 cur) (hx : ∀ i, i < L0.length * 3 → cur[i]? = (flatL L0)[i]?) : HoldsK entRow 3 w g 0 L0.toArray := by
 intro j hj
 rw [size_flatK] at hj
 have hj' : j < L0.length * 3 := by simpa using hj
 refine ⟨?_, hb.free _⟩
 rw [hb.at_, Nat.zero_add, hx j hj', get_flatK _ _ _ _ hj]
 have hd : j = (j / 3) * 3 + j % 3 := by omega
 have h := flatL_get L0 (j / 3) (j % 3) (by omega) (by omega)
 rw [← hd] at h
 rw [h]
 have hjd : j / 3 < L0.length := by omega
 have e1 : (L0.toArray)[j / 3]! = L0[j / 3]! := by simp [hjd]
 rw [e1]
 have : j % 3 < 3 := Nat.mod_lt _ (by decide)
 generalize j % 3 = r at this
 match r, this with
 | 0, _ => rfl
 | 1, _ => rfl
 | 2, _ => rfl
theorem map_block (w : World) (g : Nat) (f : Array Value → Array Value) {c : Array Value} {e : TypeId} (h : Blk w g e c) : Blk (mapBlock w g f) g e (f c) := by
 unfold Blk at h ⊢
 simp [mapBlock, Array.getElem?_modify, h, onCells]
theorem map_far (w : World) (g : Nat) (f : Array Value → Array Value) {i : Nat} (h : i ≠ g) : (mapBlock w g f).heap[i]? = w.heap[i]? := by
 simp [mapBlock, Array.getElem?_modify, Ne.symm h]
theorem sortW_block (w : World) (g n : Nat) (d : Array En) (os : Array Obj) {c : Array Value} {e : TypeId} (h : Blk w g e c) : ∃ c', c'.size = c.size ∧ Blk (sortWorldK entRow 3 w g 0 n d os) g e c' := by
 have h1 : Blk (Sort.ahead w n) g e c := h
 have h2 := map_block (Sort.ahead w n) g (putCells id 0 (flatK entRow 3 d)) h1
 refine ⟨putCells id 0 (flatK entRow 3 d) c, by simp [putCells], ?_⟩
 have h3 : (grow (mapBlock (Sort.ahead w n) g (putCells id 0 (flatK entRow 3 d))) os).heap[g]? = _ := heap_grow_old _ _ h2.size
 exact h3.trans h2
theorem sortW_below (w : World) (g n : Nat) (d : Array En) (os : Array Obj) (hB : B ≤ g) (hw : B ≤ w.heap.size) : RowKit.Below B w (sortWorldK entRow 3 w g 0 n d os) := by
 have hs : (mapBlock (Sort.ahead w n) g (putCells id 0 (flatK entRow 3 d))).heap.size = w.heap.size := by simp [mapBlock, Sort.ahead]
 refine ⟨rfl, rfl, rfl, ?_, fun i hi => ?_⟩
 · show w.heap.size ≤ (grow (mapBlock (Sort.ahead w n) g (putCells id 0 (flatK entRow 3 d))) os).heap.size
   rw [size_grow, hs]; omega
 · show (grow (mapBlock (Sort.ahead w n) g (putCells id 0 (flatK entRow 3 d))) os).heap[i]? = _
   rw [heap_grow_old _ _ (by rw [hs]; omega), map_far _ _ _ (by omega)]
   rfl
theorem hsort_own {L0 : List En} (w : World) (hw : B ≤ w.heap.size) (hk : k = L0.length) (hs : k ≤ 100000) (hown : w.ownsRow B 270 3 v k (flatL L0)) :
   Calls Tryz.prog 160 #[v, .func (.func 161) #[] #[]] w fun e w' => e = .returned (.tuple #[]) ∧ ∃ L, L.Perm L0 ∧ L.Pairwise (fun a b => ¬ ltE b a) ∧ w'.ownsRow B 270 3 v k (flatL L) ∧ RowKit.Below B w w' := by
 subst hk
 rcases hown.2 with ⟨rfl, h0⟩ | ⟨g, cap, cur, rfl, hg, hb, h1, h2, h3, h4⟩
 · obtain rfl : L0 = [] := by simpa using h0
   refine (hsort_nil w _).mono ?_
   rintro e w' ⟨rfl, rfl⟩
   exact ⟨rfl, [], List.Perm.refl _, List.Pairwise.nil, hown, RowKit.Below.refl _ _⟩
 · have hb' : Blk w g 270 cur := hb
   have hx : ∀ i, i < L0.length * 3 → cur[i]? = (flatL L0)[i]? := fun i hi => by rw [← h4, List.getElem?_take_of_lt hi, Array.getElem?_toList]
   have hH := flat_holds (cap := cap) hb' hx
   have hc := hsort w g cap L0.toArray hH hb'.size (by simpa using hs)
   rw [List.size_toArray] at hc
   refine hc.mono ?_
   rintro e w' ⟨rfl, d', n, os, hp, hso, rfl⟩
   obtain ⟨hds, _, hpe⟩ := hp
   have hd'l : d'.toList.length = L0.length := by simpa using hds
   have hds2 : d'.size = L0.length := by simpa using hds
   have hperm : d'.toList.Perm L0 := by
     have e1 : d'.extract 0 L0.length = d' := by rw [show L0.length = d'.size from by simpa using hds.symm]; simp
     have e2 : L0.toArray.extract 0 L0.length = L0.toArray := by rw [show L0.length = L0.toArray.size from by simp]; simp
     rw [e1, e2] at hpe
     simpa using hpe
   refine ⟨rfl, d'.toList, hperm, ?_, ?_, sortW_below w g n d' os hg hw⟩
   · rw [List.pairwise_iff_getElem]
     intro i j hi hj hij
     have hso' := hso i j (Nat.zero_le _) hij (by omega)
     have hi' : i < d'.size := by simpa using hi
     have hj' : j < d'.size := by simpa using hj
     rw [getElem!_pos d' i hi', getElem!_pos d' j hj'] at hso'
     unfold ltOf at hso'
     rw [decide_eq_false_iff_not, cmpE_neg] at hso'
     simpa using hso'
   · obtain ⟨c', hc', hb2⟩ := sortW_block w g n d' os hb'
     have hH2 := holdsK_sortWorldK_c entRow 3 w g 0 L0.toArray d' n os hH hb'.size (by simpa using hds)
     refine ⟨by rw [flatL_len, hd'l], .inr ⟨g, cap, c', rfl, hg, hb2, h1, h2, by rw [hc', h3], ?_⟩⟩
     apply List.ext_getElem?
     intro i
     by_cases hi : i < L0.length * 3
     · rw [List.getElem?_take_of_lt hi, Array.getElem?_toList]
       have hd : i = (i / 3) * 3 + i % 3 := by omega
       have h := (HoldsK.cell hH2 (i := i / 3) (c := i % 3) (by omega) (by omega)).1
       rw [hb2.at_, Nat.zero_add, ← hd] at h
       rw [h]
       have h5 := flatL_get d'.toList (i / 3) (i % 3) (by omega) (by omega)
       rw [← hd] at h5
       rw [h5]
       have hjd : i / 3 < d'.size := by omega
       have e1 : d'.toList[i / 3]! = d'[i / 3]! := by simp [hjd]
       rw [e1]
       have : i % 3 < 3 := Nat.mod_lt _ (by decide)
       generalize i % 3 = r at this
       match r, this with
       | 0, _ => rfl
       | 1, _ => rfl
       | 2, _ => rfl
     · rw [List.getElem?_eq_none (by rw [List.length_take]; omega), List.getElem?_eq_none (by rw [flatL_len, hd'l]; omega)]
theorem own_ent {i : Nat} (h : w.ownsRow B 270 3 v k (flatL L)) (hi : i < k) : ∃ g c, v = .slice (some ⟨g, 0, none⟩) k c ∧ B ≤ g ∧ g < w.heap.size ∧ w.cell? ⟨g, i * 3, none⟩ = some (.int .i64 (L[i]!).k) ∧ w.cell? ⟨g, i * 3 + 1, none⟩ = some (.int .u64 (L[i]!).t) ∧ w.cell? ⟨g, i * 3 + 2, none⟩ = some (.int .i64 (L[i]!).m) := by
 have hl := h.1
 rw [flatL_len] at hl
 rcases h.2 with ⟨_, h1⟩ | ⟨g, cap, cur, rfl, hb, hg, h1, h2, h3, h4⟩
 · omega
 · have hb' : Blk w g 270 cur := hg
   have hx : ∀ j, j < 3 → w.cell? ⟨g, i * 3 + j, none⟩ = (entRow L[i]!)[j]? := fun j hj => by
     rw [hb'.at_, ← flatL_get L i j (by omega) hj, ← h4, List.getElem?_take_of_lt (by omega), Array.getElem?_toList]
   exact ⟨g, cap, rfl, hb, hb'.size, hx 0 (by omega), hx 1 (by omega), hx 2 (by omega)⟩
end
end Go.Proofs.YtcffeokbipjaoaaGreat
namespace Go.Proofs.YtcffeokbipjaoaaGreat
open Go.ChangeShapes Go.WideShapes Go.RowKit
set_option linter.unusedVariables false
set_option linter.unusedSimpArgs false
structure DueL (n : Nat) (F : Nat → Option (Int × Int)) (key : Int) (L : List En) : Prop where
 up : L.Pairwise ltE
 mem : ∀ e, e ∈ L ↔ ∃ i : Nat, i < n ∧ e.m = (i : Int) ∧ F i = some (e.k, e.t) ∧ e.k ≤ key
section
variable {w w' : World} {p b n m c B k : Nat} {A : Option Addr} {E : Nat → En} {P : Nat → Int} {F : Nat → Option (Int × Int)} {v : Value} {L : List En} {key : Int}
theorem due_of (hl : Links n m E P F) (ho : Ord m E) (hp : L.Perm ((dueI m E key m 0).map E)) (hs : L.Pairwise fun a b => ¬ ltE b a) : DueL n F key L := by
 have hinj : ∀ i j, i ∈ dueI m E key m 0 → j ∈ dueI m E key m 0 → (E i).m = (E j).m → i = j := fun i j hi hj e => hl.one ((dueI_mem ho i).1 hi).1 ((dueI_mem ho j).1 hj).1 e
 have hnd : ∀ l : List Nat, (∀ i j, i ∈ l → j ∈ l → (E i).m = (E j).m → i = j) → l.Nodup → (l.map E).Pairwise fun a b => a.m ≠ b.m := by
   intro l
   induction l with
   | nil => intro _ _; exact List.Pairwise.nil
   | cons a l ih =>
     intro h1 h2
     rw [List.nodup_cons] at h2
     refine List.Pairwise.cons ?_ (ih (fun i j hi hj => h1 i j (List.mem_cons_of_mem _ hi) (List.mem_cons_of_mem _ hj)) h2.2)
     intro x hx
     obtain ⟨j, hj, rfl⟩ := List.mem_map.1 hx
     intro e
     have := h1 a j (List.mem_cons_self ..) (List.mem_cons_of_mem _ hj) e
     subst this
     exact h2.1 hj
 have h1 := hnd _ hinj (dueI_nodup m 0)
 have h2 : L.Pairwise fun a b => a.m ≠ b.m := hp.symm.pairwise h1 (fun h => Ne.symm h)
 refine ⟨?_, fun e => ?_⟩
 · have h3 := hs.and h2
   exact h3.imp fun ⟨a, b⟩ => ltE_total (Ne.symm b) a
 · rw [hp.mem_iff, List.mem_map]
   constructor
   · rintro ⟨j, hj, rfl⟩
     obtain ⟨hjm, hk⟩ := (dueI_mem ho j).1 hj
     obtain ⟨i, hi, ei, pi, fi⟩ := hl.tom j hjm
     exact ⟨i, hi, ei, fi, hk⟩
   · rintro ⟨i, hi, ei, fi, hk⟩
     obtain ⟨j, hj, pj, ej⟩ := hl.get hi fi
     have : E j = e := by rw [ej, ← ei]
     exact ⟨j, (dueI_mem ho j).2 ⟨hj, by rw [this]; exact hk⟩, this⟩
theorem sorted_one : ∀ {l l' : List En}, l.Pairwise ltE → l'.Pairwise ltE → (∀ e, e ∈ l ↔ e ∈ l') → l = l'
 | [], [], _, _, _ => rfl
 | [], b :: l', _, _, h => absurd ((h b).2 (List.mem_cons_self ..)) (by simp)
 | a :: l, [], _, _, h => absurd ((h a).1 (List.mem_cons_self ..)) (by simp)
 | a :: l, b :: l', h1, h2, h => by
   rw [List.pairwise_cons] at h1 h2
   have hab : a = b := by
     rcases List.mem_cons.1 ((h a).1 (List.mem_cons_self ..)) with e | e
     · exact e
     · rcases List.mem_cons.1 ((h b).2 (List.mem_cons_self ..)) with e' | e'
       · exact e'.symm
       · exact absurd (h1.1 b e') (ltE_asymm (h2.1 a e))
   subst hab
   congr 1
   refine sorted_one h1.2 h2.2 fun e => ?_
   constructor
   · intro he
     rcases List.mem_cons.1 ((h e).1 (List.mem_cons_of_mem _ he)) with x | x
     · subst x; exact absurd (h1.1 _ he) (ltE_irrefl _)
     · exact x
   · intro he
     rcases List.mem_cons.1 ((h e).2 (List.mem_cons_of_mem _ he)) with x | x
     · subst x; exact absurd (h2.1 _ he) (ltE_irrefl _)
     · exact x
theorem DueL.one {L' : List En} (h : DueL n F key L) (h' : DueL n F key L') : L = L' := sorted_one h.up h'.up fun e => (h.mem e).trans (h'.mem e).symm
theorem HeapIn.under_ (h : HeapIn w p b n A m c E F) (h0 : c = 0 ∨ 0 < c) : Under w.heap.size p b A := by
 obtain ⟨P, h1, h2⟩ := h.at_
 obtain ⟨ps, bp, _, _⟩ := h1.place
 refine ⟨h1.head.size, bp.size, fun x hx => ?_⟩
 rcases h0 with h0 | h0
 · rw [h.nil_ h0] at hx; cases hx
 · obtain ⟨a, cs, e, ba, _⟩ := h1.tree h0
   rw [e] at hx; injection hx with hx; subst hx; exact ba.size
set_option maxRecDepth 20000 in
set_option maxHeartbeats 4000000 in
theorem hdues (w : World) (h : HeapIn w p b n A m c E F) (ho : Ord m E) : Calls Tryz.prog 118 #[.pointer (some ⟨p, 0, none⟩), .int .i64 key] w fun e w' => ∃ g L, DueL n F key L ∧ L.length ≤ 1024 ∧ e = .returned (.slice (some ⟨g, 0, none⟩) L.length L.length) ∧ w'.ownsRow w.heap.size 3 1 (.slice (some ⟨g, 0, none⟩) L.length L.length) L.length (L.map fun e => .int .i64 e.m) ∧ Below w.heap.size w w' := by
 have hu := h.under_ (by omega)
 have hm := h.mn
 have hn := h.n0
 have hdl := dueI_len (m := m) (E := E) (key := key) m 0
 obtain ⟨P, h1, hl⟩ := h.at_
 obtain ⟨D, hD⟩ : ∃ D, dueI m E key m 0 = D := ⟨_, rfl⟩
 rw [hD] at hdl
 have HD := Lib.hid hD
 have HU := Lib.hid hu
 have HH := Lib.hid h
 have HO := Lib.hid ho
 have HL := Lib.hid hl
 clear h1 hl h ho hu hD
 go_enter Tryz.func118, Tryz.ntmps118
 go_wp2_with fail
 refine (hdue key HU.out m 0 _ (.slice none 0 0) 0 [] (by omega) (by omega) (by rw [HD.out]; omega) (Nat.le_refl _) HH.out (World.ownsRow_nil _ _ _ _)).mono ?_
 rw [HD.out]
 rintro e w1 ⟨v1, rfl, o1, b1⟩
 have o1' : w1.ownsRow w.heap.size 270 3 v1 D.length (flatL (D.map E)) := by
   have := o1
   rw [Nat.zero_add, List.nil_append, flatE_L] at this
   exact this
 have O1 := Lib.hid o1'
 have B1 := Lib.hid b1
 clear o1 o1' b1
 go_wp2_with fail
 refine (hsort_own (B := w.heap.size) _ B1.out.size (by simp) (by omega) O1.out).mono ?_
 rintro e w2 ⟨rfl, L, hp, hs, o2, b2⟩
 have hLl : L.length = D.length := by rw [hp.length_eq]; simp
 have hDL : DueL n F key L := due_of HL.out HO.out (by rw [HD.out]; exact hp) hs
 obtain ⟨A2, c2, rfl⟩ := own_form o2
 rw [← hLl] at hdl o2
 have HLl := Lib.hid hLl
 have HDL := Lib.hid hDL
 have O2 := Lib.hid o2
 have B2 := Lib.hid (B1.out.trans b2)
 obtain ⟨k, hk⟩ : ∃ k, L.length = k := ⟨_, rfl⟩
 rw [← hLl]
 rw [hk] at hdl O2 ⊢
 have HK := Lib.hid hk
 clear hp hs o2 b2 hLl hDL O1 B1 hk HLl
 have hmk := run_ints_ k (by omega)
 go_wp2_with fail
 refine wp_worldh (fun wx => (∃ cs, Blk wx w2.heap.size 3 cs ∧ cs.size = k) ∧ wx.ownsRow w.heap.size 270 3 (.slice A2 k c2) k (flatL L) ∧ Below w.heap.size w wx) ⟨⟨_, Blk.made _ _ _, made_size _ _⟩, O2.out.alloc _, B2.out.alloc B2.out.size _⟩ ?_
 have hw2 := B2.out.size
 clear O2 B2 hmk
 rintro w3 ⟨hb, o3, b3⟩
 have HB := Lib.hid hb
 have O3 := Lib.hid o3
 have B3 := Lib.hid b3
 clear hb o3 b3
 go_loopw [19] (fun s19 wr => ∃ i : Nat, i ≤ k ∧ s19 = .int .i64 (i : Int) ∧ (∃ cs, Blk wr w2.heap.size 3 cs ∧ cs.size = k ∧ ∀ j, j < i → cs[j]? = some (.int .i64 (L[j]!).m)) ∧ wr.ownsRow w.heap.size 270 3 (.slice A2 k c2) k (flatL L) ∧ Below w.heap.size w wr) (fun i _ => k - (intOf i).toNat)
 case atStart =>
   obtain ⟨cs, h1, h2⟩ := HB.out
   exact ⟨0, Nat.zero_le _, rfl, ⟨cs, h1, h2, fun j hj => absurd hj (by omega)⟩, O3.out, B3.out⟩
 case round =>
   clear HB O3 B3
   obtain ⟨i, hi, rfl, ⟨cs, hb, hcs, hci⟩, o4, b4⟩ := hrel
   have O4 := Lib.hid o4
   have B4 := Lib.hid b4
   have HB := Lib.hid hb
   have HCI := Lib.hid hci
   clear o4 b4 hb hci
   by_cases hlt : i < k
   · obtain ⟨g, c', hv, hg1, hg2, r0, r1, r2⟩ := own_ent O4.out hlt
     injection hv with hv1 hv2 hv3
     subst hv1 hv3
     obtain ⟨⟨ek, et, em⟩, he⟩ : ∃ e, L[i]! = e := ⟨_, rfl⟩
     rw [he] at r0 r1 r2
     have HE := Lib.hid he
     have i0 : (0 : Int) ≤ (i : Int) := by omega
     have i1 : (i : Int) < (k : Int) := by omega
     clear he
     go_upto_region 7 with fail
     refine wp_worldh (fun wx => wx.cell? ⟨wr.heap.size, 2, none⟩ = some (.int .i64 em) ∧ Blk wx w2.heap.size 3 cs ∧ wx.ownsRow w.heap.size 270 3 (.slice (some ⟨g, 0, none⟩) k c2) k (flatL L) ∧ Below w.heap.size w wx) ⟨(Blk.made _ _ _).val rfl, HB.out.alloc_ _, O4.out.alloc _, B4.out.alloc B4.out.size _⟩ ?_
     clear r0 r1 r2 O4 B4 HB
     rintro w5 ⟨c5, hb5, o5, b5⟩
     have hm0 : w5.cell? ⟨w2.heap.size, i, none⟩ = some cs[i]! := by rw [hb5.at_, getElem!_pos cs i (by omega)]; exact Array.getElem?_eq_getElem (by omega)
     have hm1 := hb5.free i
     have O5 := Lib.hid o5
     have B5 := Lib.hid b5
     have HB5 := Lib.hid hb5
     clear o5 b5 hb5
     go_wp2_with fail
     go_roundw
     case rel =>
       refine ⟨i + 1, by omega, by go_num, ⟨_, HB5.out.set_ i _, by simp [hcs], fun j hj => ?_⟩, own_kept (own := fun g => g = w2.heap.size) O5.out (show Kept (fun g => g = w2.heap.size) w5 (w5.setCell ⟨w2.heap.size, i, none⟩ (.int .i64 em)) from (Kept.refl (fun g => g = w2.heap.size) w5).set_ (p := ⟨w2.heap.size, i, none⟩) (.inl rfl) _) (fun g' cs' hg' e => (Blk.other (t := 3) HB5.out (e ▸ hg') (by decide)) rfl), B5.out.setCell hw2 _⟩
       by_cases hji : j = i
       · subst hji; rw [HE.out]; exact get_set_same (by omega) _
       · rw [get_set_far (Ne.symm hji)]; exact HCI.out j (by omega)
     case measure => simp [intOf]; omega
   · obtain rfl : i = k := by omega
     go_wp2_with fail
     go_ret
     have hkk := HK.out
     subst hkk
     refine ⟨w2.heap.size, L, HDL.out, by omega, rfl, ⟨by simp, .inr ⟨_, _, cs, rfl, hw2, HB.out, Nat.le_refl _, by unfold maxLen; omega, by simpa using hcs, ?_⟩⟩, B4.out⟩
     apply List.ext_getElem?
     intro j
     rw [Nat.mul_one]
     by_cases hj : j < L.length
     · rw [List.getElem?_take_of_lt hj, Array.getElem?_toList, HCI.out j hj, List.getElem?_map, List.getElem?_eq_getElem hj, getElem!_pos L j hj]
       rfl
     · rw [List.getElem?_eq_none (by rw [List.length_take]; omega), List.getElem?_eq_none (by simp; omega)]
end
end Go.Proofs.YtcffeokbipjaoaaGreat
namespace Go.Proofs.YtcffeokbipjaoaaGreat
open Go.RowKit
set_option linter.unusedVariables false
set_option linter.unusedSimpArgs false
structure AllL (n : Nat) (F : Nat → Option (Int × Int)) (L : List En) : Prop where
 up : L.Pairwise ltE
 mem : ∀ e, e ∈ L ↔ ∃ i : Nat, i < n ∧ e.m = (i : Int) ∧ F i = some (e.k, e.t)
open Classical in
noncomputable def insE (e : En) : List En → List En
 | [] => [e]
 | a :: l => if ltE e a then e :: a :: l else a :: insE e l
def remK (i : Int) (L : List En) : List En := L.filter fun e => !decide (e.m = i)
def dueE (key : Int) (L : List En) : List En := L.filter fun e => decide (e.k ≤ key)
def hasE (i : Int) (L : List En) : Bool := L.any fun e => decide (e.m = i)
section
variable {n m : Nat} {F : Nat → Option (Int × Int)} {L : List En} {E : Nat → En} {P : Nat → Int} {e : En}
theorem mem_ins {x : En} : x ∈ insE e L ↔ x = e ∨ x ∈ L := by
 induction L with
 | nil => simp [insE]
 | cons a l ih =>
   unfold insE
   split
   · simp
   · simp only [List.mem_cons, ih]
     constructor
     · rintro (h | h | h) <;> simp [h]
     · rintro (h | h | h) <;> simp [h]
theorem sorted_ins (h : L.Pairwise ltE) (hm : ∀ a ∈ L, a.m ≠ e.m) : (insE e L).Pairwise ltE := by
 induction L with
 | nil => simp [insE]
 | cons a l ih =>
   rw [List.pairwise_cons] at h
   unfold insE
   split
   · rename_i hl
     refine List.Pairwise.cons (fun x hx => ?_) (List.Pairwise.cons h.1 h.2)
     rcases List.mem_cons.1 hx with rfl | hx
     · exact hl
     · exact ltE_trans hl (h.1 x hx)
   · rename_i hl
     refine List.Pairwise.cons (fun x hx => ?_) (ih h.2 fun b hb => hm b (List.mem_cons_of_mem _ hb))
     rcases mem_ins.1 hx with rfl | hx
     · exact ltE_total (Ne.symm (hm a (List.mem_cons_self ..))) hl
     · exact h.1 x hx
theorem hasE_iff {i : Int} : hasE i L = true ↔ ∃ e ∈ L, e.m = i := by unfold hasE; simp
theorem hasE_no {i : Int} : hasE i L = false ↔ ∀ e ∈ L, e.m ≠ i := by unfold hasE; simp
theorem AllL.has (h : AllL n F L) {i : Nat} (hi : i < n) : hasE (i : Int) L = true ↔ ∃ kt, F i = some kt := by
 rw [hasE_iff]
 constructor
 · rintro ⟨e, he, hm⟩
   obtain ⟨j, hj, ej, fj⟩ := (h.mem e).1 he
   have : j = i := by omega
   subst this
   exact ⟨_, fj⟩
 · rintro ⟨⟨k, t⟩, hF⟩
   exact ⟨⟨k, t, i⟩, (h.mem _).2 ⟨i, hi, rfl, hF⟩, rfl⟩
theorem AllL.none_ (h : AllL n F L) {i : Nat} (hi : i < n) (hh : hasE (i : Int) L = false) : F i = none := by
 cases hF : F i with
 | none => rfl
 | some kt => rw [(h.has hi).2 ⟨kt, hF⟩] at hh; cases hh
theorem AllL.some_ (h : AllL n F L) {i : Nat} (hi : i < n) (hh : hasE (i : Int) L = true) : ∃ kt, F i = some kt := (h.has hi).1 hh
theorem AllL.range (h : AllL n F L) : ∀ e ∈ L, 0 ≤ e.m ∧ e.m < (n : Int) := fun e he => by
 obtain ⟨i, hi, ei, _⟩ := (h.mem e).1 he
 omega
theorem AllL.ins (h : AllL n F L) {i : Nat} (hi : i < n) (hF : F i = none) (k t : Int) : AllL n (fun x => if x = i then some (k, t) else F x) (insE ⟨k, t, i⟩ L) := by
 have hno : ∀ a ∈ L, a.m ≠ (i : Int) := fun a ha e => by
   obtain ⟨j, hj, ej, fj⟩ := (h.mem a).1 ha
   have : j = i := by omega
   subst this
   rw [hF] at fj; cases fj
 refine ⟨sorted_ins h.up hno, fun e => ?_⟩
 rw [mem_ins]
 constructor
 · rintro (rfl | he)
   · exact ⟨i, hi, rfl, by simp⟩
   · obtain ⟨j, hj, ej, fj⟩ := (h.mem e).1 he
     have hji : j ≠ i := by intro x; subst x; exact hno e he ej
     exact ⟨j, hj, ej, by show (if j = i then _ else F j) = _; rw [if_neg hji]; exact fj⟩
 · rintro ⟨j, hj, ej, fj⟩
   have fj : (if j = i then some (k, t) else F j) = some (e.k, e.t) := fj
   by_cases hji : j = i
   · subst hji
     rw [if_pos rfl] at fj
     injection fj with fj
     injection fj with f1 f2
     left
     obtain ⟨a, b, c⟩ := e
     simp at f1 f2 ej
     simp [f1, f2, ej]
   · rw [if_neg hji] at fj
     exact .inr ((h.mem e).2 ⟨j, hj, ej, fj⟩)
theorem AllL.rem (h : AllL n F L) {i : Nat} (hi : i < n) : AllL n (fun x => if x = i then none else F x) (remK (i : Int) L) := by
 refine ⟨h.up.filter _, fun e => ?_⟩
 unfold remK
 rw [List.mem_filter, h.mem]
 constructor
 · rintro ⟨⟨j, hj, ej, fj⟩, hne⟩
   have hji : j ≠ i := by intro x; subst x; simp [ej] at hne
   exact ⟨j, hj, ej, by show (if j = i then _ else F j) = _; rw [if_neg hji]; exact fj⟩
 · rintro ⟨j, hj, ej, fj⟩
   have fj : (if j = i then none else F j) = some (e.k, e.t) := fj
   by_cases hji : j = i
   · rw [if_pos hji] at fj; cases fj
   · rw [if_neg hji] at fj
     exact ⟨⟨j, hj, ej, fj⟩, by simp; omega⟩
theorem AllL.due (h : AllL n F L) (key : Int) : DueL n F key (dueE key L) := by
 refine ⟨h.up.filter _, fun e => ?_⟩
 unfold dueE
 rw [List.mem_filter, h.mem]
 constructor
 · rintro ⟨⟨j, hj, ej, fj⟩, hk⟩
   exact ⟨j, hj, ej, fj, by simpa using hk⟩
 · rintro ⟨j, hj, ej, fj, hk⟩
   exact ⟨⟨j, hj, ej, fj⟩, by simpa using hk⟩
theorem AllL.empty (n : Nat) : AllL n (fun _ => none) [] := ⟨List.Pairwise.nil, fun e => by simp⟩
theorem up_nodup (h : L.Pairwise ltE) : L.Nodup := h.imp fun {a b} h e => by subst e; exact ltE_irrefl _ h
theorem AllL.len (h : AllL n F L) (hl : Links n m E P F) : L.length = m := by
 have h1 : ((List.range m).map E).Nodup := by
   rw [List.nodup_iff_pairwise_ne, List.pairwise_map]
   refine List.Pairwise.imp_of_mem ?_ (List.nodup_range)
   intro a b ha hb hne he
   exact hne (hl.one (List.mem_range.1 ha) (List.mem_range.1 hb) (by rw [he]))
 have hp : L.Perm ((List.range m).map E) := by
   rw [List.perm_ext_iff_of_nodup (up_nodup h.up) h1]
   intro e
   rw [h.mem, List.mem_map]
   constructor
   · rintro ⟨i, hi, ei, fi⟩
     obtain ⟨j, hj, pj, ej⟩ := hl.get hi fi
     exact ⟨j, List.mem_range.2 hj, by rw [ej, ← ei]⟩
   · rintro ⟨j, hj, rfl⟩
     obtain ⟨i, hi, ei, pi, fi⟩ := hl.tom j (List.mem_range.1 hj)
     exact ⟨i, hi, ei, fi⟩
 rw [hp.length_eq]; simp
theorem AllL.head {a : En} {l : List En} (h : AllL n F (a :: l)) (hl : Links n m E P F) (ho : Ord m E) (h0 : 0 < m) : E 0 = a := by
 obtain ⟨i, hi, ei, pi, fi⟩ := hl.tom 0 h0
 have h1 : E 0 ∈ a :: l := (h.mem _).2 ⟨i, hi, ei, fi⟩
 obtain ⟨j, hj, ej, fj⟩ := (h.mem a).1 (List.mem_cons_self ..)
 obtain ⟨q, hq, pq, eq⟩ := hl.get hj fj
 have ha : E q = a := by rw [eq, ← ej]
 rcases List.mem_cons.1 h1 with h2 | h2
 · exact h2
 · have := (List.pairwise_cons.1 h.up).1 _ h2
   rw [← ha] at this
   exact absurd this (ho.first q hq)
end
end Go.Proofs.YtcffeokbipjaoaaGreat
namespace Go.Proofs.YtcffeokbipjaoaaGreat
open Go.ChangeShapes Go.WideShapes Go.RowKit
set_option linter.unusedVariables false
set_option linter.unusedSimpArgs false
structure HeapL (base : Nat) (w : World) (p n : Nat) (L : List En) : Prop where
 ex : ∃ b A m c E F, HeapIn w p b n A m c E F ∧ Ord m E ∧ AllL n F L ∧ base ≤ p ∧ base ≤ b ∧ ∀ x, A = some x → base ≤ x.block
section
variable {w w' : World} {base p n : Nat} {L : List En}
theorem HeapL.below (h : HeapL base w p n L) (hb : Below w.heap.size w w') : HeapL base w' p n L := by
 obtain ⟨b, A, m, c, E, F, h1, h2⟩ := h.ex
 exact ⟨b, A, m, c, E, F, h1.below hb, h2⟩
theorem HeapL.size (h : HeapL base w p n L) : base ≤ w.heap.size := by
 obtain ⟨b, A, m, c, E, F, h1, _, _, hp, _⟩ := h.ex
 obtain ⟨P, h3, _⟩ := h1.at_
 have := h3.head.size
 omega
theorem HeapL.len (h : HeapL base w p n L) : L.length ≤ n ∧ n ≤ 1024 := by
 obtain ⟨b, A, m, c, E, F, h1, _, h3, _⟩ := h.ex
 obtain ⟨P, h4, h5⟩ := h1.at_
 rw [h3.len h5]
 exact ⟨h4.mn, h4.n0⟩
theorem HeapL.range (h : HeapL base w p n L) : ∀ e ∈ L, 0 ≤ e.m ∧ e.m < (n : Int) := by
 obtain ⟨b, A, m, c, E, F, h1, _, h3, _⟩ := h.ex
 exact h3.range
theorem HeapL.up (h : HeapL base w p n L) : L.Pairwise ltE := by
 obtain ⟨b, A, m, c, E, F, h1, _, h3, _⟩ := h.ex
 exact h3.up
theorem ldue (key : Int) (w : World) (h : HeapL base w p n L) : Calls Tryz.prog 118 #[.pointer (some ⟨p, 0, none⟩), .int .i64 key] w fun e w' => ∃ g, e = .returned (.slice (some ⟨g, 0, none⟩) (dueE key L).length (dueE key L).length) ∧ w'.ownsRow w.heap.size 3 1 (.slice (some ⟨g, 0, none⟩) (dueE key L).length (dueE key L).length) (dueE key L).length ((dueE key L).map fun e => .int .i64 e.m) ∧ Below w.heap.size w w' := by
 obtain ⟨b, A, m, c, E, F, h1, h2, h3, _⟩ := h.ex
 refine (hdues w h1 h2).mono ?_
 rintro e w' ⟨g, L', hL, hlen, rfl, ho, hb⟩
 obtain rfl := hL.one (h3.due key)
 exact ⟨g, rfl, ho, hb⟩
end
end Go.Proofs.YtcffeokbipjaoaaGreat
