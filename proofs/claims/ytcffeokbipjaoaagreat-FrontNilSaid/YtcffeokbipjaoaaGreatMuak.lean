/- Texts of this claim, one behind the other: Hps Hpt Hpu Tqa. -/
import Derived.Test.YtcffeokbipjaoaaGreatMuab
import Derived.Test.YtcffeokbipjaoaaGreatMuae
import Derived.Test.YtcffeokbipjaoaaGreatMuaf
import Derived.Test.YtcffeokbipjaoaaGreatMuaj
namespace Go.Proofs.YtcffeokbipjaoaaGreat
open Go.ChangeShapes Go.WideShapes Go.RowKit
set_option linter.unusedVariables false
set_option linter.unusedSimpArgs false
structure DueL (n : Nat) (F : Nat → Option (Int × Int)) (key : Int) (L : List En) : Prop where
 up : L.Pairwise ltE
 mem : ∀ e, e ∈ L ↔ ∃ i : Nat, i < n ∧ e.m = (i : Int) ∧ F i = some (e.k, e.t) ∧ e.k ≤ key
section
variable {w w' : World} {p b n m c B k : Nat} {A : Option Addr} {E : Nat → En} {P : Nat → Int} {F : Nat → Option (Int × Int)} {v : Value} {L : List En} {key : Int}
theorem due_of (hl : Links n m E P F) (ho : Ord m E) (hp : L.Perm ((dueI m E key m 0).map E)) (hs : L.Pairwise fun a b => ¬ ltE b a) : DueL n F key L := by
 have hinj : ∀ i j, i ∈ dueI m E key m 0 → j ∈ dueI m E key m 0 → (E i).m = (E j).m → i = j := fun i j hi hj e => hl.one ((dueI_mem ho i).1 hi).1 ((dueI_mem ho j).1 hj).1 e
 have hnd : ∀ l : List Nat, (∀ i j, i ∈ l → j ∈ l → (E i).m = (E j).m → i = j) → l.Nodup → (l.map E).Pairwise fun a b => a.m ≠ b.m := by
   intro l
   induction l with
   | nil => intro _ _; exact List.Pairwise.nil
   | cons a l ih =>
     intro h1 h2
     rw [List.nodup_cons] at h2
     refine List.Pairwise.cons ?_ (ih (fun i j hi hj => h1 i j (List.mem_cons_of_mem _ hi) (List.mem_cons_of_mem _ hj)) h2.2)
     intro x hx
     obtain ⟨j, hj, rfl⟩ := List.mem_map.1 hx
     intro e
     have := h1 a j (List.mem_cons_self ..) (List.mem_cons_of_mem _ hj) e
     subst this
     exact h2.1 hj
 have h1 := hnd _ hinj (dueI_nodup m 0)
 have h2 : L.Pairwise fun a b => a.m ≠ b.m := hp.symm.pairwise h1 (fun h => Ne.symm h)
 refine ⟨?_, fun e => ?_⟩
 · have h3 := hs.and h2
   exact h3.imp fun ⟨a, b⟩ => ltE_total (Ne.symm b) a
 · rw [hp.mem_iff, List.mem_map]
   constructor
   · rintro ⟨j, hj, rfl⟩
     obtain ⟨hjm, hk⟩ := (dueI_mem ho j).1 hj
     obtain ⟨i, hi, ei, pi, fi⟩ := hl.tom j hjm
     exact ⟨i, hi, ei, fi, hk⟩
   · rintro ⟨i, hi, ei, fi, hk⟩
     obtain ⟨j, hj, pj, ej⟩ := hl.get hi fi
     have : E j = e := by rw [ej, ← ei]
     exact ⟨j, (dueI_mem ho j).2 ⟨hj, by rw [this]; exact hk⟩, this⟩
theorem sorted_one : ∀ {l l' : List En}, l.Pairwise ltE → l'.Pairwise ltE → (∀ e, e ∈ l ↔ e ∈ l') → l = l'
 | [], [], _, _, _ => rfl
 | [], b :: l', _, _, h => absurd ((h b).2 (List.mem_cons_self ..)) (by simp)
 | a :: l, [], _, _, h => absurd ((h a).1 (List.mem_cons_self ..)) (by simp)
 | a :: l, b :: l', h1, h2, h => by
   rw [List.pairwise_cons] at h1 h2
   have hab : a = b := by
     rcases List.mem_cons.1 ((h a).1 (List.mem_cons_self ..)) with e | e
     · exact e
     · rcases List.mem_cons.1 ((h b).2 (List.mem_cons_self ..)) with e' | e'
       · exact e'.symm
       · exact absurd (h1.1 b e') (ltE_asymm (h2.1 a e))
   subst hab
   congr 1
   refine sorted_one h1.2 h2.2 fun e => ?_
   constructor
   · intro he
     rcases List.mem_cons.1 ((h e).1 (List.mem_cons_of_mem _ he)) with x | x
     · subst x; exact absurd (h1.1 _ he) (ltE_irrefl _)
     · exact x
   · intro he
     rcases List.mem_cons.1 ((h e).2 (List.mem_cons_of_mem _ he)) with x | x
     · subst x; exact absurd (h2.1 _ he) (ltE_irrefl _)
     · exact x
theorem DueL.one {L' : List En} (h : DueL n F key L) (h' : DueL n F key L') : L = L' := sorted_one h.up h'.up fun e => (h.mem e).trans (h'.mem e).symm
theorem HeapIn.under_ (h : HeapIn w p b n A m c E F) (h0 : c = 0 ∨ 0 < c) : Under w.heap.size p b A := by
 obtain ⟨P, h1, h2⟩ := h.at_
 obtain ⟨ps, bp, _, _⟩ := h1.place
 refine ⟨h1.head.size, bp.size, fun x hx => ?_⟩
 rcases h0 with h0 | h0
 · rw [h.nil_ h0] at hx; cases hx
 · obtain ⟨a, cs, e, ba, _⟩ := h1.tree h0
   rw [e] at hx; injection hx with hx; subst hx; exact ba.size
set_option maxRecDepth 20000 in
set_option maxHeartbeats 4000000 in
theorem hdues (w : World) (h : HeapIn w p b n A m c E F) (ho : Ord m E) : Calls Tryz.prog 118 #[.pointer (some ⟨p, 0, none⟩), .int .i64 key] w fun e w' => ∃ g L, DueL n F key L ∧ L.length ≤ 1024 ∧ e = .returned (.slice (some ⟨g, 0, none⟩) L.length L.length) ∧ w'.ownsRow w.heap.size 3 1 (.slice (some ⟨g, 0, none⟩) L.length L.length) L.length (L.map fun e => .int .i64 e.m) ∧ Below w.heap.size w w' := by
 have hu := h.under_ (by omega)
 have hm := h.mn
 have hn := h.n0
 have hdl := dueI_len (m := m) (E := E) (key := key) m 0
 obtain ⟨P, h1, hl⟩ := h.at_
 obtain ⟨D, hD⟩ : ∃ D, dueI m E key m 0 = D := ⟨_, rfl⟩
 rw [hD] at hdl
 have HD := Lib.hid hD
 have HU := Lib.hid hu
 have HH := Lib.hid h
 have HO := Lib.hid ho
 have HL := Lib.hid hl
 clear h1 hl h ho hu hD
 go_enter Tryz.func118, Tryz.ntmps118
 go_wp2_with fail
 refine (hdue key HU.out m 0 _ (.slice none 0 0) 0 [] (by omega) (by omega) (by rw [HD.out]; omega) (Nat.le_refl _) HH.out (World.ownsRow_nil _ _ _ _)).mono ?_
 rw [HD.out]
 rintro e w1 ⟨v1, rfl, o1, b1⟩
 have o1' : w1.ownsRow w.heap.size 270 3 v1 D.length (flatL (D.map E)) := by
   have := o1
   rw [Nat.zero_add, List.nil_append, flatE_L] at this
   exact this
 have O1 := Lib.hid o1'
 have B1 := Lib.hid b1
 clear o1 o1' b1
 go_wp2_with fail
 refine (hsort_own (B := w.heap.size) _ B1.out.size (by simp) (by omega) O1.out).mono ?_
 rintro e w2 ⟨rfl, L, hp, hs, o2, b2⟩
 have hLl : L.length = D.length := by rw [hp.length_eq]; simp
 have hDL : DueL n F key L := due_of HL.out HO.out (by rw [HD.out]; exact hp) hs
 obtain ⟨A2, c2, rfl⟩ := own_form o2
 rw [← hLl] at hdl o2
 have HLl := Lib.hid hLl
 have HDL := Lib.hid hDL
 have O2 := Lib.hid o2
 have B2 := Lib.hid (B1.out.trans b2)
 obtain ⟨k, hk⟩ : ∃ k, L.length = k := ⟨_, rfl⟩
 rw [← hLl]
 rw [hk] at hdl O2 ⊢
 have HK := Lib.hid hk
 clear hp hs o2 b2 hLl hDL O1 B1 hk HLl
 have hmk := run_ints_ k (by omega)
 go_wp2_with fail
 refine wp_worldh (fun wx => (∃ cs, Blk wx w2.heap.size 3 cs ∧ cs.size = k) ∧ wx.ownsRow w.heap.size 270 3 (.slice A2 k c2) k (flatL L) ∧ Below w.heap.size w wx) ⟨⟨_, Blk.made _ _ _, made_size _ _⟩, O2.out.alloc _, B2.out.alloc B2.out.size _⟩ ?_
 have hw2 := B2.out.size
 clear O2 B2 hmk
 rintro w3 ⟨hb, o3, b3⟩
 have HB := Lib.hid hb
 have O3 := Lib.hid o3
 have B3 := Lib.hid b3
 clear hb o3 b3
 go_loopw [19] (fun s19 wr => ∃ i : Nat, i ≤ k ∧ s19 = .int .i64 (i : Int) ∧ (∃ cs, Blk wr w2.heap.size 3 cs ∧ cs.size = k ∧ ∀ j, j < i → cs[j]? = some (.int .i64 (L[j]!).m)) ∧ wr.ownsRow w.heap.size 270 3 (.slice A2 k c2) k (flatL L) ∧ Below w.heap.size w wr) (fun i _ => k - (intOf i).toNat)
 case atStart =>
   obtain ⟨cs, h1, h2⟩ := HB.out
   exact ⟨0, Nat.zero_le _, rfl, ⟨cs, h1, h2, fun j hj => absurd hj (by omega)⟩, O3.out, B3.out⟩
 case round =>
   clear HB O3 B3
   obtain ⟨i, hi, rfl, ⟨cs, hb, hcs, hci⟩, o4, b4⟩ := hrel
   have O4 := Lib.hid o4
   have B4 := Lib.hid b4
   have HB := Lib.hid hb
   have HCI := Lib.hid hci
   clear o4 b4 hb hci
   by_cases hlt : i < k
   · obtain ⟨g, c', hv, hg1, hg2, r0, r1, r2⟩ := own_ent O4.out hlt
     injection hv with hv1 hv2 hv3
     subst hv1 hv3
     obtain ⟨⟨ek, et, em⟩, he⟩ : ∃ e, L[i]! = e := ⟨_, rfl⟩
     rw [he] at r0 r1 r2
     have HE := Lib.hid he
     have i0 : (0 : Int) ≤ (i : Int) := by omega
     have i1 : (i : Int) < (k : Int) := by omega
     clear he
     go_upto_region 7 with fail
     refine wp_worldh (fun wx => wx.cell? ⟨wr.heap.size, 2, none⟩ = some (.int .i64 em) ∧ Blk wx w2.heap.size 3 cs ∧ wx.ownsRow w.heap.size 270 3 (.slice (some ⟨g, 0, none⟩) k c2) k (flatL L) ∧ Below w.heap.size w wx) ⟨(Blk.made _ _ _).val rfl, HB.out.alloc_ _, O4.out.alloc _, B4.out.alloc B4.out.size _⟩ ?_
     clear r0 r1 r2 O4 B4 HB
     rintro w5 ⟨c5, hb5, o5, b5⟩
     have hm0 : w5.cell? ⟨w2.heap.size, i, none⟩ = some cs[i]! := by rw [hb5.at_, getElem!_pos cs i (by omega)]; exact Array.getElem?_eq_getElem (by omega)
     have hm1 := hb5.free i
     have O5 := Lib.hid o5
     have B5 := Lib.hid b5
     have HB5 := Lib.hid hb5
     clear o5 b5 hb5
     go_wp2_with fail
     go_roundw
     case rel =>
       refine ⟨i + 1, by omega, by go_num, ⟨_, HB5.out.set_ i _, by simp [hcs], fun j hj => ?_⟩, own_kept (own := fun g => g = w2.heap.size) O5.out (show Kept (fun g => g = w2.heap.size) w5 (w5.setCell ⟨w2.heap.size, i, none⟩ (.int .i64 em)) from (Kept.refl (fun g => g = w2.heap.size) w5).set_ (p := ⟨w2.heap.size, i, none⟩) (.inl rfl) _) (fun g' cs' hg' e => (Blk.other (t := 3) HB5.out (e ▸ hg') (by decide)) rfl), B5.out.setCell hw2 _⟩
       by_cases hji : j = i
       · subst hji; rw [HE.out]; exact get_set_same (by omega) _
       · rw [get_set_far (Ne.symm hji)]; exact HCI.out j (by omega)
     case measure => simp [intOf]; omega
   · obtain rfl : i = k := by omega
     go_wp2_with fail
     go_ret
     have hkk := HK.out
     subst hkk
     refine ⟨w2.heap.size, L, HDL.out, by omega, rfl, ⟨by simp, .inr ⟨_, _, cs, rfl, hw2, HB.out, Nat.le_refl _, by unfold maxLen; omega, by simpa using hcs, ?_⟩⟩, B4.out⟩
     apply List.ext_getElem?
     intro j
     rw [Nat.mul_one]
     by_cases hj : j < L.length
     · rw [List.getElem?_take_of_lt hj, Array.getElem?_toList, HCI.out j hj, List.getElem?_map, List.getElem?_eq_getElem hj, getElem!_pos L j hj]
       rfl
     · rw [List.getElem?_eq_none (by rw [List.length_take]; omega), List.getElem?_eq_none (by simp; omega)]
end
end Go.Proofs.YtcffeokbipjaoaaGreat
namespace Go.Proofs.YtcffeokbipjaoaaGreat
open Go.RowKit
set_option linter.unusedVariables false
set_option linter.unusedSimpArgs false
structure AllL (n : Nat) (F : Nat → Option (Int × Int)) (L : List En) : Prop where
 up : L.Pairwise ltE
 mem : ∀ e, e ∈ L ↔ ∃ i : Nat, i < n ∧ e.m = (i : Int) ∧ F i = some (e.k, e.t)
open Classical in
noncomputable def insE (e : En) : List En → List En
 | [] => [e]
 | a :: l => if ltE e a then e :: a :: l else a :: insE e l
def remK (i : Int) (L : List En) : List En := L.filter fun e => !decide (e.m = i)
def dueE (key : Int) (L : List En) : List En := L.filter fun e => decide (e.k ≤ key)
def hasE (i : Int) (L : List En) : Bool := L.any fun e => decide (e.m = i)
section
variable {n m : Nat} {F : Nat → Option (Int × Int)} {L : List En} {E : Nat → En} {P : Nat → Int} {e : En}
theorem mem_ins {x : En} : x ∈ insE e L ↔ x = e ∨ x ∈ L := by
 induction L with
 | nil => simp [insE]
 | cons a l ih =>
   unfold insE
   split
   · simp
   · simp only [List.mem_cons, ih]
     constructor
     · rintro (h | h | h) <;> simp [h]
     · rintro (h | h | h) <;> simp [h]
theorem sorted_ins (h : L.Pairwise ltE) (hm : ∀ a ∈ L, a.m ≠ e.m) : (insE e L).Pairwise ltE := by
 induction L with
 | nil => simp [insE]
 | cons a l ih =>
   rw [List.pairwise_cons] at h
   unfold insE
   split
   · rename_i hl
     refine List.Pairwise.cons (fun x hx => ?_) (List.Pairwise.cons h.1 h.2)
     rcases List.mem_cons.1 hx with rfl | hx
     · exact hl
     · exact ltE_trans hl (h.1 x hx)
   · rename_i hl
     refine List.Pairwise.cons (fun x hx => ?_) (ih h.2 fun b hb => hm b (List.mem_cons_of_mem _ hb))
     rcases mem_ins.1 hx with rfl | hx
     · exact ltE_total (Ne.symm (hm a (List.mem_cons_self ..))) hl
     · exact h.1 x hx
theorem hasE_iff {i : Int} : hasE i L = true ↔ ∃ e ∈ L, e.m = i := by unfold hasE; simp
theorem hasE_no {i : Int} : hasE i L = false ↔ ∀ e ∈ L, e.m ≠ i := by unfold hasE; simp
theorem AllL.has (h : AllL n F L) {i : Nat} (hi : i < n) : hasE (i : Int) L = true ↔ ∃ kt, F i = some kt := by
 rw [hasE_iff]
 constructor
 · rintro ⟨e, he, hm⟩
   obtain ⟨j, hj, ej, fj⟩ := (h.mem e).1 he
   have : j = i := by omega
   subst this
   exact ⟨_, fj⟩
 · rintro ⟨⟨k, t⟩, hF⟩
   exact ⟨⟨k, t, i⟩, (h.mem _).2 ⟨i, hi, rfl, hF⟩, rfl⟩
theorem AllL.none_ (h : AllL n F L) {i : Nat} (hi : i < n) (hh : hasE (i : Int) L = false) : F i = none := by
 cases hF : F i with
 | none => rfl
 | some kt => rw [(h.has hi).2 ⟨kt, hF⟩] at hh; cases hh
theorem AllL.some_ (h : AllL n F L) {i : Nat} (hi : i < n) (hh : hasE (i : Int) L = true) : ∃ kt, F i = some kt := (h.has hi).1 hh
theorem AllL.range (h : AllL n F L) : ∀ e ∈ L, 0 ≤ e.m ∧ e.m < (n : Int) := fun e he => by
 obtain ⟨i, hi, ei, _⟩ := (h.mem e).1 he
 omega
theorem AllL.ins (h : AllL n F L) {i : Nat} (hi : i < n) (hF : F i = none) (k t : Int) : AllL n (fun x => if x = i then some (k, t) else F x) (insE ⟨k, t, i⟩ L) := by
 have hno : ∀ a ∈ L, a.m ≠ (i : Int) := fun a ha e => by
   obtain ⟨j, hj, ej, fj⟩ := (h.mem a).1 ha
   have : j = i := by omega
   subst this
   rw [hF] at fj; cases fj
 refine ⟨sorted_ins h.up hno, fun e => ?_⟩
 rw [mem_ins]
 constructor
 · rintro (rfl | he)
   · exact ⟨i, hi, rfl, by simp⟩
   · obtain ⟨j, hj, ej, fj⟩ := (h.mem e).1 he
     have hji : j ≠ i := by intro x; subst x; exact hno e he ej
     exact ⟨j, hj, ej, by show (if j = i then _ else F j) = _; rw [if_neg hji]; exact fj⟩
 · rintro ⟨j, hj, ej, fj⟩
   have fj : (if j = i then some (k, t) else F j) = some (e.k, e.t) := fj
   by_cases hji : j = i
   · subst hji
     rw [if_pos rfl] at fj
     injection fj with fj
     injection fj with f1 f2
     left
     obtain ⟨a, b, c⟩ := e
     simp at f1 f2 ej
     simp [f1, f2, ej]
   · rw [if_neg hji] at fj
     exact .inr ((h.mem e).2 ⟨j, hj, ej, fj⟩)
theorem AllL.rem (h : AllL n F L) {i : Nat} (hi : i < n) : AllL n (fun x => if x = i then none else F x) (remK (i : Int) L) := by
 refine ⟨h.up.filter _, fun e => ?_⟩
 unfold remK
 rw [List.mem_filter, h.mem]
 constructor
 · rintro ⟨⟨j, hj, ej, fj⟩, hne⟩
   have hji : j ≠ i := by intro x; subst x; simp [ej] at hne
   exact ⟨j, hj, ej, by show (if j = i then _ else F j) = _; rw [if_neg hji]; exact fj⟩
 · rintro ⟨j, hj, ej, fj⟩
   have fj : (if j = i then none else F j) = some (e.k, e.t) := fj
   by_cases hji : j = i
   · rw [if_pos hji] at fj; cases fj
   · rw [if_neg hji] at fj
     exact ⟨⟨j, hj, ej, fj⟩, by simp; omega⟩
theorem AllL.due (h : AllL n F L) (key : Int) : DueL n F key (dueE key L) := by
 refine ⟨h.up.filter _, fun e => ?_⟩
 unfold dueE
 rw [List.mem_filter, h.mem]
 constructor
 · rintro ⟨⟨j, hj, ej, fj⟩, hk⟩
   exact ⟨j, hj, ej, fj, by simpa using hk⟩
 · rintro ⟨j, hj, ej, fj, hk⟩
   exact ⟨⟨j, hj, ej, fj⟩, by simpa using hk⟩
theorem AllL.empty (n : Nat) : AllL n (fun _ => none) [] := ⟨List.Pairwise.nil, fun e => by simp⟩
theorem up_nodup (h : L.Pairwise ltE) : L.Nodup := h.imp fun {a b} h e => by subst e; exact ltE_irrefl _ h
theorem AllL.len (h : AllL n F L) (hl : Links n m E P F) : L.length = m := by
 have h1 : ((List.range m).map E).Nodup := by
   rw [List.nodup_iff_pairwise_ne, List.pairwise_map]
   refine List.Pairwise.imp_of_mem ?_ (List.nodup_range)
   intro a b ha hb hne he
   exact hne (hl.one (List.mem_range.1 ha) (List.mem_range.1 hb) (by rw [he]))
 have hp : L.Perm ((List.range m).map E) := by
   rw [List.perm_ext_iff_of_nodup (up_nodup h.up) h1]
   intro e
   rw [h.mem, List.mem_map]
   constructor
   · rintro ⟨i, hi, ei, fi⟩
     obtain ⟨j, hj, pj, ej⟩ := hl.get hi fi
     exact ⟨j, List.mem_range.2 hj, by rw [ej, ← ei]⟩
   · rintro ⟨j, hj, rfl⟩
     obtain ⟨i, hi, ei, pi, fi⟩ := hl.tom j (List.mem_range.1 hj)
     exact ⟨i, hi, ei, fi⟩
 rw [hp.length_eq]; simp
theorem AllL.head {a : En} {l : List En} (h : AllL n F (a :: l)) (hl : Links n m E P F) (ho : Ord m E) (h0 : 0 < m) : E 0 = a := by
 obtain ⟨i, hi, ei, pi, fi⟩ := hl.tom 0 h0
 have h1 : E 0 ∈ a :: l := (h.mem _).2 ⟨i, hi, ei, fi⟩
 obtain ⟨j, hj, ej, fj⟩ := (h.mem a).1 (List.mem_cons_self ..)
 obtain ⟨q, hq, pq, eq⟩ := hl.get hj fj
 have ha : E q = a := by rw [eq, ← ej]
 rcases List.mem_cons.1 h1 with h2 | h2
 · exact h2
 · have := (List.pairwise_cons.1 h.up).1 _ h2
   rw [← ha] at this
   exact absurd this (ho.first q hq)
end
end Go.Proofs.YtcffeokbipjaoaaGreat
namespace Go.Proofs.YtcffeokbipjaoaaGreat
open Go.ChangeShapes Go.WideShapes Go.RowKit
set_option linter.unusedVariables false
set_option linter.unusedSimpArgs false
structure HeapL (base : Nat) (w : World) (p n : Nat) (L : List En) : Prop where
 ex : ∃ b A m c E F, HeapIn w p b n A m c E F ∧ Ord m E ∧ AllL n F L ∧ base ≤ p ∧ base ≤ b ∧ ∀ x, A = some x → base ≤ x.block
section
variable {w w' : World} {base p n : Nat} {L : List En}
theorem HeapL.below (h : HeapL base w p n L) (hb : Below w.heap.size w w') : HeapL base w' p n L := by
 obtain ⟨b, A, m, c, E, F, h1, h2⟩ := h.ex
 exact ⟨b, A, m, c, E, F, h1.below hb, h2⟩
theorem HeapL.size (h : HeapL base w p n L) : base ≤ w.heap.size := by
 obtain ⟨b, A, m, c, E, F, h1, _, _, hp, _⟩ := h.ex
 obtain ⟨P, h3, _⟩ := h1.at_
 have := h3.head.size
 omega
theorem HeapL.len (h : HeapL base w p n L) : L.length ≤ n ∧ n ≤ 1024 := by
 obtain ⟨b, A, m, c, E, F, h1, _, h3, _⟩ := h.ex
 obtain ⟨P, h4, h5⟩ := h1.at_
 rw [h3.len h5]
 exact ⟨h4.mn, h4.n0⟩
theorem HeapL.range (h : HeapL base w p n L) : ∀ e ∈ L, 0 ≤ e.m ∧ e.m < (n : Int) := by
 obtain ⟨b, A, m, c, E, F, h1, _, h3, _⟩ := h.ex
 exact h3.range
theorem HeapL.up (h : HeapL base w p n L) : L.Pairwise ltE := by
 obtain ⟨b, A, m, c, E, F, h1, _, h3, _⟩ := h.ex
 exact h3.up
theorem ldue (key : Int) (w : World) (h : HeapL base w p n L) : Calls Tryz.prog 118 #[.pointer (some ⟨p, 0, none⟩), .int .i64 key] w fun e w' => ∃ g, e = .returned (.slice (some ⟨g, 0, none⟩) (dueE key L).length (dueE key L).length) ∧ w'.ownsRow w.heap.size 3 1 (.slice (some ⟨g, 0, none⟩) (dueE key L).length (dueE key L).length) (dueE key L).length ((dueE key L).map fun e => .int .i64 e.m) ∧ Below w.heap.size w w' := by
 obtain ⟨b, A, m, c, E, F, h1, h2, h3, _⟩ := h.ex
 refine (hdues w h1 h2).mono ?_
 rintro e w' ⟨g, L', hL, hlen, rfl, ho, hb⟩
 obtain rfl := hL.one (h3.due key)
 exact ⟨g, rfl, ho, hb⟩
end
end Go.Proofs.YtcffeokbipjaoaaGreat
namespace Go.Proofs.YtcffeokbipjaoaaGreat
open Go.ChangeShapes Go.WideShapes Go.RowKit
set_option linter.unusedVariables false
set_option linter.unusedSimpArgs false
structure HeapB (w : World) (p b n : Nat) (A : Option Addr) (L : List En) : Prop where
 ex : ∃ m c E F, HeapIn w p b n A m c E F ∧ Ord m E ∧ AllL n F L
section
variable {w w' : World} {p b n : Nat} {A : Option Addr} {L : List En}
theorem HeapB.heapL (h : HeapB w p b n A L) : HeapL 0 w p n L := by
 obtain ⟨m, c, E, F, h4, h5, h6⟩ := h.ex
 exact ⟨b, A, m, c, E, F, h4, h5, h6, Nat.zero_le _, Nat.zero_le _, fun _ _ => Nat.zero_le _⟩
theorem HeapB.types (h : HeapB w p b n A L) : (∃ cs, Blk w p 226 cs) ∧ (∃ cs, Blk w b 3 cs) ∧ ∀ x, A = some x → ∃ cs, Blk w x.block 270 cs := by
 obtain ⟨m, c, E, F, h1, _⟩ := h.ex
 obtain ⟨P, h2, _⟩ := h1.at_
 obtain ⟨ps, bp, _⟩ := h2.place
 refine ⟨⟨_, h2.head⟩, ⟨_, bp⟩, fun x hx => ?_⟩
 rcases Nat.eq_zero_or_pos c with h0 | h0
 · rw [h1.nil_ h0] at hx; cases hx
 · obtain ⟨a, cs, ea, ba, _⟩ := h2.tree h0
   rw [ea] at hx; injection hx with hx; subst hx
   exact ⟨cs, ba⟩
theorem HeapB.kept {own : Nat → Prop} (h : HeapB w p b n A L) (hk : Kept own w w') (h1 : ∀ g cs, Blk w g 226 cs → ¬ own g) (h2 : ∀ g cs, Blk w g 270 cs → ¬ own g) (h3 : ¬ own b) : HeapB w' p b n A L := by
 obtain ⟨m, c, E, F, g1, g2⟩ := h.ex
 obtain ⟨P, ⟨hd, z1, z2, z3, ht, ⟨ps, bp, pz, pc⟩⟩, gl⟩ := g1.at_
 refine ⟨m, c, E, F, ⟨⟨P, ⟨hd.kept hk (h1 _ _ hd), z1, z2, z3, fun h0 => ?_, ⟨ps, bp.kept hk h3, pz, pc⟩⟩, gl⟩, g1.nil_, g1.cmax⟩, g2⟩
 obtain ⟨a, cs, e, ba, az, ac⟩ := ht h0
 exact ⟨a, cs, e, ba.kept hk (h2 _ _ ba), az, ac⟩
theorem HeapB.below (h : HeapB w p b n A L) (hb : Below w.heap.size w w') : HeapB w' p b n A L := h.kept (own := fun _ => False) (Kept.of_below hb) (fun _ _ _ => id) (fun _ _ _ => id) id
theorem HeapB.apart {g : Nat} {t : TypeId} {cs : Array Value} (h : HeapB w p b n A L) (hb : Blk w g t cs) (h1 : t ≠ 226) (h2 : t ≠ 270) (h3 : g ≠ b) : ¬ hOwnP p b A g := by
 obtain ⟨⟨c1, t1⟩, _, t3⟩ := h.types
 rintro (e | e | ⟨x, hx, e⟩)
 · exact hb.other t1 h1 e
 · exact h3 e
 · obtain ⟨c3, u3⟩ := t3 x hx
   exact hb.other u3 h2 e.symm
theorem bnew_yes (n : Nat) (h1 : 1 ≤ n) (h2 : n ≤ 1024) (w : World) : Calls Tryz.prog 77 #[.int .i64 (n : Int)] w fun e w' => ∃ p b, e = .returned (.tuple #[.pointer (some ⟨p, 0, none⟩), .int .i64 0]) ∧ w.heap.size ≤ p ∧ w.heap.size ≤ b ∧ HeapB w' p b n none [] ∧ Below w.heap.size w w' := by
 refine (hnew_yes n h1 h2 w).mono ?_
 rintro e w' ⟨p, b, rfl, hp, hbb, h, hbe⟩
 exact ⟨p, b, rfl, hp, hbb, ⟨0, 0, _, _, h, fun k _ hk => absurd hk (by omega), AllL.empty n⟩, hbe⟩
theorem bput_new {i : Nat} (k t : Int) (hi : i < n) (hh : hasE (i : Int) L = false) (w : World) (h : HeapB w p b n A L) : Calls Tryz.prog 172 #[.pointer (some ⟨p, 0, none⟩), .int .i64 (i : Int), .int .i64 k, .int .u64 t] w fun e w' => e = .returned (.int .i64 0) ∧ ∃ A', HeapB w' p b n A' (insE ⟨k, t, i⟩ L) ∧ Kept (hOwnP p b A) w w' ∧ ∀ x, A' = some x → (∃ y, A = some y ∧ y.block = x.block) ∨ w.heap.size ≤ x.block := by
 obtain ⟨m, c, E, F, h1, h2, h3⟩ := h.ex
 have hF := h3.none_ hi hh
 refine (hput_new k t hi hF w h1 h2).mono ?_
 rintro e w' ⟨rfl, A', c', E', w2, h4, h5, k1, k2, h6⟩
 refine ⟨rfl, A', ⟨m + 1, c', E', _, h4, h5, h3.ins hi hF k t⟩, ⟨k2.os.trans k1.os, k2.tape.trans k1.tape, k2.output.trans k1.output, Nat.le_trans k1.size k2.size, fun g hg ho => ?_⟩, h6⟩
 refine (k2.block g (Nat.lt_of_lt_of_le hg k1.size) ?_).trans (k1.block g hg ho)
 rintro (e | ⟨x, hx, e⟩)
 · exact ho (.inr (.inl e))
 · rcases h6 x hx with ⟨y, hy, e2⟩ | h7
   · exact ho (.inr (.inr ⟨y, hy, e2.trans e⟩))
   · omega
theorem brem_yes {i : Nat} (hi : i < n) (hh : hasE (i : Int) L = true) (w : World) (h : HeapB w p b n A L) : Calls Tryz.prog 167 #[.pointer (some ⟨p, 0, none⟩), .int .i64 (i : Int)] w fun e w' => e = .returned (.int .i64 0) ∧ HeapB w' p b n A (remK (i : Int) L) ∧ Kept (hOwnP p b A) w w' := by
 obtain ⟨m, c, E, F, h1, h2, h3⟩ := h.ex
 obtain ⟨kt, hF⟩ := h3.some_ hi hh
 obtain ⟨P, h4, h5⟩ := h1.at_
 obtain ⟨q, hq, _⟩ := h5.get hi hF
 obtain ⟨m', rfl⟩ : ∃ m', m = m' + 1 := ⟨m - 1, by omega⟩
 refine (hrem_yes hi hF rfl w h1 h2).mono ?_
 rintro e w' ⟨rfl, E', h6, h7, k1⟩
 exact ⟨rfl, ⟨m', c, E', _, h6, h7, h3.rem hi⟩, k1⟩
end
theorem RowsL.types {w : World} {p a b N M : Nat} {L : Nat → List Nat} {ub : Int} (h : RowsL w p a b N M L ub) : (∃ cs, Blk w p 213 cs) ∧ (∃ cs, Blk w a 216 cs) ∧ ∃ cs, Blk w b 218 cs := by
 obtain ⟨E0, E1, C, W, B0, B1, U, ⟨a1, a2, a3, a4, a5, hd, ⟨cs, bc, cz, cc⟩, ⟨fs, bf, fz, ff⟩⟩, hr, hu⟩ := h
 exact ⟨⟨_, hd⟩, ⟨_, bc⟩, ⟨_, bf⟩⟩
theorem RowsL.apart {w : World} {p a b N M g : Nat} {L : Nat → List Nat} {ub : Int} {t : TypeId} {cs : Array Value} (h : RowsL w p a b N M L ub) (hb : Blk w g t cs) (h1 : t ≠ 216) (h2 : t ≠ 218) : ¬ (g = a ∨ g = b) := by
 obtain ⟨_, ⟨c1, t1⟩, ⟨c2, t2⟩⟩ := h.types
 rintro (e | e)
 · exact hb.other t1 h1 e
 · exact hb.other t2 h2 e
structure TqAt (w : World) (q hs sp sc sf rp ra rb hp hb : Nat) (A : Option Addr) (N n : Nat) (V H : Nat → Int) (T : Nat → Bool) (R : Nat → Rq) (m : Nat) (F : Nat → Nat) (L : Nat → List Nat) (ub : Int) (D : List En) : Prop where
 head : Blk w q 159 #[.int .i64 (N : Int), .pointer (some ⟨sp, 0, none⟩), .pointer (some ⟨rp, 0, none⟩), .pointer (some ⟨hp, 0, none⟩), .slice (some ⟨hs, 0, none⟩) n n]
 slab : SlabAt w sp sc sf n H T R m F
 rows : RowsL w rp ra rb N n L ub
 heap : HeapB w hp hb n A D
 hand : ∃ cs, Blk w hs 105 cs ∧ cs.size = n ∧ ∀ i, i < n → cs[i]? = some (.int .u64 (V i))
 ff : hb ≠ sf
section
variable {w w' : World} {q hs sp sc sf rp ra rb hp hb : Nat} {A A' : Option Addr} {N n m m' : Nat} {V H V' H' : Nat → Int} {T T' : Nat → Bool} {R R' : Nat → Rq} {F F' : Nat → Nat} {L L' : Nat → List Nat} {ub ub' : Int} {D D' : List En}
theorem TqAt.q0 (h : TqAt w q hs sp sc sf rp ra rb hp hb A N n V H T R m F L ub D) : w.cell? ⟨q, 0, none⟩ = some (.int .i64 (N : Int)) := h.head.val (i := 0) rfl
theorem TqAt.q1 (h : TqAt w q hs sp sc sf rp ra rb hp hb A N n V H T R m F L ub D) : w.cell? ⟨q, 1, none⟩ = some (.pointer (some ⟨sp, 0, none⟩)) := h.head.val (i := 1) rfl
theorem TqAt.q2 (h : TqAt w q hs sp sc sf rp ra rb hp hb A N n V H T R m F L ub D) : w.cell? ⟨q, 2, none⟩ = some (.pointer (some ⟨rp, 0, none⟩)) := h.head.val (i := 2) rfl
theorem TqAt.q3 (h : TqAt w q hs sp sc sf rp ra rb hp hb A N n V H T R m F L ub D) : w.cell? ⟨q, 3, none⟩ = some (.pointer (some ⟨hp, 0, none⟩)) := h.head.val (i := 3) rfl
theorem TqAt.q4 (h : TqAt w q hs sp sc sf rp ra rb hp hb A N n V H T R m F L ub D) : w.cell? ⟨q, 4, none⟩ = some (.slice (some ⟨hs, 0, none⟩) n n) := h.head.val (i := 4) rfl
theorem TqAt.h0 (h : TqAt w q hs sp sc sf rp ra rb hp hb A N n V H T R m F L ub D) {i : Nat} (hi : i < n) : w.cell? ⟨hs, i, none⟩ = some (.int .u64 (V i)) := by obtain ⟨cs, bc, _, cc⟩ := h.hand; exact bc.val (cc i hi)
theorem TqAt.zh (h : TqAt w q hs sp sc sf rp ra rb hp hb A N n V H T R m F L ub D) (i : Nat) : w.frozen? ⟨hs, i, none⟩ = false := by obtain ⟨cs, bc, _⟩ := h.hand; exact bc.free i
theorem TqAt.below (h : TqAt w q hs sp sc sf rp ra rb hp hb A N n V H T R m F L ub D) (hb' : Below w.heap.size w w') : TqAt w' q hs sp sc sf rp ra rb hp hb A N n V H T R m F L ub D := by
 obtain ⟨hd, h1, h2, h3, ⟨cs, bc, cz, cc⟩, h5⟩ := h
 have k := Kept.of_below (own := fun _ => False) hb'
 exact ⟨hd.kept k id, h1.kept k id id id, RowsAt.kept h2 k id id id, h3.below hb', ⟨cs, bc.kept k id, cz, cc⟩, h5⟩
theorem TqAt.drewN_ (h : TqAt w q hs sp sc sf rp ra rb hp hb A N n V H T R m F L ub D) (k : Nat) : TqAt (w.drewN k) q hs sp sc sf rp ra rb hp hb A N n V H T R m F L ub D := h.below (below_drewN_ (Below.refl _ _) k)
theorem TqAt.sizes (h : TqAt w q hs sp sc sf rp ra rb hp hb A N n V H T R m F L ub D) : q < w.heap.size ∧ hs < w.heap.size := by
 obtain ⟨cs, bc, _⟩ := h.hand
 exact ⟨h.head.size, bc.size⟩
theorem TqAt.slabbed (h : TqAt w q hs sp sc sf rp ra rb hp hb A N n V H T R m F L ub D) (hk : Kept (fun g => g = sp ∨ g = sc ∨ g = sf) w w') (hn : SlabAt w' sp sc sf n H' T' R' m' F') : TqAt w' q hs sp sc sf rp ra rb hp hb A N n V H' T' R' m' F' L ub D := by
 obtain ⟨hd, h1, h2, h3, ⟨cs, bc, cz, cc⟩, h5⟩ := h
 obtain ⟨⟨c1, t1⟩, ⟨c2, t2⟩, ⟨c3, t3⟩⟩ := h2.types
 obtain ⟨_, ⟨c4, t4⟩, _⟩ := h3.types
 obtain ⟨cs1, bc1, _, _⟩ := h1.rows
 refine ⟨hd.kept hk (h1.apart hd (by decide) (by decide) (by decide)), hn, RowsAt.kept h2 hk (h1.apart t1 (by decide) (by decide) (by decide)) (h1.apart t2 (by decide) (by decide) (by decide)) (h1.apart t3 (by decide) (by decide) (by decide)),
   h3.kept hk (fun g c hg => h1.apart hg (by decide) (by decide) (by decide)) (fun g c hg => h1.apart hg (by decide) (by decide) (by decide)) ?_, ⟨cs, bc.kept hk (h1.apart bc (by decide) (by decide) (by decide)), cz, cc⟩, h5⟩
 rintro (e | e | e)
 · exact t4.other h1.head (by decide) e
 · exact t4.other bc1 (by decide) e
 · exact h5 e
theorem TqAt.rowed (h : TqAt w q hs sp sc sf rp ra rb hp hb A N n V H T R m F L ub D) (hk : Kept (fun g => g = ra ∨ g = rb) w w') (hn : RowsL w' rp ra rb N n L' ub') : TqAt w' q hs sp sc sf rp ra rb hp hb A N n V H T R m F L' ub' D := by
 obtain ⟨hd, h1, h2, h3, ⟨cs, bc, cz, cc⟩, h5⟩ := h
 obtain ⟨_, ⟨c4, t4⟩, _⟩ := h3.types
 obtain ⟨cs1, bc1, _, _⟩ := h1.rows
 obtain ⟨cs2, bc2, _, _⟩ := h1.frees
 exact ⟨hd.kept hk (h2.apart hd (by decide) (by decide)), h1.kept hk (h2.apart h1.head (by decide) (by decide)) (h2.apart bc1 (by decide) (by decide)) (h2.apart bc2 (by decide) (by decide)), hn,
   h3.kept hk (fun g c hg => h2.apart hg (by decide) (by decide)) (fun g c hg => h2.apart hg (by decide) (by decide)) (h2.apart t4 (by decide) (by decide)), ⟨cs, bc.kept hk (h2.apart bc (by decide) (by decide)), cz, cc⟩, h5⟩
theorem TqAt.heaped (h : TqAt w q hs sp sc sf rp ra rb hp hb A N n V H T R m F L ub D) (hk : Kept (hOwnP hp hb A) w w') (hn : HeapB w' hp hb n A' D') : TqAt w' q hs sp sc sf rp ra rb hp hb A' N n V H T R m F L ub D' := by
 obtain ⟨hd, h1, h2, h3, ⟨cs, bc, cz, cc⟩, h5⟩ := h
 obtain ⟨⟨c1, t1⟩, ⟨c2, t2⟩, ⟨c3, t3⟩⟩ := h2.types
 obtain ⟨_, ⟨c4, t4⟩, _⟩ := h3.types
 obtain ⟨cs1, bc1, _, _⟩ := h1.rows
 obtain ⟨cs2, bc2, _, _⟩ := h1.frees
 have ap : ∀ {g : Nat} {t : TypeId} {cs : Array Value}, Blk w g t cs → t ≠ 226 → t ≠ 270 → t ≠ 3 → ¬ hOwnP hp hb A g := fun hg e1 e2 e3 => h3.apart hg e1 e2 (hg.other t4 e3)
 exact ⟨hd.kept hk (ap hd (by decide) (by decide) (by decide)), h1.kept hk (ap h1.head (by decide) (by decide) (by decide)) (ap bc1 (by decide) (by decide) (by decide)) (h3.apart bc2 (by decide) (by decide) (Ne.symm h5)),
   RowsAt.kept h2 hk (ap t1 (by decide) (by decide) (by decide)) (ap t2 (by decide) (by decide) (by decide)) (ap t3 (by decide) (by decide) (by decide)), hn, ⟨cs, bc.kept hk (ap bc (by decide) (by decide) (by decide)), cz, cc⟩, h5⟩
theorem TqAt.handed (h : TqAt w q hs sp sc sf rp ra rb hp hb A N n V H T R m F L ub D) {i : Nat} (hi : i < n) (v : Int) : TqAt (w.setCell ⟨hs, i, none⟩ (.int .u64 v)) q hs sp sc sf rp ra rb hp hb A N n (fun j => if j = i then v else V j) H T R m F L ub D := by
 obtain ⟨hd, h1, h2, h3, ⟨cs, bc, cz, cc⟩, h5⟩ := h
 obtain ⟨⟨c1, t1⟩, ⟨c2, t2⟩, ⟨c3, t3⟩⟩ := h2.types
 obtain ⟨_, ⟨c4, t4⟩, _⟩ := h3.types
 obtain ⟨cs1, bc1, _, _⟩ := h1.rows
 obtain ⟨cs2, bc2, _, _⟩ := h1.frees
 have hk : Kept (fun g => g = hs) w (w.setCell ⟨hs, i, none⟩ (.int .u64 v)) := Kept.set_ (own := fun g => g = hs) (Kept.refl _ _) (p := ⟨hs, i, none⟩) (.inl rfl) _
 refine ⟨hd.kept hk (hd.other bc (by decide)), h1.kept hk (h1.head.other bc (by decide)) (bc1.other bc (by decide)) (bc2.other bc (by decide)), RowsAt.kept h2 hk (t1.other bc (by decide)) (t2.other bc (by decide)) (t3.other bc (by decide)),
   h3.kept hk (fun g c hg => hg.other bc (by decide)) (fun g c hg => hg.other bc (by decide)) (t4.other bc (by decide)), ⟨_, bc.set_ _ _, by simpa using cz, fun j hj => ?_⟩, h5⟩
 by_cases e : j = i
 · rw [if_pos e, e]; exact get_set_same (by omega) _
 · rw [if_neg e, get_set_far (by omega)]; exact cc j hj
end
end Go.Proofs.YtcffeokbipjaoaaGreat
