/- A heap in memory: who is due. -/
import Derived.Test.YtjkklcigmikleaaHpr
import Derived.Test.YtjkklcigmikleaaBlkb
namespace Go.Proofs.Ytjkklcigmikleaa
open Go.ChangeShapes Go.WideShapes Go.RowKit
set_option linter.unusedVariables false
set_option linter.unusedSimpArgs false
/-- The entries of those of F whose key is at most that, the first one first. -/
structure DueL (n : Nat) (F : Nat → Option (Int × Int)) (key : Int) (L : List En) : Prop where
  up : L.Pairwise ltE
  mem : ∀ e, e ∈ L ↔ ∃ i : Nat, i < n ∧ e.m = (i : Int) ∧ F i = some (e.k, e.t) ∧ e.k ≤ key
section
variable {w w' : World} {p b n m c B k : Nat} {A : Option Addr} {E : Nat → En} {P : Nat → Int} {F : Nat → Option (Int × Int)} {v : Value} {L : List En} {key : Int}
theorem due_of (hl : Links n m E P F) (ho : Ord m E) (hp : L.Perm ((dueI m E key m 0).map E)) (hs : L.Pairwise fun a b => ¬ ltE b a) : DueL n F key L := by
  have hinj : ∀ i j, i ∈ dueI m E key m 0 → j ∈ dueI m E key m 0 → (E i).m = (E j).m → i = j := fun i j hi hj e => hl.one ((dueI_mem ho i).1 hi).1 ((dueI_mem ho j).1 hj).1 e
  have hnd : ∀ l : List Nat, (∀ i j, i ∈ l → j ∈ l → (E i).m = (E j).m → i = j) → l.Nodup → (l.map E).Pairwise fun a b => a.m ≠ b.m := by
    intro l
    induction l with
    | nil => intro _ _; exact List.Pairwise.nil
    | cons a l ih =>
      intro h1 h2
      rw [List.nodup_cons] at h2
      refine List.Pairwise.cons ?_ (ih (fun i j hi hj => h1 i j (List.mem_cons_of_mem _ hi) (List.mem_cons_of_mem _ hj)) h2.2)
      intro x hx
      obtain ⟨j, hj, rfl⟩ := List.mem_map.1 hx
      intro e
      have := h1 a j (List.mem_cons_self ..) (List.mem_cons_of_mem _ hj) e
      subst this
      exact h2.1 hj
  have h1 := hnd _ hinj (dueI_nodup m 0)
  have h2 : L.Pairwise fun a b => a.m ≠ b.m := hp.symm.pairwise h1 (fun h => Ne.symm h)
  refine ⟨?_, fun e => ?_⟩
  · have h3 := hs.and h2
    exact h3.imp fun ⟨a, b⟩ => ltE_total (Ne.symm b) a
  · rw [hp.mem_iff, List.mem_map]
    constructor
    · rintro ⟨j, hj, rfl⟩
      obtain ⟨hjm, hk⟩ := (dueI_mem ho j).1 hj
      obtain ⟨i, hi, ei, pi, fi⟩ := hl.tom j hjm
      exact ⟨i, hi, ei, fi, hk⟩
    · rintro ⟨i, hi, ei, fi, hk⟩
      obtain ⟨j, hj, pj, ej⟩ := hl.get hi fi
      have : E j = e := by rw [ej, ← ei]
      exact ⟨j, (dueI_mem ho j).2 ⟨hj, by rw [this]; exact hk⟩, this⟩
/-- There is but one such list. -/
theorem sorted_one : ∀ {l l' : List En}, l.Pairwise ltE → l'.Pairwise ltE → (∀ e, e ∈ l ↔ e ∈ l') → l = l'
  | [], [], _, _, _ => rfl
  | [], b :: l', _, _, h => absurd ((h b).2 (List.mem_cons_self ..)) (by simp)
  | a :: l, [], _, _, h => absurd ((h a).1 (List.mem_cons_self ..)) (by simp)
  | a :: l, b :: l', h1, h2, h => by
    rw [List.pairwise_cons] at h1 h2
    have hab : a = b := by
      rcases List.mem_cons.1 ((h a).1 (List.mem_cons_self ..)) with e | e
      · exact e
      · rcases List.mem_cons.1 ((h b).2 (List.mem_cons_self ..)) with e' | e'
        · exact e'.symm
        · exact absurd (h1.1 b e') (ltE_asymm (h2.1 a e))
    subst hab
    congr 1
    refine sorted_one h1.2 h2.2 fun e => ?_
    constructor
    · intro he
      rcases List.mem_cons.1 ((h e).1 (List.mem_cons_of_mem _ he)) with x | x
      · subst x; exact absurd (h1.1 _ he) (ltE_irrefl _)
      · exact x
    · intro he
      rcases List.mem_cons.1 ((h e).2 (List.mem_cons_of_mem _ he)) with x | x
      · subst x; exact absurd (h2.1 _ he) (ltE_irrefl _)
      · exact x
theorem DueL.one {L' : List En} (h : DueL n F key L) (h' : DueL n F key L') : L = L' := sorted_one h.up h'.up fun e => (h.mem e).trans (h'.mem e).symm
theorem HeapIn.under_ (h : HeapIn w p b n A m c E F) (h0 : c = 0 ∨ 0 < c) : Under w.heap.size p b A := by
  obtain ⟨P, h1, h2⟩ := h.at_
  obtain ⟨ps, bp, _, _⟩ := h1.place
  refine ⟨h1.head.size, bp.size, fun x hx => ?_⟩
  rcases h0 with h0 | h0
  · rw [h.nil_ h0] at hx; cases hx
  · obtain ⟨a, cs, e, ba, _⟩ := h1.tree h0
    rw [e] at hx; injection hx with hx; subst hx; exact ba.size
set_option maxRecDepth 20000 in
set_option maxHeartbeats 4000000 in
theorem hdues (w : World) (h : HeapIn w p b n A m c E F) (ho : Ord m E) : Calls Try.prog 36 #[.pointer (some ⟨p, 0, none⟩), .int .i64 key] w fun e w' => ∃ g L, DueL n F key L ∧ L.length ≤ 1024 ∧ e = .returned (.slice (some ⟨g, 0, none⟩) L.length L.length) ∧ w'.ownsRow w.heap.size 3 1 (.slice (some ⟨g, 0, none⟩) L.length L.length) L.length (L.map fun e => .int .i64 e.m) ∧ Below w.heap.size w w' := by
  have hu := h.under_ (by omega)
  have hm := h.mn
  have hn := h.n0
  have hdl := dueI_len (m := m) (E := E) (key := key) m 0
  obtain ⟨P, h1, hl⟩ := h.at_
  obtain ⟨D, hD⟩ : ∃ D, dueI m E key m 0 = D := ⟨_, rfl⟩
  rw [hD] at hdl
  have HD := Lib.hid hD
  have HU := Lib.hid hu
  have HH := Lib.hid h
  have HO := Lib.hid ho
  have HL := Lib.hid hl
  clear h1 hl h ho hu hD
  go_enter Try.func36, Try.ntmps36
  go_wp2_with fail
  refine (hdue key HU.out m 0 _ (.slice none 0 0) 0 [] (by omega) (by omega) (by rw [HD.out]; omega) (Nat.le_refl _) HH.out (World.ownsRow_nil _ _ _ _)).mono ?_
  rw [HD.out]
  rintro e w1 ⟨v1, rfl, o1, b1⟩
  have o1' : w1.ownsRow w.heap.size 123 3 v1 D.length (flatL (D.map E)) := by
    have := o1
    rw [Nat.zero_add, List.nil_append, flatE_L] at this
    exact this
  have O1 := Lib.hid o1'
  have B1 := Lib.hid b1
  clear o1 o1' b1
  go_wp2_with fail
  refine (hsort_own (B := w.heap.size) _ B1.out.size (by simp) (by omega) O1.out).mono ?_
  rintro e w2 ⟨rfl, L, hp, hs, o2, b2⟩
  have hLl : L.length = D.length := by rw [hp.length_eq]; simp
  have hDL : DueL n F key L := due_of HL.out HO.out (by rw [HD.out]; exact hp) hs
  obtain ⟨A2, c2, rfl⟩ := own_form o2
  rw [← hLl] at hdl o2
  have HLl := Lib.hid hLl
  have HDL := Lib.hid hDL
  have O2 := Lib.hid o2
  have B2 := Lib.hid (B1.out.trans b2)
  obtain ⟨k, hk⟩ : ∃ k, L.length = k := ⟨_, rfl⟩
  rw [← hLl]
  rw [hk] at hdl O2 ⊢
  have HK := Lib.hid hk
  clear hp hs o2 b2 hLl hDL O1 B1 hk HLl
  have hmk := run_ints_ k (by omega)
  go_wp2_with fail
  refine wp_worldh (fun wx => (∃ cs, Blk wx w2.heap.size 3 cs ∧ cs.size = k) ∧ wx.ownsRow w.heap.size 123 3 (.slice A2 k c2) k (flatL L) ∧ Below w.heap.size w wx) ⟨⟨_, Blk.made _ _ _, made_size _ _⟩, O2.out.alloc _, B2.out.alloc B2.out.size _⟩ ?_
  have hw2 := B2.out.size
  clear O2 B2 hmk
  rintro w3 ⟨hb, o3, b3⟩
  have HB := Lib.hid hb
  have O3 := Lib.hid o3
  have B3 := Lib.hid b3
  clear hb o3 b3
  go_loopw [19] (fun s19 wr => ∃ i : Nat, i ≤ k ∧ s19 = .int .i64 (i : Int) ∧ (∃ cs, Blk wr w2.heap.size 3 cs ∧ cs.size = k ∧ ∀ j, j < i → cs[j]? = some (.int .i64 (L[j]!).m)) ∧ wr.ownsRow w.heap.size 123 3 (.slice A2 k c2) k (flatL L) ∧ Below w.heap.size w wr) (fun i _ => k - (intOf i).toNat)
  case atStart =>
    obtain ⟨cs, h1, h2⟩ := HB.out
    exact ⟨0, Nat.zero_le _, rfl, ⟨cs, h1, h2, fun j hj => absurd hj (by omega)⟩, O3.out, B3.out⟩
  case round =>
    clear HB O3 B3
    obtain ⟨i, hi, rfl, ⟨cs, hb, hcs, hci⟩, o4, b4⟩ := hrel
    have O4 := Lib.hid o4
    have B4 := Lib.hid b4
    have HB := Lib.hid hb
    have HCI := Lib.hid hci
    clear o4 b4 hb hci
    by_cases hlt : i < k
    · obtain ⟨g, c', hv, hg1, hg2, r0, r1, r2⟩ := own_ent O4.out hlt
      injection hv with hv1 hv2 hv3
      subst hv1 hv3
      obtain ⟨⟨ek, et, em⟩, he⟩ : ∃ e, L[i]! = e := ⟨_, rfl⟩
      rw [he] at r0 r1 r2
      have HE := Lib.hid he
      have i0 : (0 : Int) ≤ (i : Int) := by omega
      have i1 : (i : Int) < (k : Int) := by omega
      clear he
      go_upto_region 7 with fail
      refine wp_worldh (fun wx => wx.cell? ⟨wr.heap.size, 2, none⟩ = some (.int .i64 em) ∧ Blk wx w2.heap.size 3 cs ∧ wx.ownsRow w.heap.size 123 3 (.slice (some ⟨g, 0, none⟩) k c2) k (flatL L) ∧ Below w.heap.size w wx) ⟨(Blk.made _ _ _).val rfl, HB.out.alloc_ _, O4.out.alloc _, B4.out.alloc B4.out.size _⟩ ?_
      clear r0 r1 r2 O4 B4 HB
      rintro w5 ⟨c5, hb5, o5, b5⟩
      have hm0 : w5.cell? ⟨w2.heap.size, i, none⟩ = some cs[i]! := by rw [hb5.at_, getElem!_pos cs i (by omega)]; exact Array.getElem?_eq_getElem (by omega)
      have hm1 := hb5.free i
      have O5 := Lib.hid o5
      have B5 := Lib.hid b5
      have HB5 := Lib.hid hb5
      clear o5 b5 hb5
      go_wp2_with fail
      go_roundw
      case rel =>
        refine ⟨i + 1, by omega, by go_num, ⟨_, HB5.out.set_ i _, by simp [hcs], fun j hj => ?_⟩, own_kept (own := fun g => g = w2.heap.size) O5.out (show Kept (fun g => g = w2.heap.size) w5 (w5.setCell ⟨w2.heap.size, i, none⟩ (.int .i64 em)) from (Kept.refl (fun g => g = w2.heap.size) w5).set_ (p := ⟨w2.heap.size, i, none⟩) (.inl rfl) _) (fun g' cs' hg' e => (Blk.other (t := 3) HB5.out (e ▸ hg') (by decide)) rfl), B5.out.setCell hw2 _⟩
        by_cases hji : j = i
        · subst hji; rw [HE.out]; exact get_set_same (by omega) _
        · rw [get_set_far (Ne.symm hji)]; exact HCI.out j (by omega)
      case measure => simp [intOf]; omega
    · obtain rfl : i = k := by omega
      go_wp2_with fail
      go_ret
      have hkk := HK.out
      subst hkk
      refine ⟨w2.heap.size, L, HDL.out, by omega, rfl, ⟨by simp, .inr ⟨_, _, cs, rfl, hw2, HB.out, Nat.le_refl _, by unfold maxLen; omega, by simpa using hcs, ?_⟩⟩, B4.out⟩
      apply List.ext_getElem?
      intro j
      rw [Nat.mul_one]
      by_cases hj : j < L.length
      · rw [List.getElem?_take_of_lt hj, Array.getElem?_toList, HCI.out j hj, List.getElem?_map, List.getElem?_eq_getElem hj, getElem!_pos L j hj]
        rfl
      · rw [List.getElem?_eq_none (by rw [List.length_take]; omega), List.getElem?_eq_none (by simp; omega)]
end
end Go.Proofs.Ytjkklcigmikleaa
