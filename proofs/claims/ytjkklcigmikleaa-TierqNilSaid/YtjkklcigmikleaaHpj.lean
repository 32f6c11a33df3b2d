/- A heap in memory: one who comes in. -/
import Derived.Test.YtjkklcigmikleaaHpi
import Derived.Deep.AppendLies
namespace Go.Proofs.Ytjkklcigmikleaa
open Go.ChangeShapes Go.WideShapes Go.RowKit
set_option linter.unusedVariables false
set_option linter.unusedSimpArgs false
/-- The blocks that Put and Remove write. -/
def hOwnP (p b : Nat) (A : Option Addr) : Nat → Prop := fun g => g = p ∨ hOwn b A g
section
variable {w w' : World} {p b n m c : Nat} {A : Option Addr} {E : Nat → En} {P : Nat → Int} {F : Nat → Option (Int × Int)}
theorem HeapAt.pushed {w2 w7 : World} {v : Value} (h : HeapAt w2 p b n A m c E P) (hm : m + 1 ≤ n) (lit : Obj) {xs : List Value} {e : En} (ho : (w2.alloc lit).ownsRow 0 123 3 (.slice A m c) m xs) (hx : ∀ k, k < m → ∀ j, j < 3 → xs[k * 3 + j]? = (entRow (E k))[j]?) (hxs : xs.length = m * 3)
    (hown : w7.ownsRow 0 123 3 v (m + 1) (xs ++ entRow e)) (hg : (w2.alloc lit).grownBy w7 (Value.slice A m c).ownBlock) (hlie : (Value.slice A m c).ownBlock = v.ownBlock ∨ v.ownBlock = some (w2.heap.size + 1)) :
    ∃ A' c', v = .slice A' (m + 1) c' ∧ (∀ x, A' = some x → (∃ y, A = some y ∧ y.block = x.block) ∨ w2.heap.size ≤ x.block) ∧ 0 < c' ∧ c' ≤ maxLen ∧ HeapAt (w7.setCell ⟨p, 0, none⟩ v) p b n A' (m + 1) c' (fun x => if x = m then e else E x) P ∧ Kept (hOwnP p b A) w2 (w7.setCell ⟨p, 0, none⟩ v) ∧ w7.cell? ⟨p, 0, none⟩ = some (.slice A m c) ∧ w7.frozen? ⟨p, 0, none⟩ = false := by
  obtain ⟨hd, h1, h2, h3, ht, ⟨ps, bp, pz, pc⟩⟩ := h
  obtain ⟨g, cap, cur, rfl, hgb, hcap, hmax, hsz, hcur⟩ := own_one hown
  have hd7 : Blk w7 p _ _ := (hd.alloc_ lit).grown_ hg ho (by decide)
  have bp7 : Blk w7 b _ _ := (bp.alloc_ lit).grown_ hg ho (by decide)
  have npb : b ≠ p := bp.other hd (by decide)
  have npg : g ≠ p := hgb.other hd7 (by decide)
  refine ⟨some ⟨g, 0, none⟩, cap, rfl, fun x hx => ?_, by omega, hmax, ⟨?_, h1, hm, by omega, fun _ => ⟨g, cur, rfl, hgb.far _ npg, hsz, fun k hk j hj => ?_⟩, ⟨ps, bp7.far _ npb, pz, pc⟩⟩, ?_, hd7.val rfl, hd7.free 0⟩
  · injection hx with hx
    subst hx
    rcases hlie with hl | hl
    · cases A with
      | none => simp [Value.ownBlock] at hl
      | some y => exact .inl ⟨y, rfl, by simpa [Value.ownBlock] using hl⟩
    · exact .inr (by simp [Value.ownBlock] at hl; show _ ≤ g; omega)
  · have := hd7.set_ 0 (.slice (some ⟨g, 0, none⟩) (m + 1) cap)
    simpa using this
  · rw [hcur (k * 3 + j) (by omega)]
    by_cases hkm : k = m
    · subst hkm
      show _ = (entRow (if k = k then e else E k))[j]?
      rw [if_pos rfl, List.getElem?_append_right (by omega), hxs, Nat.add_sub_cancel_left]
    · show _ = (entRow (if k = m then e else E k))[j]?
      rw [if_neg hkm, List.getElem?_append_left (by omega)]
      exact hx k (by omega) j hj
  · refine (((Kept.refl (hOwnP p b A) w2).alloc_ lit).grown hg fun k hk => ?_).set_ (.inl (.inl rfl)) _
    cases A with
    | none => simp [Value.ownBlock] at hk
    | some x => exact .inl (.inr (.inr ⟨x, rfl, by simpa [Value.ownBlock] using hk⟩))
set_option maxRecDepth 20000 in
set_option maxHeartbeats 2000000 in
theorem hput_new {i : Nat} (k t : Int) (hi : i < n) (hF : F i = none) (w : World) (h : HeapIn w p b n A m c E F) (ho : Ord m E) : Calls Try.prog 32 #[.pointer (some ⟨p, 0, none⟩), .int .i64 (i : Int), .int .i64 k, .int .u64 t] w fun e w' => e = .returned (.int .i64 0) ∧
    ∃ A' c' E' w2, HeapIn w' p b n A' (m + 1) c' E' (fun x => if x = i then some (k, t) else F x) ∧ Ord (m + 1) E' ∧ Kept (hOwnP p b A) w w2 ∧ Kept (hOwn b A') w2 w' ∧ (∀ x, A' = some x → (∃ y, A = some y ∧ y.block = x.block) ∨ w.heap.size ≤ x.block) := by
  obtain ⟨P, h1, h2⟩ := h.at_
  have hmn := h2.room hi hF
  have hP := (h2.none_ hi).1 hF
  have q0 := h1.p0
  have q1 := h1.p1
  have hn0 := h1.n0
  have c0 := h1.b0 hi
  have z0 := h1.zb i
  have hz := h1.head.size
  rw [hP] at c0
  have i0 : (0 : Int) ≤ (i : Int) := by omega
  have i1 : (i : Int) < (n : Int) := by omega
  have HA := Lib.hid h1
  have HL := Lib.hid h2
  have HO := Lib.hid ho
  have HC := Lib.hid h
  clear h1 h2 h ho
  obtain ⟨i0', hi0, hzz⟩ := Option.map_eq_some_iff.1 hinfe
  simp only [Prod.mk.injEq] at hzz
  obtain ⟨hz0, hz1, hz2⟩ := hzz
  have HZ := Lib.hid (And.intro hi0 (And.intro hz0 (And.intro hz1 hz2)))
  clear hi0 hz0 hz1 hz2
  go_enter Try.func32, Try.ntmps32
  go_wp2_with fail
  refine (hmem_yes hi _ HA.out).mono ?_
  rintro e w1 ⟨rfl, rfl⟩
  go_upto_region 7 with fail
  go_still_tail 11, (by kernel_rfl)
  go_upto_region 8 with fail
  refine wp_worldh (fun wx => HeapAt wx p b n A m c E (fun x => if x = i then (m : Int) else P x) ∧ Kept (hOwnP p b A) w wx) ⟨by first | exact (HA.out.setP (k := i) (m : Int)).drew | exact (HA.out.drew.setP (k := i) (m : Int)), by first | exact ((Kept.refl _ _).set_ (.inl (.inr (.inl rfl))) _).drew_ | exact (Kept.refl _ _).drew_.set_ (.inl (.inr (.inl rfl))) _⟩ ?_
  clear q0 q1 c0 z0 hz HA
  rintro w2 ⟨h2, k2⟩
  obtain ⟨xs, hx1, hx2⟩ := h2.row HC.out.nil_ HC.out.cmax
  have hxl := hx1.1
  have q0 := h2.p0
  have H2 := Lib.hid h2
  have K2 := Lib.hid k2
  have X1 := Lib.hid hx1
  have X2 := Lib.hid hx2
  have HS := Lib.hid k2.size
  clear h2 k2 hx1 hx2
  go_upto_region 9 with (at_builtin; refine wpList_append_lies _ rfl (.tmp 38) (.tmp 43) 115 rfl 0 123 i0' (.agg #[.int .i64 0, .int .u64 0, .int .i64 0]) 3 24 Try.underlying115 HZ.out.1 HZ.out.2.1 HZ.out.2.2.1 HZ.out.2.2.2 rfl (by decide) (.slice A m c) m xs rfl (X1.out.alloc _) ⟨w2.heap.size, 0, none⟩ 1 1 [.int .i64 k, .int .u64 t, .int .i64 (i : Int)] rfl rfl (by intro j u hj; match j, hj with | 0, hj => simp at hj; subst hj; exact (Blk.new_ (by simp)).val rfl | 1, hj => simp at hj; subst hj; exact (Blk.new_ (by simp)).val rfl | 2, hj => simp at hj; subst hj; exact (Blk.new_ (by simp)).val rfl) (by intro u hu; simp at hu; rcases hu with rfl | rfl | rfl <;> rfl) (by omega) (by unfold maxLen; omega) (by omega) (by simp) _ rfl ?_; intro g7 cap7 w7 hown7 hg7 hl7 _; obtain ⟨A', c', e7, hA7, hc1, hc2, h7, k7, q7, z7⟩ := H2.out.pushed hmn _ (X1.out.alloc _) X2.out hxl (e := ⟨k, t, (i : Int)⟩) hown7 hg7 (by rcases hl7 with h | h; exact .inl h; exact .inr (by rw [h]; simp [Value.ownBlock])); rw [e7] at h7 k7 ⊢; have H7 := Lib.hid h7; have HA7 := Lib.hid hA7; have K7 := Lib.hid (K2.out.trans k7); clear hown7 hg7 h7 k7 hl7 e7 hA7)
  refine wp_worldh (fun wx => HeapAt wx p b n A' (m + 1) c' (fun x => if x = m then ⟨k, t, (i : Int)⟩ else E x) (fun x => if x = i then (m : Int) else P x) ∧ Kept (hOwnP p b A) w wx) ⟨H7.out, K7.out⟩ ?_
  clear q0 q7 z7 H7 K7 H2 K2 X1 X2
  rintro w8 ⟨h8, k8⟩
  have q1 := h8.p1
  have c0 : w8.cell? ⟨b, i, none⟩ = some (.int .i64 (m : Int)) := (h8.b0 hi).trans (by simp)
  have h9 : HeapIn w8 p b n A' (m + 1) c' (fun x => if x = m then ⟨k, t, (i : Int)⟩ else E x) (fun x => if x = i then some (k, t) else F x) := ⟨⟨_, h8, HL.out.push hi hF k t⟩, fun h => absurd h (by omega), hc2⟩
  have H9 := Lib.hid h9
  have K8 := Lib.hid k8
  clear h8 k8 h9
  go_wp2_with fail
  refine (hrise _ (by omega) H9.out (HO.out.push _)).mono ?_
  rintro e w10 ⟨rfl, ⟨E', h10, o10⟩, k10⟩
  have H10 := Lib.hid h10
  have O10 := Lib.hid (o10.all (by omega))
  have K10 := Lib.hid k10
  clear h10 o10 k10
  go_wp2_with fail
  go_ret
  exact ⟨rfl, A', c', E', w8, H10.out, O10.out, K8.out, K10.out, fun x hx => (HA7.out x hx).imp id fun h => Nat.le_trans HS.out h⟩
end
end Go.Proofs.Ytjkklcigmikleaa
