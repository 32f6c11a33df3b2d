/- A heap in memory: who is due, in the order of the walk. -/
import Derived.Test.YtjkklcigmikleaaHpk
import Derived.Test.YtjkklcigmikleaaHpn
import Derived.Test.YtjkklcigmikleaaBlkb
namespace Go.Proofs.Ytjkklcigmikleaa
open Go.ChangeShapes Go.WideShapes Go.RowKit
set_option linter.unusedVariables false
set_option linter.unusedSimpArgs false
/-- The entries of some places, cell by cell. -/
def flatE (E : Nat → En) (l : List Nat) : List Value := l.flatMap fun j => entRow (E j)
theorem flatE_len (E : Nat → En) (l : List Nat) : (flatE E l).length = l.length * 3 := by
  unfold flatE
  induction l with
  | nil => rfl
  | cons a l ih => rw [List.flatMap_cons, List.length_append, ih, List.length_cons]; simp [entRow]; omega
theorem flatE_append (E : Nat → En) (l l' : List Nat) : flatE E (l ++ l') = flatE E l ++ flatE E l' := by unfold flatE; simp
theorem flatE_one (E : Nat → En) (j : Nat) : flatE E [j] = entRow (E j) := by unfold flatE; simp
section
variable {w w' : World} {p b n m c B : Nat} {A : Option Addr} {E : Nat → En} {P : Nat → Int} {F : Nat → Option (Int × Int)}
/-- The heap's own blocks lie below B. -/
structure Under (B p b : Nat) (A : Option Addr) : Prop where
  p : p < B
  b : b < B
  a : ∀ x, A = some x → x.block < B
theorem HeapAt.kept2 {own : Nat → Prop} (h : HeapAt w p b n A m c E P) (hk : Kept own w w') (hp : ¬ own p) (hb : ¬ own b) (ha : ∀ x, A = some x → ¬ own x.block) : HeapAt w' p b n A m c E P := by
  obtain ⟨hd, h1, h2, h3, ht, ⟨ps, bp, pz, pc⟩⟩ := h
  refine ⟨hd.kept hk hp, h1, h2, h3, fun h0 => ?_, ⟨ps, bp.kept hk hb, pz, pc⟩⟩
  obtain ⟨a, cs, e, ba, az, ac⟩ := ht h0
  exact ⟨a, cs, e, ba.kept hk (ha _ e), az, ac⟩
theorem HeapIn.kept2 {own : Nat → Prop} (h : HeapIn w p b n A m c E F) (hk : Kept own w w') (hp : ¬ own p) (hb : ¬ own b) (ha : ∀ x, A = some x → ¬ own x.block) : HeapIn w' p b n A m c E F := by
  obtain ⟨P, h1, h2⟩ := h.at_
  exact ⟨⟨P, h1.kept2 hk hp hb ha, h2⟩, h.nil_, h.cmax⟩
theorem HeapIn.under (h : HeapIn w p b n A m c E F) (hu : Under B p b A) (hb : Below B w w') : HeapIn w' p b n A m c E F :=
  h.kept2 (own := fun g => B ≤ g) ⟨hb.os, hb.tape, hb.output, hb.size, fun k hk hn => hb.block k (by omega)⟩ (Nat.not_le.2 hu.p) (Nat.not_le.2 hu.b) fun x hx => Nat.not_le.2 (hu.a x hx)
set_option maxRecDepth 20000 in
set_option maxHeartbeats 4000000 in
theorem hdue (key : Int) (hu : Under B p b A) : ∀ (K q : Nat) (w : World) (v : Value) (len : Nat) (xs : List Value), m ≤ K + q → q ≤ 4096 → len + (dueI m E key K q).length ≤ 100000 → B ≤ w.heap.size → HeapIn w p b n A m c E F → w.ownsRow B 123 3 v len xs →
    Calls Try.prog 60 #[.pointer (some ⟨p, 0, none⟩), .int .i64 (q : Int), .int .i64 key, v] w fun e w' => ∃ v', e = .returned v' ∧ w'.ownsRow B 123 3 v' (len + (dueI m E key K q).length) (xs ++ flatE E (dueI m E key K q)) ∧ Below B w w' := by
  intro K
  induction K with
  | zero =>
    intro q w v len xs hm hq hl hB h hown
    obtain ⟨P, h1⟩ := hlen _ h
    have e1 : (m : Int) ≤ (q : Int) := by omega
    have HA := Lib.hid h1
    have HO := Lib.hid hown
    obtain ⟨Av, cv, rfl⟩ := own_form hown
    clear h1 h hown
    go_enter Try.func60, Try.ntmps60
    go_wp2_with fail
    refine (hlen_any _ HA.out).mono ?_
    rintro e w1 ⟨rfl, rfl⟩
    go_wp2_with fail
    go_ret
    exact ⟨_, rfl, by simpa [dueI, flatE] using HO.out, Below.refl _ _⟩
  | succ K ih =>
    intro q w v len xs hm hq hl hB h hown
    obtain ⟨P, h1⟩ := hlen _ h
    have hmn := h.mn
    have hn0 := h.n0
    obtain ⟨Av, cv, rfl⟩ := own_form hown
    by_cases hqm : q < m
    · have e0 : ¬ (m : Int) ≤ (q : Int) := by omega
      have e1 : decide ((m : Int) ≤ (q : Int)) = false := decide_eq_false e0
      have e2 : (q : Int) < (m : Int) := by omega
      have e3 : (0 : Int) ≤ (q : Int) := by omega
      have q0 := h1.p0
      obtain ⟨a, rfl, hc, hf⟩ := h1.at_ (by omega)
      obtain ⟨c0, c1, c2⟩ := hc q hqm
      have c0' := c0
      obtain ⟨⟨k, t, i⟩, hE⟩ : ∃ e, E q = e := ⟨_, rfl⟩
      rw [hE] at c0 c1 c2
      have za := hf (q * 3)
      have HA := Lib.hid h1
      have HH := Lib.hid h
      have HO := Lib.hid hown
      have HE := Lib.hid hE
      clear h1 h hown hc hf c0' hE
      by_cases hk : k ≤ key
      · have hD : dueI m E key (K + 1) q = q :: (dueI m E key K (2 * q + 1) ++ dueI m E key K (2 * q + 2)) := by
          have : (E q).k ≤ key := by rw [HE.out]; exact hk
          show (if q < m ∧ (E q).k ≤ key then _ else _) = _
          rw [if_pos ⟨hqm, this⟩]
        rw [hD] at hl ⊢
        obtain ⟨D1, h1⟩ : ∃ D, dueI m E key K (2 * q + 1) = D := ⟨_, rfl⟩
        obtain ⟨D2, h2⟩ : ∃ D, dueI m E key K (2 * q + 2) = D := ⟨_, rfl⟩
        rw [h1, h2] at hl ⊢
        have H1 := Lib.hid h1
        have H2 := Lib.hid h2
        simp only [List.length_cons, List.length_append] at hl
        have HIH := Lib.hid ih
        clear hD h1 h2 ih
        have k1 : ¬ key < k := by omega
        have k2 : decide (key < k) = false := decide_eq_false k1
        obtain ⟨i0', hi0, hzz⟩ := Option.map_eq_some_iff.1 hinfe
        simp only [Prod.mk.injEq] at hzz
        obtain ⟨hz0, hz1, hz2⟩ := hzz
        have HZ := Lib.hid (And.intro hi0 (And.intro hz0 (And.intro hz1 hz2)))
        clear hi0 hz0 hz1 hz2
        go_enter Try.func60, Try.ntmps60
        go_wp2_with fail
        refine (hlen_any _ HA.out).mono ?_
        rintro e w1 ⟨rfl, rfl⟩
        go_upto_region 4 with (at_builtin; refine wpList_append_own _ rfl (.tmp 28) (.tmp 36) 115 rfl B 123 i0' (.agg #[.int .i64 0, .int .u64 0, .int .i64 0]) 3 24 Try.underlying115 HZ.out.1 HZ.out.2.1 HZ.out.2.2.1 HZ.out.2.2.2 rfl (by decide) (.slice Av len cv) len xs rfl (HO.out.alloc _) ⟨w.heap.size, 0, none⟩ 1 1 [.int .i64 k, .int .u64 t, .int .i64 i] rfl rfl (by intro j u hj; match j, hj with | 0, hj => simp at hj; subst hj; exact (Blk.new_ (by simp)).val rfl | 1, hj => simp at hj; subst hj; exact (Blk.new_ (by simp)).val rfl | 2, hj => simp at hj; subst hj; exact (Blk.new_ (by simp)).val rfl) (by intro u hu; simp at hu; rcases hu with rfl | rfl | rfl <;> rfl) (by unfold maxLen; omega) (by omega) (by simp; omega) ?_; intro v7 w7 hown7 hg7 _; have HO7 := Lib.hid hown7; have HG7 := Lib.hid hg7; clear hown7 hg7)
        have hb7 : Below B w w7 := ((Below.refl _ _).alloc hB _).grown HG7.out (by simp; omega) (fun g' e => own_base (HO.out.alloc (.cells #[.int .i64 k, .int .u64 t, .int .i64 i] 123)) e)
        obtain ⟨A7, c7, rfl⟩ := own_form HO7.out
        refine wp_worldh (fun wx => wx.ownsRow B 123 3 (.slice A7 (len + 1) c7) (len + 1) (xs ++ flatE E [q]) ∧ Below B w wx) ⟨by rw [flatE_one, HE.out]; exact HO7.out, hb7⟩ ?_
        clear HG7 HO7 hb7 q0 c0 c1 c2 za
        rintro w8 ⟨o8, b8⟩
        have O8 := Lib.hid o8
        have B8 := Lib.hid b8
        clear o8 b8
        go_wp2_with fail
        refine (hbelow q (by omega) _).mono ?_
        rintro e w9 ⟨rfl, hb9⟩
        have O9 := Lib.hid (own_below O8.out hb9)
        have B9 := Lib.hid (B8.out.trans (hb9.mono (Nat.le_trans hB B8.out.size)))
        obtain ⟨x, hx⟩ : ∃ x : Nat, 2 * q + 1 = x := ⟨_, rfl⟩
        obtain ⟨y, hy⟩ : ∃ y : Nat, 2 * q + 2 = y := ⟨_, rfl⟩
        have h1 := H1.out
        have h2 := H2.out
        rw [hx] at h1
        rw [hy] at h2
        rw [hx, hy]
        have HX := Lib.hid hx
        have HY := Lib.hid hy
        have D1' := Lib.hid h1
        have D2' := Lib.hid h2
        clear h1 h2 H1 H2 hx hy hb9 O8 B8
        have ix0 : ∀ w, (Instr.index 105 (.agg #[.int .i64 (x : Int), .int .i64 (y : Int)]) (.int .i64 0)).run Try.prog w = .ok (.int .i64 (x : Int)) w := fun _ => by kernel_rfl
        have ix1 : ∀ w, (Instr.index 105 (.agg #[.int .i64 (x : Int), .int .i64 (y : Int)]) (.int .i64 1)).run Try.prog w = .ok (.int .i64 (y : Int)) w := fun _ => by kernel_rfl
        go_wp2_with fail
        go_loopw [3, 40] (fun s3 s40 wr => ∃ (i : Nat) (l : List Nat) (Aw : Option Addr) (cw : Nat), s40 = .int .i64 (i : Int) ∧ s3 = .slice Aw (len + l.length) cw ∧ ((i = 0 ∧ l = [q]) ∨ (i = 1 ∧ l = q :: D1) ∨ (i = 2 ∧ l = q :: (D1 ++ D2))) ∧ wr.ownsRow B 123 3 (.slice Aw (len + l.length) cw) (len + l.length) (xs ++ flatE E l) ∧ Below B w wr) (fun _ i _ => 2 - (intOf i).toNat)
        case atStart => exact ⟨0, [q], A7, c7, rfl, rfl, .inl ⟨rfl, rfl⟩, O9.out, B9.out⟩
        case round =>
          clear O9 B9
          obtain ⟨i, l, Aw, cw, rfl, rfl, hc, ho, hb⟩ := hrel
          have OW := Lib.hid ho
          have BW := Lib.hid hb
          have HW := Lib.hid (HH.out.under hu hb)
          clear ho hb
          rcases hc with ⟨rfl, rfl⟩ | ⟨rfl, rfl⟩ | ⟨rfl, rfl⟩
          · simp only [List.length_cons, List.length_nil, Nat.zero_add] at OW ⊢
            go_wp2_with fail
            refine (HIH.out x _ _ (len + 1) (xs ++ flatE E [q]) (by have := HX.out; omega) (by have := HX.out; omega) (by rw [D1'.out]; omega) (Nat.le_trans hB BW.out.size) HW.out OW.out).mono ?_
            rw [D1'.out]
            rintro e w10 ⟨v10, rfl, o10, b10⟩
            obtain ⟨A10, c10, rfl⟩ := own_form o10
            have O10 := Lib.hid o10
            have B10 := Lib.hid (BW.out.trans b10)
            clear o10 b10
            go_wp2_with fail
            go_roundw
            case rel =>
              refine ⟨1, q :: D1, A10, c10, by go_num, by rw [List.length_cons, show len + (D1.length + 1) = len + 1 + D1.length from by omega], .inr (.inl ⟨rfl, rfl⟩), ?_, B10.out⟩
              have := O10.out
              rw [List.length_cons, show len + (D1.length + 1) = len + 1 + D1.length from by omega, show q :: D1 = [q] ++ D1 from rfl, flatE_append, ← List.append_assoc]
              exact this
            case measure => simp [intOf]
          · simp only [List.length_cons] at OW ⊢
            go_wp2_with fail
            refine (HIH.out y _ _ (len + (D1.length + 1)) (xs ++ flatE E (q :: D1)) (by have := HY.out; omega) (by have := HY.out; omega) (by rw [D2'.out]; omega) (Nat.le_trans hB BW.out.size) HW.out OW.out).mono ?_
            rw [D2'.out]
            rintro e w10 ⟨v10, rfl, o10, b10⟩
            obtain ⟨A10, c10, rfl⟩ := own_form o10
            have O10 := Lib.hid o10
            have B10 := Lib.hid (BW.out.trans b10)
            clear o10 b10
            go_wp2_with fail
            go_roundw
            case rel =>
              refine ⟨2, q :: (D1 ++ D2), A10, c10, by go_num, by rw [List.length_cons, List.length_append, show len + (D1.length + D2.length + 1) = len + (D1.length + 1) + D2.length from by omega], .inr (.inr ⟨rfl, rfl⟩), ?_, B10.out⟩
              have := O10.out
              rw [List.length_cons, List.length_append, show len + (D1.length + D2.length + 1) = len + (D1.length + 1) + D2.length from by omega, show q :: (D1 ++ D2) = (q :: D1) ++ D2 from rfl, flatE_append, ← List.append_assoc]
              exact this
            case measure => simp [intOf]
          · go_wp2_with fail
            go_ret
            exact ⟨_, rfl, OW.out, BW.out⟩
      · have hD : dueI m E key (K + 1) q = [] := by
          have : ¬ (E q).k ≤ key := by rw [HE.out]; exact hk
          show (if q < m ∧ (E q).k ≤ key then _ else _) = _
          rw [if_neg (fun h => this h.2)]
        rw [hD]
        clear hD ih
        have k1 : key < k := by omega
        go_enter Try.func60, Try.ntmps60
        go_wp2_with fail
        refine (hlen_any _ HA.out).mono ?_
        rintro e w1 ⟨rfl, rfl⟩
        go_wp2_with fail
        go_ret
        exact ⟨_, rfl, by simpa [flatE] using HO.out, Below.refl _ _⟩
    · have hD : dueI m E key (K + 1) q = [] := by
        show (if q < m ∧ (E q).k ≤ key then _ else _) = _
        rw [if_neg (fun h => hqm h.1)]
      rw [hD]
      have e1 : (m : Int) ≤ (q : Int) := by omega
      have HA := Lib.hid h1
      have HO := Lib.hid hown
      clear h1 h hown hD ih
      go_enter Try.func60, Try.ntmps60
      go_wp2_with fail
      refine (hlen_any _ HA.out).mono ?_
      rintro e w1 ⟨rfl, rfl⟩
      go_wp2_with fail
      go_ret
      exact ⟨_, rfl, by simpa [flatE] using HO.out, Below.refl _ _⟩
end
end Go.Proofs.Ytjkklcigmikleaa
