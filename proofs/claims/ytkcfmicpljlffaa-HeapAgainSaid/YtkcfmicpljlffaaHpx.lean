/- The document's heap: a list in order, in memory; who comes ahead; where one is. -/
import Derived.Test.YtkcfmicpljlffaaHpw
import Derived.Deep.QuietTactic
import Derived.BigQuiet
namespace Go.Proofs.Ytkcfmicpljlffaa
open Go.ChangeShapes Go.WideShapes Go.RowKit
set_option linter.unusedVariables false
set_option linter.unusedSimpArgs false
/-- An entry as the document lays it. -/
def entR (e : En) : List Value := [.int .i64 e.m, .int .i64 e.k, .int .u64 e.t]
def flatR (L : List En) : List Value := L.flatMap entR
abbrev En.r (a : En) : Value := .agg #[.int .i64 a.m, .int .i64 a.k, .int .u64 a.t]
theorem flatR_len (L : List En) : (flatR L).length = L.length * 3 := by
  unfold flatR
  induction L with
  | nil => rfl
  | cons a l ih => rw [List.flatMap_cons, List.length_append, ih, List.length_cons]; simp [entR]; omega
theorem flatR_get : ∀ (L : List En) (i j : Nat), i < L.length → j < 3 → (flatR L)[i * 3 + j]? = (entR L[i]!)[j]?
  | [], i, j, hi, _ => by simp at hi
  | a :: L, 0, j, _, hj => by
    unfold flatR
    rw [List.flatMap_cons, List.getElem?_append_left (by simp [entR]; omega)]
    simp
  | a :: L, i + 1, j, hi, hj => by
    have h := flatR_get L i j (by simpa using hi) hj
    unfold flatR at h ⊢
    rw [List.flatMap_cons, List.getElem?_append_right (by simp [entR]; omega)]
    rw [show (i + 1) * 3 + j - (entR a).length = i * 3 + j from by simp [entR]; omega, h]
    simp
section
variable {w w' : World} {B k base x n : Nat} {v : Value} {L : List En}
/-- Element i of a row of entries that is ours. -/
theorem own_enr {i : Nat} (h : w.ownsRow B 46 3 v k (flatR L)) (hi : i < k) : ∃ g c, v = .slice (some ⟨g, 0, none⟩) k c ∧ B ≤ g ∧ g < w.heap.size ∧ w.cell? ⟨g, i * 3, none⟩ = some (.int .i64 (L[i]!).m) ∧ w.cell? ⟨g, i * 3 + 1, none⟩ = some (.int .i64 (L[i]!).k) ∧ w.cell? ⟨g, i * 3 + 2, none⟩ = some (.int .u64 (L[i]!).t) := by
  have hl := h.1
  rw [flatR_len] at hl
  rcases h.2 with ⟨_, h1⟩ | ⟨g, cap, cur, rfl, hb, hg, h1, h2, h3, h4⟩
  · omega
  · have hb' : Blk w g 46 cur := hg
    have hx : ∀ j, j < 3 → w.cell? ⟨g, i * 3 + j, none⟩ = (entR L[i]!)[j]? := fun j hj => by
      rw [hb'.at_, ← flatR_get L i j (by omega) hj, ← h4, List.getElem?_take_of_lt (by omega), Array.getElem?_toList]
    exact ⟨g, cap, rfl, hb, hb'.size, hx 0 (by omega), hx 1 (by omega), hx 2 (by omega)⟩
/-- Behind x lies the document's heap of room n that holds L. -/
structure DocL (base : Nat) (w : World) (x n : Nat) (L : List En) : Prop where
  ex : ∃ v, Blk w x 31 #[v, .int .i64 (n : Int)] ∧ w.ownsRow base 46 3 v L.length (flatR L)
/-- w' is w but for new blocks and blocks of other types. -/
structure TKept (ok : TypeId → Prop) (w w' : World) : Prop where
  os : w'.os = w.os
  tape : w'.tape = w.tape
  output : w'.output = w.output
  size : w.heap.size ≤ w'.heap.size
  blk : ∀ g t cs, Blk w g t cs → ok t → Blk w' g t cs
theorem TKept.refl (ok : TypeId → Prop) (w : World) : TKept ok w w := ⟨rfl, rfl, rfl, Nat.le_refl _, fun _ _ _ h _ => h⟩
theorem TKept.trans {ok : TypeId → Prop} {w'' : World} (h : TKept ok w w') (k : TKept ok w' w'') : TKept ok w w'' :=
  ⟨k.os.trans h.os, k.tape.trans h.tape, k.output.trans h.output, Nat.le_trans h.size k.size, fun g t cs hb ho => k.blk g t cs (h.blk g t cs hb ho) ho⟩
theorem TKept.of_kept {ok : TypeId → Prop} {own : Nat → Prop} (h : Kept own w w') (ho : ∀ g t cs, Blk w g t cs → ok t → ¬ own g) : TKept ok w w' :=
  ⟨h.os, h.tape, h.output, h.size, fun g t cs hb hk => hb.kept h (ho g t cs hb hk)⟩
theorem TKept.of_below {ok : TypeId → Prop} (h : Below w.heap.size w w') : TKept ok w w' := ⟨h.os, h.tape, h.output, h.size, fun g t cs hb _ => hb.below_ h hb.size⟩
theorem own_tkept {ok : TypeId → Prop} {sz : Nat} {e : TypeId} {xs : List Value} (h : w.ownsRow B e sz v k xs) (hk : TKept ok w w') (he : ok e) : w'.ownsRow B e sz v k xs := by
  refine ⟨h.1, ?_⟩
  rcases h.2 with h0 | ⟨g, cap, cur, hv, hb, hg, h1⟩
  · exact .inl h0
  · exact .inr ⟨g, cap, cur, hv, hb, hk.blk g e cur hg he, h1⟩
theorem DocL.tkept {ok : TypeId → Prop} (h : DocL base w x n L) (hk : TKept ok w w') (h1 : ok 31) (h2 : ok 46) : DocL base w' x n L := by
  obtain ⟨v, hb, ho⟩ := h.ex
  exact ⟨v, hk.blk _ _ _ hb h1, own_tkept ho hk h2⟩
theorem DocL.below (h : DocL base w x n L) (hb : Below w.heap.size w w') : DocL base w' x n L := h.tkept (ok := fun _ => True) (TKept.of_below hb) trivial trivial
set_option maxHeartbeats 1000000 in
theorem rahead (a b : En) (w : World) : Calls Try.prog 28 #[a.r, b.r] w fun e w' => ((ltE a b ∧ e = .returned (.bool true)) ∨ (¬ ltE a b ∧ e = .returned (.bool false))) ∧ Below w.heap.size w w' := by
  obtain ⟨ak, at_, am⟩ := a
  obtain ⟨bk, bt, bm⟩ := b
  by_cases h1 : ak = bk
  · by_cases h2 : at_ = bt
    · by_cases h3 : am < bm
      · have hL : ltE ⟨ak, at_, am⟩ ⟨bk, bt, bm⟩ := by unfold ltE; simp only; omega
        have HL := Lib.hid hL
        clear hL
        subst h1 h2
        go_enter Try.func28, Try.ntmps28
        go_wp2_with fail
        go_ret
        exact ⟨.inl ⟨HL.out, rfl⟩, ((Below.refl _ _).alloc (Nat.le_refl _) _).alloc (by simp) _⟩
      · have hL : ¬ ltE ⟨ak, at_, am⟩ ⟨bk, bt, bm⟩ := by unfold ltE; simp only; omega
        have HL := Lib.hid hL
        clear hL
        subst h1 h2
        have e3 : decide (am < bm) = false := decide_eq_false h3
        go_enter Try.func28, Try.ntmps28
        go_wp2_with fail
        go_ret
        exact ⟨.inr ⟨HL.out, rfl⟩, ((Below.refl _ _).alloc (Nat.le_refl _) _).alloc (by simp) _⟩
    · by_cases h3 : at_ < bt
      · have hL : ltE ⟨ak, at_, am⟩ ⟨bk, bt, bm⟩ := by unfold ltE; simp only; omega
        have HL := Lib.hid hL
        clear hL
        subst h1
        go_enter Try.func28, Try.ntmps28
        go_wp2_with fail
        go_ret
        exact ⟨.inl ⟨HL.out, rfl⟩, ((Below.refl _ _).alloc (Nat.le_refl _) _).alloc (by simp) _⟩
      · have hL : ¬ ltE ⟨ak, at_, am⟩ ⟨bk, bt, bm⟩ := by unfold ltE; simp only; omega
        have HL := Lib.hid hL
        clear hL
        subst h1
        have e3 : decide (at_ < bt) = false := decide_eq_false h3
        go_enter Try.func28, Try.ntmps28
        go_wp2_with fail
        go_ret
        exact ⟨.inr ⟨HL.out, rfl⟩, ((Below.refl _ _).alloc (Nat.le_refl _) _).alloc (by simp) _⟩
  · by_cases h3 : ak < bk
    · have hL : ltE ⟨ak, at_, am⟩ ⟨bk, bt, bm⟩ := by unfold ltE; simp only; omega
      have HL := Lib.hid hL
      clear hL
      go_enter Try.func28, Try.ntmps28
      go_wp2_with fail
      go_ret
      exact ⟨.inl ⟨HL.out, rfl⟩, ((Below.refl _ _).alloc (Nat.le_refl _) _).alloc (by simp) _⟩
    · have hL : ¬ ltE ⟨ak, at_, am⟩ ⟨bk, bt, bm⟩ := by unfold ltE; simp only; omega
      have HL := Lib.hid hL
      clear hL
      have e3 : decide (ak < bk) = false := decide_eq_false h3
      go_enter Try.func28, Try.ntmps28
      go_wp2_with fail
      go_ret
      exact ⟨.inr ⟨HL.out, rfl⟩, ((Below.refl _ _).alloc (Nat.le_refl _) _).alloc (by simp) _⟩
set_option maxRecDepth 20000 in
set_option maxHeartbeats 1000000 in
theorem rfind (i : Int) (w : World) (h : DocL base w x n L) (hl : L.length ≤ 1000000) : Calls Try.prog 20 #[.pointer (some ⟨x, 0, none⟩), .int .i64 i] w fun e w' => ((hasE i L = false ∧ e = .returned (.int .i64 (-1))) ∨ ∃ k, k < L.length ∧ (L[k]!).m = i ∧ e = .returned (.int .i64 (k : Int))) ∧ w = w' := by
  obtain ⟨v, hb, ho⟩ := h.ex
  obtain ⟨A, c, rfl⟩ := own_form ho
  have q0 := hb.val (i := 0) rfl
  have HO := Lib.hid ho
  obtain ⟨m, hm⟩ : ∃ m, L.length = m := ⟨_, rfl⟩
  rw [hm] at q0 HO hl
  have HM := Lib.hid hm
  clear h hb ho hm
  go_enter Try.func20, Try.ntmps20
  go_wp2_with fail
  go_loopw [5] (fun s5 wr => ∃ k : Nat, k ≤ m ∧ s5 = .int .i64 (k : Int) ∧ (∀ j, j < k → (L[j]!).m ≠ i) ∧ wr = w) (fun s _ => m - (intOf s).toNat)
  case atStart => exact ⟨0, Nat.zero_le _, rfl, fun j hj => absurd hj (by omega), rfl⟩
  case round =>
    obtain ⟨k, hk, rfl, hno, rfl⟩ := hrel
    have HNO := Lib.hid hno
    clear hno
    by_cases hlt : k < m
    · obtain ⟨g, c', hv, _, _, r0, r1, r2⟩ := own_enr HO.out hlt
      injection hv with hv1 hv2 hv3
      subst hv1 hv3
      obtain ⟨y, hy⟩ : ∃ y, (L[k]!).m = y := ⟨_, rfl⟩
      rw [hy] at r0
      have HY := Lib.hid hy
      have k0 : (0 : Int) ≤ (k : Int) := by omega
      have k1 : (k : Int) < (m : Int) := by omega
      clear r1 r2 hy hv2
      by_cases hyi : y = i
      · subst hyi
        go_wp2_with fail
        go_ret
        exact ⟨.inr ⟨k, by rw [HM.out]; exact hlt, HY.out, rfl⟩, rfl⟩
      · go_wp2_with fail
        go_roundw
        case rel => exact ⟨k + 1, by omega, by go_num, fun j hj => (by
          by_cases hjk : j = k
          · subst hjk; rw [HY.out]; exact hyi
          · exact HNO.out j (by omega)), by trivial⟩
        case measure => simp [intOf]; omega
    · obtain rfl : k = m := by omega
      go_wp2_with fail
      go_ret
      refine ⟨.inl ⟨?_, rfl⟩, rfl⟩
      rw [hasE_no]
      intro e he
      obtain ⟨j, hj, rfl⟩ := List.getElem_of_mem he
      have := HNO.out j (by rw [← HM.out]; exact hj)
      rwa [getElem!_pos L j hj] at this
end
end Go.Proofs.Ytkcfmicpljlffaa
