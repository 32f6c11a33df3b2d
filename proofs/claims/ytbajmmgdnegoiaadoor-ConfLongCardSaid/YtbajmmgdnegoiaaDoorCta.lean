/- Lines of a text, as lists of bytes: where they are cut, and what they say. -/
import Derived.Test.YtbajmmgdnegoiaaDoorCno
namespace Go.Proofs.YtbajmmgdnegoiaaDoor
open Go.ChangeShapes Go.WideShapes Go.ChangeAt Go.RowKit Kn
set_option linter.unusedVariables false
set_option linter.unusedSimpArgs false
/-- A text of its bytes. -/
def mkT (l : List UInt8) : ByteArray := ⟨l.toArray⟩
theorem mkT_list (l : List UInt8) : (mkT l).data.toList = l := rfl
theorem mkT_size (l : List UInt8) : (mkT l).size = l.length := by unfold mkT; show l.toArray.size = l.length; simp
theorem mkT_of (s : ByteArray) : mkT s.data.toList = s := by
  unfold mkT
  apply ByteArray.ext
  simp
theorem idx_in (a b : List UInt8) (c : UInt8) (h : c ∉ a) : Lib.indexByte (a ++ c :: b) c = (a.length : Int) := by
  induction a with
  | nil => simp [Lib.indexByte]
  | cons x a ih =>
    have h1 : x ≠ c := fun e => h (e ▸ List.mem_cons_self)
    have h2 := ih (fun m => h (List.mem_cons_of_mem _ m))
    rw [List.cons_append]
    unfold Lib.indexByte
    rw [if_neg (by simpa using h1), h2, if_neg (by intro q; simp at q)]
    simp
theorem idx_out (a : List UInt8) (c : UInt8) (h : c ∉ a) : Lib.indexByte a c = -1 := by
  induction a with
  | nil => rfl
  | cons x a ih =>
    have h1 : x ≠ c := fun e => h (e ▸ List.mem_cons_self)
    have h2 := ih (fun m => h (List.mem_cons_of_mem _ m))
    unfold Lib.indexByte
    rw [if_neg (by simpa using h1), h2]
    rfl
theorem mkT_extract (l : List UInt8) (i j : Nat) : (mkT l).extract i j = mkT ((l.drop i).take (j - i)) := by
  apply ByteArray.ext
  rw [ByteArray.data_extract]
  unfold mkT
  simp [List.extract_toArray, List.extract_eq_take_drop]
theorem cut_in (a b : List UInt8) (c : UInt8) (h : c ∉ a) : cutAt (mkT (a ++ c :: b)) c = (mkT a, mkT b, true) := by
  unfold cutAt
  rw [mkT_list, idx_in a b c h, if_neg (by omega), mkT_extract, mkT_extract, mkT_size]
  congr 1
  · congr 1
    simp
  · congr 1
    congr 1
    have e1 : ((a.length : Int).toNat + 1) = a.length + 1 := by simp
    rw [e1, List.drop_append, List.drop_of_length_le (by omega)]
    have e2 : a.length + 1 - a.length = 1 := by omega
    rw [e2]
    simp
    exact List.take_of_length_le (by omega)
theorem cut_out (a : List UInt8) (c : UInt8) (h : c ∉ a) : cutAt (mkT a) c = (mkT a, mkT [], false) := by
  unfold cutAt
  rw [mkT_list, idx_out a c h, if_pos rfl]
  rfl
/-- The digits of a number: each byte of them. -/
theorem dec_bytes (u : Nat) : ∀ c ∈ Lib.decDigits u, 48 ≤ c.toNat ∧ c.toNat ≤ 57 := by
  induction u using Nat.strongRecOn with
  | _ u ih =>
    intro c hc
    rw [Lib.decDigits] at hc
    by_cases h : u < 10
    · rw [dif_pos h] at hc
      rw [List.mem_singleton.1 hc, UInt8.toNat_ofNat']
      omega
    · rw [dif_neg h] at hc
      rcases List.mem_append.1 hc with m | m
      · exact ih (u / 10) (by omega) c m
      · rw [List.mem_singleton.1 m, UInt8.toNat_ofNat']
        omega
theorem dec_cons (u : Nat) : ∃ c r, Lib.decDigits u = c :: r := by
  have h := Lib.decDigits_length u
  have h1 := Lib.nDigits_pos u
  cases e : Lib.decDigits u with
  | nil => rw [e] at h; simp at h; omega
  | cons c r => exact ⟨c, r, rfl⟩
theorem itoa_bytes (n : Int) : ∀ c ∈ Lib.itoa n, c.toNat = 45 ∨ (48 ≤ c.toNat ∧ c.toNat ≤ 57) := by
  intro c hc
  unfold Lib.itoa at hc
  split at hc
  · rcases List.mem_cons.1 hc with rfl | m
    · exact .inl rfl
    · exact .inr (dec_bytes _ c m)
  · exact .inr (dec_bytes _ c hc)
theorem itoa_not (n : Int) (c : UInt8) (h : c.toNat ≠ 45) (h2 : c.toNat < 48 ∨ 57 < c.toNat) : c ∉ Lib.itoa n := fun m => by
  rcases itoa_bytes n c m with e | e <;> omega
theorem parse_snoc (M : Nat) (c : UInt8) : ∀ (l : List UInt8) (acc v : Nat), Lib.parseUintM M acc l = .ok v → Lib.parseUintM M acc (l ++ [c]) = Lib.parseUintM M v [c]
  | [], acc, v, h => by
    simp only [Lib.parseUintM] at h
    injection h with h
    subst h
    rfl
  | a :: l, acc, v, h => by
    rw [List.cons_append]
    unfold Lib.parseUintM at h ⊢
    split at h
    · rename_i h1
      rw [if_pos h1]
      split at h
      · cases h
      · rename_i h2
        rw [if_neg h2]
        split at h
        · cases h
        · rename_i h3
          rw [if_neg h3]
          exact parse_snoc M c l _ v h
    · cases h
theorem parse_dec (u : Nat) (h : u ≤ 18446744073709551615) : Lib.parseUintM 18446744073709551615 0 (Lib.decDigits u) = .ok u := by
  induction u using Nat.strongRecOn with
  | _ u ih =>
    rw [Lib.decDigits]
    by_cases h1 : u < 10
    · rw [dif_pos h1]
      have e : (UInt8.ofNat (48 + u)).toNat = 48 + u := by rw [UInt8.toNat_ofNat']; omega
      simp only [Lib.parseUintM, e]
      rw [if_pos (by omega), if_neg (by omega), if_neg (by omega)]
      congr 1
      omega
    · rw [dif_neg h1, parse_snoc _ _ _ _ (u / 10) (ih (u / 10) (by omega) (by omega))]
      have e : (UInt8.ofNat (48 + u % 10)).toNat = 48 + u % 10 := by rw [UInt8.toNat_ofNat']; omega
      simp only [Lib.parseUintM, e]
      rw [if_pos (by omega), if_neg (by omega), if_neg (by omega)]
      congr 1
      omega
theorem parse_itoa (n : Int) (h0 : -9223372036854775808 ≤ n) (h1 : n ≤ 9223372036854775807) : Lib.parseIntB 64 (Lib.itoa n) = .ok n := by
  have hU : ∀ u : Nat, u ≤ 18446744073709551615 → Lib.parseUintB 64 (Lib.decDigits u) = .ok u := by
    intro u hu
    unfold Lib.parseUintB
    obtain ⟨c, r, e⟩ := dec_cons u
    rw [if_neg (by rw [e]; simp)]
    exact parse_dec u hu
  unfold Lib.itoa
  by_cases hn : n < 0
  · rw [if_pos hn, Lib.parseIntB_minus, hU _ (by omega)]
    unfold Lib.signedC
    simp only
    rw [if_neg (by omega)]
    congr 1
    omega
  · rw [if_neg hn]
    have hU2 := hU n.toNat (by omega)
    obtain ⟨c, r, e⟩ := dec_cons n.toNat
    have hb := dec_bytes n.toNat c (by rw [e]; exact List.mem_cons_self)
    rw [e] at hU2 ⊢
    rw [Lib.parseIntB_plain 64 c r (by omega) (by omega), hU2]
    unfold Lib.signlessC
    simp only
    rw [if_neg (by omega)]
    congr 1
    omega
theorem numB_itoa (n : Int) (h0 : -9223372036854775808 ≤ n) (h1 : n ≤ 9223372036854775807) : numB (itoaB n) = some n := by
  unfold numB
  have e : (itoaB n).data.toList = Lib.itoa n := rfl
  rw [e, parse_itoa n h0 h1]
  simp
/-- A line of a part, without its end. -/
def lineL (i : Nat) (n : Int) : List UInt8 := (fnm i).data.toList ++ 32 :: Lib.itoa n
theorem fnm_clean : ∀ i, i < 16 → (32 : UInt8) ∉ (fnm i).data.toList ∧ (10 : UInt8) ∉ (fnm i).data.toList ∧ fidx (fnm i) = some i := by decide +kernel
theorem fnm_head : ∀ i, i < 16 → ∃ c r, (fnm i).data.toList = c :: r ∧ c.toNat ≠ 35 := by
  intro i hi
  have h : ∀ i, i < 16 → ((fnm i).data.toList.head?.map fun c => decide (c.toNat ≠ 35)) = some true := by decide +kernel
  have h1 := h i hi
  cases e : (fnm i).data.toList with
  | nil => rw [e] at h1; cases h1
  | cons c r =>
    rw [e] at h1
    refine ⟨c, r, rfl, ?_⟩
    simpa using h1
theorem line_no10 (i : Nat) (n : Int) (hi : i < 16) : (10 : UInt8) ∉ lineL i n := by
  unfold lineL
  intro m
  rcases List.mem_append.1 m with m | m
  · exact (fnm_clean i hi).2.1 m
  · rcases List.mem_cons.1 m with e | m
    · cases e
    · exact itoa_not n 10 (by decide) (by decide) m
theorem line_note (i : Nat) (n : Int) (hi : i < 16) : noteL (mkT (lineL i n)) = false := by
  obtain ⟨c, r, e, hc⟩ := fnm_head i hi
  unfold noteL lineL
  rw [e]
  rw [dif_pos (by rw [mkT_size]; simp)]
  show ((c.toNat : Int) == 35) = false
  simp
  omega
/-- A line of a part is applied. -/
theorem line_apply (i : Nat) (n : Int) (sn : Nat → Bool) (v : Nat → Int) (hi : i < 16) (h0 : -9223372036854775808 ≤ n) (h1 : n ≤ 9223372036854775807) :
    applyE (mkT (lineL i n)) sn v = if sn i then (2, sn, v) else (0, setB sn i true, setI v i n) := by
  have hc : cutAt (mkT (lineL i n)) 32 = (mkT (fnm i).data.toList, mkT (Lib.itoa n), true) := cut_in _ _ _ (fnm_clean i hi).1
  unfold applyE
  rw [line_note i n hi, hc, mkT_of, (fnm_clean i hi).2.2]
  have e : mkT (Lib.itoa n) = itoaB n := rfl
  rw [e, numB_itoa n h0 h1]
  rfl
/-- A line of a part, and what stands behind it. -/
theorem line_step (f i : Nat) (n : Int) (rest : List UInt8) (sn : Nat → Bool) (v : Nat → Int) (hi : i < 16) (h0 : -9223372036854775808 ≤ n) (h1 : n ≤ 9223372036854775807) :
    linesE (f + 1) (mkT (lineL i n ++ 10 :: rest)) sn v = if sn i then (2, v) else linesE f (mkT rest) (setB sn i true) (setI v i n) := by
  rw [linesE, cut_in _ _ _ (line_no10 i n hi)]
  simp only [line_apply i n sn v hi h0 h1]
  cases sn i <;> simp
theorem end_step (f : Nat) (sn : Nat → Bool) (v : Nat → Int) : linesE (f + 1) (mkT []) sn v = (0, v) := by
  unfold linesE
  rw [cut_out _ _ (by simp)]
  rfl
theorem note_step (f : Nat) (l rest : List UInt8) (sn : Nat → Bool) (v : Nat → Int) (h : noteL (mkT l) = true) (h10 : (10 : UInt8) ∉ l) :
    linesE (f + 1) (mkT (l ++ 10 :: rest)) sn v = linesE f (mkT rest) sn v := by
  rw [linesE, cut_in _ _ _ h10]
  have e : applyE (mkT l) sn v = (0, sn, v) := by unfold applyE; rw [if_pos h]
  simp [e]
/-- Lines of parts, one behind the other. -/
def linesL (v : Nat → Int) : List Nat → List UInt8
  | [] => []
  | i :: L => lineL i (v i) ++ 10 :: linesL v L
theorem linesL_app (v : Nat → Int) (L : List Nat) (i : Nat) : linesL v (L ++ [i]) = linesL v L ++ (lineL i (v i) ++ [10]) := by
  induction L with
  | nil => simp [linesL]
  | cons a L ih => simp [linesL, ih]
def fits (v : Nat → Int) : Prop := ∀ i, i < 16 → -9223372036854775808 ≤ v i ∧ v i ≤ 9223372036854775807
/-- All of them are told once: each has its number. -/
theorem lines_all (v : Nat → Int) (hv : fits v) : ∀ (L : List Nat) (f : Nat) (sn : Nat → Bool) (u : Nat → Int), L.length < f → (∀ i ∈ L, i < 16) → L.Nodup → (∀ i ∈ L, sn i = false) →
    (linesE f (mkT (linesL v L)) sn u).1 = 0 ∧ ∀ i, (linesE f (mkT (linesL v L)) sn u).2 i = if i ∈ L then v i else u i
  | [], f + 1, sn, u, _, _, _, _ => by
    unfold linesL
    rw [end_step]
    exact ⟨rfl, fun i => by simp⟩
  | [], 0, _, _, h, _, _, _ => absurd h (Nat.not_lt_zero _)
  | a :: L, 0, _, _, h, _, _, _ => absurd h (Nat.not_lt_zero _)
  | a :: L, f + 1, sn, u, hf, hm, hd, hs => by
    have ha := hm a List.mem_cons_self
    unfold linesL
    rw [line_step f a (v a) _ sn u ha (hv a ha).1 (hv a ha).2, if_neg (by rw [hs a List.mem_cons_self]; simp)]
    have hd2 := List.nodup_cons.1 hd
    have ih := lines_all v hv L f (setB sn a true) (setI u a (v a)) (by simpa using hf) (fun i m => hm i (List.mem_cons_of_mem _ m)) hd2.2 (fun i m => by
      unfold setB
      rw [if_neg (fun (e : i = a) => hd2.1 (e ▸ m))]
      exact hs i (List.mem_cons_of_mem _ m))
    refine ⟨ih.1, fun i => ?_⟩
    rw [ih.2 i]
    by_cases e : i ∈ L
    · rw [if_pos e, if_pos (List.mem_cons_of_mem _ e)]
    · rw [if_neg e]
      unfold setI
      by_cases e2 : i = a
      · subst e2; simp
      · rw [if_neg e2, if_neg (by simp [e, e2])]
/-- One is told twice. -/
theorem lines_twice (v : Nat → Int) (hv : fits v) (tail : List Nat) (b : Nat) : ∀ (L : List Nat) (f : Nat) (sn : Nat → Bool) (u : Nat → Int), L.length + 1 < f → (∀ i ∈ L, i < 16) → b < 16 → b ∉ L → L.Nodup → (∀ i ∈ L, sn i = false) → sn b = false →
    (linesE f (mkT (linesL v (L ++ b :: b :: tail))) sn u).1 = 2
  | [], f + 2, sn, u, _, _, hb, _, _, _, hs => by
    rw [List.nil_append]
    unfold linesL
    rw [line_step _ b (v b) _ sn u hb (hv b hb).1 (hv b hb).2, if_neg (by rw [hs]; simp)]
    unfold linesL
    rw [line_step _ b (v b) _ _ _ hb (hv b hb).1 (hv b hb).2, if_pos (by unfold setB; simp)]
  | [], 0, _, _, h, _, _, _, _, _, _ => absurd h (by omega)
  | [], 1, _, _, h, _, _, _, _, _, _ => absurd h (by simp)
  | a :: L, 0, _, _, h, _, _, _, _, _, _ => absurd h (by omega)
  | a :: L, f + 1, sn, u, hf, hm, hb, hnb, hd, hs, hsb => by
    have ha := hm a List.mem_cons_self
    rw [List.cons_append]
    unfold linesL
    rw [line_step f a (v a) _ sn u ha (hv a ha).1 (hv a ha).2, if_neg (by rw [hs a List.mem_cons_self]; simp)]
    have hd2 := List.nodup_cons.1 hd
    refine lines_twice v hv tail b L f (setB sn a true) (setI u a (v a)) (by simp at hf; omega) (fun i m => hm i (List.mem_cons_of_mem _ m)) hb (fun m => hnb (List.mem_cons_of_mem _ m)) hd2.2 (fun i m => ?_) ?_
    · unfold setB
      rw [if_neg (fun (e : i = a) => hd2.1 (e ▸ m))]
      exact hs i (List.mem_cons_of_mem _ m)
    · unfold setB
      rw [if_neg (fun e => hnb (by rw [e]; exact List.mem_cons_self))]
      exact hsb
end Go.Proofs.YtbajmmgdnegoiaaDoor
