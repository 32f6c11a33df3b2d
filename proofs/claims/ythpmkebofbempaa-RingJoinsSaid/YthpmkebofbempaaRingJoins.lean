/- RingJoins is true of every capacity's number, every order and every number of rounds, and changes nothing that it was given. -/
import Derived.Test.YthpmkebofbempaaRngj
import Derived.Test.YthpmkebofbempaaRact
import Derived.Test.YthpmkebofbempaaBlkb
import Derived.Test.YthpmkebofbempaaRowb
import Derived.Test.YthpmkebofbempaaRows
import Derived.WalkKit
import Derived.ProofKit
import Derived.OpenShut
import Derived.Deep.DeepCutAuto
import Derived.Deep.CutBlock
import Derived.Laws.OwnMore
namespace Go.Proofs.Ythpmkebofbempaa.ringJoins
open Go.ChangeShapes Go.WideShapes Go.ChangeAt Go.RowKit
set_option linter.unusedVariables false
theorem own : ownKnob Try.prog.godebug = none := by kernel_rfl
theorem laidOut : laidOutB Try.prog = true := by kernel_rfl
theorem reads : (Try.f8.params.toList.all fun t => Try.prog.readableRec t && decide (t < Try.prog.types.size)) = true := by kernel_rfl
/-- The pointers to acts. -/
def ptrs (P : Nat → Nat) (k : Nat) : List Value := (List.range k).map fun j => Value.pointer (some ⟨P j, 0, none⟩)
theorem ptrs_len (P : Nat → Nat) (k : Nat) : (ptrs P k).length = k := by simp [ptrs]
theorem ptrs_snoc (P : Nat → Nat) (k a : Nat) : ptrs (fun j => if j = k then a else P j) (k + 1) = ptrs P k ++ [.pointer (some ⟨a, 0, none⟩)] := by
  unfold ptrs
  rw [List.range_succ, List.map_append]
  congr 1
  · refine List.map_congr_left fun j hj => ?_
    have : j < k := List.mem_range.1 hj
    show Value.pointer (some ⟨(if j = k then a else P j), 0, none⟩) = _
    rw [if_neg (by omega)]
  · simp
theorem ptrs_at (P : Nat → Nat) {k j : Nat} (hj : j < k) : (ptrs P k)[j]? = some (.pointer (some ⟨P j, 0, none⟩)) := by simp [ptrs, hj]
def swapP (P : Nat → Nat) (i j k : Nat) : Nat := if k = i then P j else if k = j then P i else P k
theorem ptrs_swap (P : Nat → Nat) {n i j : Nat} (hi : i < n) (hj : j < n) : ((ptrs P n).set i (.pointer (some ⟨P j, 0, none⟩))).set j (.pointer (some ⟨P i, 0, none⟩)) = ptrs (swapP P i j) n := by
  refine List.ext_getElem? fun k => ?_
  by_cases hk : k < n
  · rw [ptrs_at _ hk, List.getElem?_set, List.getElem?_set]
    unfold swapP
    simp only [List.length_set, ptrs_len]
    by_cases e1 : k = i
    · subst e1
      by_cases e2 : j = k
      · subst e2; simp [hk]
      · rw [if_neg e2, if_pos rfl, if_pos hk, if_pos rfl]
    · by_cases e2 : k = j
      · subst e2; simp [hk, e1]
      · rw [if_neg (Ne.symm e2), if_neg (Ne.symm e1), if_neg e1, if_neg e2, ptrs_at _ hk]
  · rw [List.getElem?_eq_none (by simp [ptrs_len]; omega), List.getElem?_eq_none (by simp [ptrs_len]; omega)]
theorem pinfo : (Try.prog.info? 39).map (fun i => (i.zero, i.size, i.bytes)) = some (some (.pointer none), 1, 8) := by kernel_rfl
/-- What an act that has joined knows. -/
def jn (b ρ k : Nat) : Ac := ⟨6, 0, b + k, 100 * (ρ : Int) + (k : Int), 0, false, false⟩
theorem joined (b ρ k : Nat) (w : World) (a r T : Nat) (v : Int) (h : ActAt w a r ⟨6, 0, T, v, 0, false, false⟩) (hT : T = b + k) (hv : v = 100 * (ρ : Int) + (k : Int)) : ActAt w a r (jn b ρ k) := by
  unfold jn; rw [← hT, ← hv]; exact h
/-- Distinct acts, from i on joined and not yet laid. -/
structure Crew (w : World) (base r n i b ρ : Nat) (P σ : Nat → Nat) : Prop where
  low : ∀ k, k < n → base ≤ P k ∧ P k < w.heap.size
  ne : ∀ k k', k < n → k' < n → k ≠ k' → P k ≠ P k'
  act : ∀ k, i ≤ k → k < n → ActAt w (P k) r (jn b ρ (σ k))
  lt : ∀ k, k < n → σ k < n
theorem Crew.kept {w w' : World} {base r n i b ρ : Nat} {P σ : Nat → Nat} {own : Nat → Prop} (h : Crew w base r n i b ρ P σ) (hk : Kept own w w') (ho : ∀ k, i ≤ k → k < n → ¬ own (P k)) : Crew w' base r n i b ρ P σ :=
  ⟨fun k hk' => ⟨(h.low k hk').1, Nat.lt_of_lt_of_le (h.low k hk').2 hk.size⟩, h.ne, fun k h1 h2 => (h.act k h1 h2).kept hk (ho k h1 h2), h.lt⟩
def ownA (w : World) (k : Nat) : Prop := ∃ cs, Blk w k 39 cs
theorem ownA_row {w : World} {base size n k : Nat} {v : Value} {xs : List Value} (h : w.ownsRow base 39 size v n xs) (hk : v.ownBlock = some k) : ownA w k := by
  rcases h.2 with ⟨rfl, _⟩ | ⟨g', cap', cur, rfl, _, hh, _⟩
  · cases hk
  · have : g' = k := by simpa [Value.ownBlock] using hk
    subst this
    exact ⟨cur, hh⟩
theorem ring_not_ownA {w : World} {r s n : Nat} {g : Rg} (h : RingAt w r s n g) : ¬ ownA w r ∧ ¬ ownA w s :=
  ⟨fun ⟨cs, hb⟩ => (h.apart hb (by decide) (by decide)).1 rfl, fun ⟨cs, hb⟩ => (h.apart hb (by decide) (by decide)).2 rfl⟩
theorem act_not_ownA {w : World} {a r : Nat} {c : Ac} (h : ActAt w a r c) : ¬ ownA w a := fun ⟨cs, hb⟩ => Blk.other h hb (by decide) rfl
theorem mine_not {w : World} {a r r' s n : Nat} {g : Rg} {c : Ac} (h : RingAt w r s n g) (ha : ActAt w a r' c) (k : Nat) (cs : Array Value) (hb : Blk w k 39 cs) : ¬ Mine a r s k := by
  have h1 := h.apart hb (by decide) (by decide)
  have h2 := hb.other ha (by decide)
  rintro (e | e | e)
  · exact h2 e
  · exact h1.1 e
  · exact h1.2 e
theorem Crew.mine {w : World} {base r s n m i b ρ a : Nat} {g : Rg} {P σ : Nat → Nat} (h : Crew w base r m i b ρ P σ) (hr : RingAt w r s n g) (ha : ∀ k, i ≤ k → k < m → P k ≠ a) : ∀ k, i ≤ k → k < m → ¬ Mine a r s (P k) := by
  intro k h1 h2
  have h3 := (h.act k h1 h2).apart hr
  rintro (e | e | e)
  · exact ha k h1 h2 e
  · exact h3.1 e
  · exact h3.2 e
theorem Crew.add {w : World} {base r i b ρ a : Nat} {P : Nat → Nat} (h : Crew w base r i 0 b ρ P id) (ha : ActAt w a r (jn b ρ i)) (hb : base ≤ a) (hn : ∀ k, k < i → P k ≠ a) : Crew w base r (i + 1) 0 b ρ (fun j => if j = i then a else P j) id := by
  refine ⟨fun k hk => ?_, fun k k' hk hk' hne => ?_, fun k _ hk => ?_, fun k hk => hk⟩
  · by_cases e : k = i
    · simp only [e, if_true]; exact ⟨hb, ha.size⟩
    · simp only [e, if_false]; exact h.low k (by omega)
  · by_cases e : k = i
    · have e' : ¬ k' = i := fun c => hne (e.trans c.symm)
      simp only [e, e', if_true, if_false]; exact fun c => hn k' (by omega) c.symm
    · by_cases e' : k' = i
      · simp only [e, e', if_true, if_false]; exact hn k (by omega)
      · simp only [e, e', if_false]; exact h.ne k k' (by omega) (by omega) hne
  · by_cases e : k = i
    · subst e; simp only [if_true]; exact ha
    · simp only [e, if_false]; exact h.act k (Nat.zero_le _) (by omega)
/-- What the ring has got of each place. -/
def Laid (g : Rg) (n i b ρ : Nat) (σ : Nat → Nat) : Prop := g.T = b + n ∧ g.H = b ∧ ∀ m, m < n → (∃ k, i ≤ k ∧ k < n ∧ σ k = m) ∨ (g.S ((b + m) % n) = b + m + 1 ∧ g.V ((b + m) % n) = 100 * (ρ : Int) + (m : Int))
def told (ρ n : Nat) : List Int := (List.range n).map fun m : Nat => 100 * (ρ : Int) + (m : Int)
theorem told_len (ρ n : Nat) : (told ρ n).length = n := by simp [told]
theorem told_at {ρ n k : Nat} (hk : k < (told ρ n).length) : (told ρ n)[k] = 100 * (ρ : Int) + (k : Int) := by simp [told]
theorem Laid.rest {g : Rg} {n b ρ : Nat} {σ : Nat → Nat} (h : Laid g n n b ρ σ) : Rest n g (told ρ n) := by
  obtain ⟨h1, h2, h3⟩ := h
  refine ⟨by rw [told_len]; exact Nat.le_refl _, by rw [told_len, h2]; exact h1, fun k hk => ?_, fun k hk hkn => ?_⟩
  · have hk' : k < n := by rw [told_len] at hk; exact hk
    rw [h2]
    rcases h3 k hk' with ⟨k', c1, c2, _⟩ | c
    · omega
    · rw [told_at hk]; exact c
  · rw [told_len] at hk; omega
theorem Laid.swap {g : Rg} {n i j b ρ : Nat} {σ : Nat → Nat} (h : Laid g n i b ρ σ) (hi : i ≤ j) (hj : j < n) : Laid g n i b ρ (swapP σ i j) := by
  obtain ⟨h1, h2, h3⟩ := h
  refine ⟨h1, h2, fun m hm => ?_⟩
  rcases h3 m hm with ⟨k, c1, c2, c3⟩ | c
  · by_cases e1 : k = i
    · exact .inl ⟨j, hi, hj, by unfold swapP; by_cases e : j = i
                                · rw [if_pos e, e]; rw [← c3, e1]
                                · rw [if_neg e, if_pos rfl, ← c3, e1]⟩
    · by_cases e2 : k = j
      · exact .inl ⟨i, Nat.le_refl _, by omega, by unfold swapP; rw [if_pos rfl, ← c3, e2]⟩
      · exact .inl ⟨k, c1, c2, by unfold swapP; rw [if_neg e1, if_neg e2]; exact c3⟩
  · exact .inr c
theorem Crew.swap {w : World} {base r n i j b ρ : Nat} {P σ : Nat → Nat} (h : Crew w base r n i b ρ P σ) (hi : i ≤ j) (hj : j < n) : Crew w base r n i b ρ (swapP P i j) (swapP σ i j) := by
  have hf : ∀ k, k < n → ∃ k', k' < n ∧ swapP P i j k = P k' ∧ swapP σ i j k = σ k' ∧ (i ≤ k → i ≤ k') ∧ k' = (if k = i then j else if k = j then i else k) := by
    intro k hk
    unfold swapP
    by_cases e1 : k = i
    · exact ⟨j, hj, by rw [if_pos e1], by rw [if_pos e1], fun _ => hi, by rw [if_pos e1]⟩
    · by_cases e2 : k = j
      · exact ⟨i, by omega, by rw [if_neg e1, if_pos e2], by rw [if_neg e1, if_pos e2], fun _ => Nat.le_refl _, by rw [if_neg e1, if_pos e2]⟩
      · exact ⟨k, hk, by rw [if_neg e1, if_neg e2], by rw [if_neg e1, if_neg e2], id, by rw [if_neg e1, if_neg e2]⟩
  refine ⟨fun k hk => ?_, fun k k' hk hk' hne => ?_, fun k h1 h2 => ?_, fun k hk => ?_⟩
  · obtain ⟨q, hq, e, _⟩ := hf k hk; rw [e]; exact h.low q hq
  · obtain ⟨q, hq, e, _, _, f⟩ := hf k hk
    obtain ⟨q', hq', e', _, _, f'⟩ := hf k' hk'
    rw [e, e']
    refine h.ne q q' hq hq' fun c => hne ?_
    rw [f, f'] at c
    split at c <;> split at c <;> (try split at c) <;> (try split at c) <;> omega
  · obtain ⟨q, hq, e, e2, hle, _⟩ := hf k h2; rw [e, e2]; exact h.act q (hle h1) hq
  · obtain ⟨q, hq, _, e2, _⟩ := hf k hk; rw [e2]; exact h.lt q hq
/-- One more is laid. -/
theorem Laid.lay {g : Rg} {n i b ρ j : Nat} {σ : Nat → Nat} (h : Laid g n i b ρ σ) (hi : i < n) (hs : σ i < n) (hj : (b + σ i) % n = j) :
    Laid { g with S := fun x => if x = j then b + σ i + 1 else g.S x, V := fun x => if x = j then 100 * (ρ : Int) + (σ i : Int) else g.V x } n (i + 1) b ρ σ := by
  obtain ⟨h1, h2, h3⟩ := h
  refine ⟨h1, h2, fun m hm => ?_⟩
  by_cases e : m = σ i
  · refine .inr ?_
    have : (b + m) % n = j := by rw [e]; exact hj
    simp only [this, if_true]
    rw [e]; exact ⟨rfl, rfl⟩
  · have hne : (b + m) % n ≠ j := by rw [← hj]; exact mod_ne hm hs e
    rcases h3 m hm with ⟨k, c1, c2, c3⟩ | c
    · by_cases e2 : k = i
      · exact absurd (by rw [← c3, e2]) e
      · exact .inl ⟨k, by omega, c2, c3⟩
    · refine .inr ?_
      simp only [hne, if_false]
      exact c
set_option maxRecDepth 100000 in
set_option maxHeartbeats 8000000 in
theorem walk (x : Int) (A : Option Addr) (len cap : Nat) (K : Nat → Nat) (y : Int) (w : World) (hl : len ≤ cap) (hc : cap ≤ maxLen) (hK : SeqAt w w.heap.size A len 1 (fun i => [.int .u8 (K i : Int)])) (hK5 : ∀ i, K i ≤ 255) (x0 : 0 ≤ x) (x1 : x ≤ 255) (y0 : 0 ≤ y) (y1 : y ≤ 255) :
    Calls Try.prog 8 #[.int .u8 x, .slice A len cap, .int .u8 y] w fun e w' => e = .returned (.bool true) ∧ Below w.heap.size w w' := by
  unfold maxLen at hc
  obtain ⟨n, hn⟩ : ∃ n, capE x = n := ⟨_, rfl⟩
  have hn8 : n = 2 ∨ n = 4 ∨ n = 8 := hn ▸ capE_cases x
  obtain ⟨R, hR⟩ : ∃ R : Nat, 1 + y % 5 = (R : Int) := ⟨(1 + y % 5).toNat, by omega⟩
  have r0 : 1 ≤ R := by omega
  have r5 : R ≤ 5 := by omega
  have HN := Lib.hid hn
  have HN8 := Lib.hid hn8
  have n2 : 2 ≤ n := by omega
  have n8 : n ≤ 8 := by omega
  have HK := Lib.hid hK
  have HK5 := Lib.hid hK5
  obtain ⟨i0, hi0, hz0, hz1, hz2⟩ := info_parts pinfo
  clear hn hn8 hK hK5
  go_enter Try.func8, Try.ntmps8
  go_wp2_with (first
    | (go_at_call 9; refine (awaker _).mono ?_; rintro e w0 ⟨rfl, hb0⟩)
    | (go_at_call 17; refine (rcapy _ _ x0 x1).mono ?_; rintro e wn ⟨rfl, rfl⟩; rw [HN.out])
    | (go_at_call 16; refine (rnew n _ HN8.out).mono ?_; rintro e w1 ⟨r, s, g0, rfl, hr, hs, h1, q1, t1, k1, b1⟩; have hzz := hb0.size; have H1 := Lib.hid h1; have R1 := Lib.hid q1; have T1 := Lib.hid t1; have B1 := Lib.hid (hb0.trans (b1.mono hzz)); clear h1 q1 t1 k1 b1 hb0))
  have hzw := B1.out.size
  go_loopw [35] (fun s35 wr => ∃ (ρ : Nat) (g : Rg), ρ ≤ R ∧ s35 = .int .i64 ρ ∧ RingAt wr r s n g ∧ Rest n g [] ∧ Hid (g.T = n * ρ) ∧ Below w.heap.size w wr) (fun i _ => R - (intOf i).toNat)
  case atStart => exact ⟨0, g0, Nat.zero_le _, rfl, H1.out, R1.out, Lib.hid T1.out, B1.out⟩
  case round =>
    obtain ⟨ρ, g, hρ, rfl, hr1, hq1, HT, hbr⟩ := hrel
    have hzr := hbr.size
    obtain ⟨b, hb⟩ : ∃ b, n * ρ = b := ⟨_, rfl⟩
    have hb40 : b ≤ 40 := by rw [← hb]; exact Nat.le_trans (Nat.mul_le_mul n8 (show ρ ≤ 5 by omega)) (by omega)
    have hT : g.T = b := by rw [HT.out]; exact hb
    have hH : g.H = b := by have := hq1.tail; simp at this; omega
    have RA := Lib.hid hr1
    have RQ := Lib.hid hq1
    have HB := Lib.hid hb
    have GT := Lib.hid hT
    have GH := Lib.hid hH
    have HBR := Lib.hid hbr
    clear hr1 hq1 hb hT hH hbr
    by_cases hlt : ρ < R
    · have hmul : (n : Int) * (ρ : Int) = (b : Int) := by rw [← HB.out]; simp
      obtain ⟨wo, rfl⟩ : ∃ wo, wo = wr := ⟨wr, rfl⟩
      go_wp2
      go_loopw [11, 39] (fun s11 s39 wr => ∃ (i : Nat) (P : Nat → Nat) (A : Option Addr) (c : Nat), i ≤ n ∧ s39 = .int .i64 i ∧ s11 = .slice A i c ∧ wr.ownsRow w.heap.size 39 1 (.slice A i c) i (ptrs P i) ∧ RingAt wr r s n { g with T := b + i } ∧ Crew wr w.heap.size r i 0 b ρ P id ∧ Below w.heap.size w wr) (fun _ i _ => n - (intOf i).toNat)
      case atStart =>
        refine ⟨0, fun _ => 0, none, 0, Nat.zero_le _, rfl, rfl, World.ownsRow_nil _ _ _ _, ?_, ⟨fun k hk => absurd hk (Nat.not_lt_zero k), fun k k' hk => absurd hk (Nat.not_lt_zero k), fun k _ hk => absurd hk (Nat.not_lt_zero k), fun k hk => absurd hk (Nat.not_lt_zero k)⟩, HBR.out⟩
        have e : ({ g with T := b + 0 } : Rg) = g := by rw [Nat.add_zero, ← GT.out]
        rw [e]
        exact RA.out
      case round =>
        obtain ⟨i, P, Al, cl, hi, rfl, rfl, hown, hr2, hcrew, hb2⟩ := hrel
        have hz2r := hb2.size
        have ⟨lr, ls⟩ := hr2.lts
        have R2 := Lib.hid hr2
        have CR := Lib.hid hcrew
        have OW := Lib.hid hown
        have B2 := Lib.hid hb2
        clear hr2 hcrew hown hb2
        by_cases hin : i < n
        · have hcast : ((b + i : Nat) : Int) = (b : Int) + (i : Int) := by omega
          have HCA := Lib.hid hcast
          clear hcast
          go_wp2_with fail
          refine (rjoin _ _).mono ?_
          rintro e w2 ⟨rfl, a2, b2⟩
          have A2 := Lib.hid a2
          have R3 := Lib.hid (R2.out.below b2 lr ls)
          have C3 := Lib.hid (CR.out.kept (Kept.of_below (own := fun _ => False) b2) (fun _ _ _ => id))
          have O3 := Lib.hid (own_below OW.out b2)
          have B3 := Lib.hid (B2.out.trans (b2.mono hz2r))
          have hz3 := b2.size
          clear a2 b2
          go_wp2_with fail
          refine (rstep5 _ R3.out A2.out (show b + i ≤ 900000 by omega)).mono ?_
          rintro e w3 ⟨rfl, h3, a3, k3⟩
          have A3 := Lib.hid a3
          have R4 := Lib.hid (show RingAt w3 r s n { g with T := b + (i + 1) } from h3)
          have C4 := Lib.hid (C3.out.kept k3 (C3.out.mine R3.out (fun k _ hk => by have := (CR.out.low k hk).2; omega)))
          have O4 := Lib.hid (own_kept O3.out k3 (mine_not R3.out A2.out))
          have B4 := Lib.hid (B3.out.trans (k3.below (B := w.heap.size) (fun k hk => by unfold Mine at hk; omega) (by omega)))
          have hz4 := k3.size
          clear h3 a3 k3
          go_wp2_with (first
            | (go_at_call 22; refine (rplace _ A3.out).mono ?_; rintro e w4 ⟨rfl, rfl⟩; rw [HCA.out])
            | (at_builtin; refine wpList_append_own _ rfl (.tmp 62) (.tmp 64) 59 rfl w.heap.size 39 i0 (.pointer none) 1 8 Try.underlying59 hi0 hz0 hz1 hz2 rfl (by decide) _ _ _ rfl (O4.out.alloc _) ⟨w3.heap.size, 0, none⟩ 1 1 [.pointer (some ⟨wr.heap.size, 0, none⟩)] rfl rfl (by intro j u hj; match j, hj with | 0, hj => simp at hj; subst hj; (try simp [Addr.add]); (try exact (Blk.new_ (by simp)).val rfl)) (by intro u hu; simp at hu; subst hu; rfl) (by unfold maxLen; omega) (by omega) (by have := B4.out.size; simp; omega) ?_; intro v7 w7 hown7 hg7 _; obtain ⟨A7, c7, rfl⟩ := own_form hown7; have O7 := Lib.hid hown7; have K7 := Lib.hid (show Kept (ownA (w3.alloc (.cells #[.pointer (some ⟨wr.heap.size, 0, none⟩)] 39))) (w3.alloc (.cells #[.pointer (some ⟨wr.heap.size, 0, none⟩)] 39)) w7 from (Kept.refl _ _).grown hg7 (fun k e => .inl (ownA_row (O4.out.alloc _) e))); have B7 := Lib.hid (Below.grown (B4.out.alloc B4.out.size (.cells #[.pointer (some ⟨wr.heap.size, 0, none⟩)] 39)) hg7 (by have := B4.out.size; simp; omega) (fun k e => own_base (O4.out.alloc (.cells #[.pointer (some ⟨wr.heap.size, 0, none⟩)] 39)) e)); clear hown7 hg7))
          have A5 := A3.out.alloc_ (.cells #[.pointer (some ⟨wr.heap.size, 0, none⟩)] 39)
          have R5 := R4.out.alloc_ (.cells #[.pointer (some ⟨wr.heap.size, 0, none⟩)] 39)
          have C5 := C4.out.kept ((Kept.refl (fun _ => False) w3).alloc_ (.cells #[.pointer (some ⟨wr.heap.size, 0, none⟩)] 39)) (fun _ _ _ => id)
          have C6 := Crew.add C5 (joined b ρ i _ _ _ _ _ A5 rfl rfl) (by omega) (fun k hk => by have := (CR.out.low k hk).2; omega)
          have C7 := Lib.hid (C6.kept K7.out (fun k h1 h2 => act_not_ownA (C6.act k h1 h2)))
          have R7 := Lib.hid (R5.kept K7.out (ring_not_ownA R5).1 (ring_not_ownA R5).2)
          clear A5 R5 C5 C6
          go_roundw
          case rel => exact ⟨i + 1, fun j => if j = i then wr.heap.size else P j, A7, c7, by omega, by go_num, rfl, by rw [ptrs_snoc]; exact O7.out, R7.out, C7.out, B7.out⟩
          case measure => simp [intOf]; omega
        · obtain rfl : n = i := by omega
          obtain ⟨gl, cl', e4, hgl1, hgl2⟩ := own_at OW.out (by omega)
          simp only [Value.slice.injEq] at e4
          obtain ⟨rfl, -, rfl⟩ := e4
          obtain ⟨wp, rfl⟩ : ∃ wp, wp = wr := ⟨wr, rfl⟩
          go_wp2
          go_loopw [68] (fun s68 wr => ∃ (i : Nat) (P σ : Nat → Nat) (g3 : Rg), i ≤ n ∧ s68 = .int .i64 i ∧ wr.ownsRow w.heap.size 39 1 (.slice (some ⟨gl, 0, none⟩) n cl) n (ptrs P n) ∧ RingAt wr r s n g3 ∧ Hid (Laid g3 n i b ρ σ) ∧ Crew wr w.heap.size r n i b ρ P σ ∧ Below w.heap.size w wr) (fun i _ => n - (intOf i).toNat)
          case atStart => exact ⟨0, P, id, _, Nat.zero_le _, rfl, OW.out, R2.out, Lib.hid ⟨rfl, GH.out, fun m hm => .inl ⟨m, Nat.zero_le _, hm, rfl⟩⟩, CR.out, B2.out⟩
          case round =>
            obtain ⟨i, P3, σ, g3, hi3, rfl, hown3, hr3, LD, hc3, hb3⟩ := hrel
            have hz3r := hb3.size
            have O3 := Lib.hid hown3
            have R3 := Lib.hid hr3
            have C3 := Lib.hid hc3
            have B3 := Lib.hid hb3
            clear hown3 hr3 hc3 hb3
            by_cases hi : i < n
            · go_upto_if 75 with fail
              go_cut [15] (fun s15 wx => ∃ j : Nat, i ≤ j ∧ j < n ∧ s15 = .int .i64 j ∧ wx = wr)
              case first =>
                by_cases hil : i < len
                · obtain ⟨kb, ko, rfl, hkb, hkc⟩ := HK.out (by omega)
                  obtain ⟨q, hq⟩ : ∃ q, K i = q := ⟨_, rfl⟩
                  have q255 : q ≤ 255 := by rw [← hq]; exact HK5.out i
                  have k0 : wr.cell? ⟨kb, ko + i, none⟩ = some (.int .u8 (q : Int)) := (B3.out.cell hkb).trans (by have := hkc i hil 0 (by omega); simp only [hq, Nat.mul_one, Nat.add_zero] at this; simpa using this)
                  obtain ⟨m, hm⟩ : ∃ m, n - i = m := ⟨_, rfl⟩
                  have hm0 : 0 < m := by omega
                  have hnm : (n : Int) - (i : Int) = (m : Int) := by omega
                  obtain ⟨jj, hjj⟩ : ∃ jj, q % m = jj := ⟨_, rfl⟩
                  have hjm : jj < m := by rw [← hjj]; exact Nat.mod_lt _ hm0
                  have ht : (q : Int).tmod (m : Int) = (jj : Int) := by rw [Int.tmod_eq_emod_of_nonneg (by omega), ← Int.natCast_emod, hjj]
                  have ht2 : (q : Int) % (m : Int) = (jj : Int) := by rw [← Int.natCast_emod, hjj]
                  have hmz : ¬ (m : Int) = 0 := by omega
                  have hi0' : (0 : Int) ≤ (i : Int) := by omega
                  have hi1' : (i : Int) < (len : Int) := by omega
                  have hin' : i + jj < n := by omega
                  clear hkc hq hjj hm
                  go_wp2
                  go_meet
                  exact ⟨i + jj, by omega, hin', by go_num, rfl⟩
                · go_wp2
                  go_meet
                  exact ⟨i, Nat.le_refl _, hi, rfl, rfl⟩
              case rest =>
                obtain ⟨j, hij, hjn, rfl, rfl⟩ := hcut
                have p1 : wc.cell? ⟨gl, i, none⟩ = some (.pointer (some ⟨P3 i, 0, none⟩)) := (O3.out.cellAt i (by omega)).trans (ptrs_at P3 hi)
                have p2 : wc.cell? ⟨gl, j, none⟩ = some (.pointer (some ⟨P3 j, 0, none⟩)) := (O3.out.cellAt j (by omega)).trans (ptrs_at P3 hjn)
                have f1 := O3.out.frozenAt i
                have f2 := O3.out.frozenAt j
                have hbl : ∃ cs, Blk wc gl 39 cs := ownA_row O3.out rfl
                have HBL := Lib.hid hbl
                clear hbl
                have i0' : (0 : Int) ≤ (i : Int) := by omega
                have i1' : (i : Int) < (n : Int) := by omega
                have j0' : (0 : Int) ≤ (j : Int) := by omega
                have j1' : (j : Int) < (n : Int) := by omega
                have HP : Hid (∀ u1 u2, u1 = Value.pointer (some ⟨P3 j, 0, none⟩) → u2 = Value.pointer (some ⟨P3 i, 0, none⟩) → ((wc.setCell ⟨gl, i, none⟩ u1).setCell ⟨gl, j, none⟩ u2).ownsRow w.heap.size 39 1 (.slice (some ⟨gl, 0, none⟩) n cl) n (ptrs (swapP P3 i j) n) ∧ RingAt ((wc.setCell ⟨gl, i, none⟩ u1).setCell ⟨gl, j, none⟩ u2) r s n g3 ∧ Crew ((wc.setCell ⟨gl, i, none⟩ u1).setCell ⟨gl, j, none⟩ u2) w.heap.size r n i b ρ (swapP P3 i j) (swapP σ i j) ∧ Below w.heap.size w ((wc.setCell ⟨gl, i, none⟩ u1).setCell ⟨gl, j, none⟩ u2)) := Lib.hid (by
                  rintro u1 u2 rfl rfl
                  obtain ⟨cs, hbk⟩ := HBL.out
                  have hk : Kept (fun k => k = gl) wc ((wc.setCell ⟨gl, i, none⟩ (.pointer (some ⟨P3 j, 0, none⟩))).setCell ⟨gl, j, none⟩ (.pointer (some ⟨P3 i, 0, none⟩))) := (((Kept.refl (fun k => k = gl) wc).set_ (p := ⟨gl, i, none⟩) (.inl rfl) _).set_ (p := ⟨gl, j, none⟩) (.inl rfl) _)
                  have hrg := R3.out.apart hbk (by decide) (by decide)
                  refine ⟨?_, R3.out.kept hk (fun e => hrg.1 e.symm) (fun e => hrg.2 e.symm), (C3.out.kept hk (fun k h1 h2 e => Blk.other (C3.out.act k h1 h2) hbk (by decide) e)).swap hij hjn, (B3.out.setCell (p := ⟨gl, i, none⟩) hgl1 _).setCell (p := ⟨gl, j, none⟩) hgl1 _⟩
                  have h2 := ((O3.out.stored i (.pointer (some ⟨P3 j, 0, none⟩))).1.stored j (.pointer (some ⟨P3 i, 0, none⟩))).1
                  rw [ptrs_swap P3 hi hjn] at h2
                  exact h2)
                go_upto_region 23 with fail
                go_cut [11] (fun s11 wx => s11 = .slice (some ⟨gl, 0, none⟩) n cl ∧ wx.ownsRow w.heap.size 39 1 (.slice (some ⟨gl, 0, none⟩) n cl) n (ptrs (swapP P3 i j) n) ∧ RingAt wx r s n g3 ∧ Crew wx w.heap.size r n i b ρ (swapP P3 i j) (swapP σ i j) ∧ Below w.heap.size w wx)
                case first =>
                  by_cases hji : j = i
                  · subst hji
                    go_region
                    all_goals (try go_wp2)
                    all_goals go_meet
                    all_goals
                      obtain ⟨q1, q2, q3, q4⟩ := HP.out _ _ rfl rfl
                      exact ⟨rfl, q1.drew, q2.drew_, q3.kept (Kept.refl (fun _ => False) _).drew_ (fun _ _ _ => id), q4.drew⟩
                  · have hij' : i ≠ j := fun e => hji e.symm
                    go_region
                    all_goals (try go_wp2)
                    all_goals go_meet
                    all_goals
                      obtain ⟨q1, q2, q3, q4⟩ := HP.out _ _ rfl rfl
                      exact ⟨rfl, q1.drew, q2.drew_, q3.kept (Kept.refl (fun _ => False) _).drew_ (fun _ _ _ => id), q4.drew⟩
                case rest =>
                  clear p1 p2 f1 f2 O3 R3 C3 B3 HP HBL
                  obtain ⟨rfl, ho4, hr4, hc4, hb4⟩ := hcut
                  obtain ⟨P4, hP4⟩ : ∃ P4, swapP P3 i j = P4 := ⟨_, rfl⟩
                  obtain ⟨σ4, hσ4⟩ : ∃ σ4, swapP σ i j = σ4 := ⟨_, rfl⟩
                  rw [hP4] at ho4 hc4
                  rw [hσ4] at hc4
                  have LD4 := Lib.hid (show Laid g3 n i b ρ σ4 by rw [← hσ4]; exact LD.out.swap hij hjn)
                  have p1 : wc.cell? ⟨gl, i, none⟩ = some (.pointer (some ⟨P4 i, 0, none⟩)) := (ho4.cellAt i (by omega)).trans (ptrs_at P4 hi)
                  have act4 : ActAt wc (P4 i) r ⟨6, 0, b + σ4 i, 100 * (ρ : Int) + (σ4 i : Int), 0, false, false⟩ := hc4.act i (Nat.le_refl _) hi
                  have hσn := hc4.lt i hi
                  obtain ⟨j6, hj6⟩ : ∃ j6, (b + σ4 i) % n = j6 := ⟨_, rfl⟩
                  have J6 := Lib.hid hj6
                  have O4 := Lib.hid ho4
                  have R4 := Lib.hid hr4
                  have C4 := Lib.hid hc4
                  have B4 := Lib.hid hb4
                  have A4 := Lib.hid act4
                  have hlow := (hc4.low i hi).1
                  clear hP4 hσ4 ho4 hr4 hc4 hb4 act4 hj6
                  go_wp2_with fail
                  refine (rstep6 _ R4.out A4.out J6.out (show b + σ4 i ≤ 900000 by omega)).mono ?_
                  rintro e w5 ⟨rfl, h5, a5, k5⟩
                  have O5 := Lib.hid (own_kept O4.out k5 (mine_not R4.out A4.out))
                  have p5 : w5.cell? ⟨gl, i, none⟩ = some (.pointer (some ⟨P4 i, 0, none⟩)) := (O5.out.cellAt i (by omega)).trans (ptrs_at P4 hi)
                  have R5 := Lib.hid h5
                  have A5 := Lib.hid a5
                  have C5 := Lib.hid (show Crew w5 w.heap.size r n (i + 1) b ρ P4 σ4 from by
                    have h := C4.out
                    have h6 : Crew wc w.heap.size r n (i + 1) b ρ P4 σ4 := ⟨h.low, h.ne, fun k h1 h2 => h.act k (by omega) h2, h.lt⟩
                    exact h6.kept k5 (h6.mine R4.out (fun k h1 h2 => h.ne k i h2 hi (by omega))))
                  have B5 := Lib.hid (B4.out.trans (k5.below (B := w.heap.size) (fun k hk => by unfold Mine at hk; omega) B4.out.size))
                  have LD5 := Lib.hid (LD4.out.lay hi hσn J6.out)
                  clear h5 a5 k5 p1
                  go_wp2_with (first
                    | (go_at_call 23; refine (rok _ A5.out).mono ?_; rintro e w6 ⟨rfl, rfl⟩; rw [show ((1 : Int) == 1) = true from rfl])
                    | (go_at_call 24; refine (rvalue _ A5.out).mono ?_; rintro e w6 ⟨rfl, rfl⟩))
                  go_roundw
                  case rel => exact ⟨i + 1, P4, σ4, _, by omega, by go_num, O5.out, R5.out, LD5, C5.out, B5.out⟩
                  case measure => simp [intOf]; omega
            · obtain rfl : n = i := by omega
              have LDR := Lib.hid (LD.out.rest)
              have hT3 : g3.T = b + n := LD.out.1
              have GT3 := Lib.hid hT3
              clear hT3
              obtain ⟨wq, rfl⟩ : ∃ wq, wq = wr := ⟨wr, rfl⟩
              go_wp2
              go_loopw [125] (fun s125 wr => ∃ (i : Nat) (g5 : Rg), i ≤ n ∧ s125 = .int .i64 i ∧ RingAt wr r s n g5 ∧ Hid (Rest n g5 ((told ρ n).drop i)) ∧ Hid (g5.T = b + n) ∧ Below w.heap.size w wr) (fun i _ => n - (intOf i).toNat)
              case atStart => exact ⟨0, g3, Nat.zero_le _, rfl, R3.out, Lib.hid (by rw [List.drop_zero]; exact LDR.out), Lib.hid GT3.out, B3.out⟩
              case round =>
                obtain ⟨i, g5, hi5, rfl, hr5, RS, HT5, hb5⟩ := hrel
                have hz5r := hb5.size
                have R5 := Lib.hid hr5
                have B5 := Lib.hid hb5
                clear hr5 hb5
                by_cases hi : i < n
                · have hd : (told ρ n).drop i = (100 * (ρ : Int) + (i : Int)) :: (told ρ n).drop (i + 1) := by
                    rw [List.drop_eq_getElem_cons (by rw [told_len]; exact hi), told_at]
                  have RS2 := Lib.hid (show Rest n g5 ((100 * (ρ : Int) + (i : Int)) :: (told ρ n).drop (i + 1)) by rw [← hd]; exact RS.out)
                  clear hd
                  go_wp2_with (go_at_call 13; refine (trypop_yes _ R5.out RS2.out (by rw [HT5.out]; omega)).mono ?_; rintro e w6 ⟨rfl, ⟨g6, h6, q6, t6, u6⟩, k6⟩; have R6 := Lib.hid h6; have Q6 := Lib.hid q6; have T6 := Lib.hid t6; have K6 := Lib.hid k6; clear h6 q6 t6 u6 k6)
                  go_roundw
                  case rel => exact ⟨i + 1, g6, by omega, by go_num, R6.out, Q6, Lib.hid (by rw [T6.out]; exact HT5.out), B5.out.trans (K6.out.below (B := w.heap.size) (fun k hk => by omega) B5.out.size)⟩
                  case measure => simp [intOf]; omega
                · obtain rfl : n = i := by omega
                  have RS2 := Lib.hid (show Rest n g5 [] by have := RS.out; rw [List.drop_of_length_le (by rw [told_len]; exact Nat.le_refl _)] at this; exact this)
                  go_wp2
                  go_roundw
                  case rel => exact ⟨ρ + 1, g5, by omega, by go_num, R5.out, RS2.out, Lib.hid (by rw [HT5.out, Nat.mul_succ, HB.out]), B5.out⟩
                  case measure => simp [intOf]; omega
    · obtain rfl : R = ρ := by omega
      go_wp2_with (first
        | (go_at_call 13; refine (trypop_no _ RA.out RQ.out (by rw [GT.out]; omega)).mono ?_; rintro e w6 ⟨rfl, h6, k6⟩; have R6 := Lib.hid h6; have K6 := Lib.hid k6; clear h6 k6)
        | (go_at_call 18; refine (trypush_yes 1 _ R6.out RQ.out n2 (by rw [GT.out]; omega) (by simp; omega)).mono ?_; rintro e w7 ⟨rfl, _, k7⟩; have K7 := Lib.hid k7; clear k7))
      go_ret
      exact ⟨rfl, HBR.out.trans ((K6.out.trans K7.out).below (B := w.heap.size) (fun k hk => by omega) HBR.out.size)⟩
set_option maxRecDepth 100000 in
theorem lifted (os : Os) (started : os.Started) (H : Type) (enc : TypeId × Value → H) :
    ReturnsInHanded {} Try.checked os 8 .any (Rows.ringJoinsSpec.pre6 enc Try.prog Try.f8 Rows.ringJoinsRow.domain false) (Rows.ringJoinsSpec.post enc Try.prog Try.f8 false true false false) := by
  refine returnsInHanded_of_change (C := Try.checked) own started (by kernel_rfl) Try.func8
    (ChangeSpec.witness6 (enc := enc) (C := Try.checked) false ⟨#[], #[.int .u8 0, .slice none 0 0, .int .u8 0], []⟩ 8 (by kernel_rfl) (by kernel_rfl) (by kernel_rfl) (by kernel_rfl)) ?_
  intro W base args ds gs before hval0 hW hcnd _
  have hval : ∀ (j : Nat) t v, Try.f8.params[j]? = some t → args[j]? = some v → Value.okWide Try.prog W .any base t v := hval0
  have hW' := hW
  obtain ⟨p, q, hA0, hV, rfl, hfz, hnd⟩ := hW
  have hA : DataW.TrodAll enc Try.prog W 0 (fun _ => true) true Try.f8.params.toList args.toList ds p := hA0
  rw [Try.params8] at hA hval
  obtain ⟨v0, vs0, d0, ds0, p0, q0, hargs, rfl, rfl, h0, r0⟩ := trodAll_cons hA
  obtain ⟨v1, vs1, d1, ds1, p1, q1, rfl, rfl, rfl, h1, r1⟩ := trodAll_cons r0
  obtain ⟨v2, vs2, d2, ds2, p2, q2, rfl, rfl, rfl, h2, r2⟩ := trodAll_cons r1
  obtain ⟨rfl, rfl, rfl⟩ := trodAll_nil r2
  obtain rfl : args = #[v0, v1, v2] := by cases args; simp_all
  obtain ⟨rfl, rfl⟩ := trodVars_none hV
  obtain ⟨a0, rfl, rfl, rfl, w0⟩ := open_int Try.underlying5 (hval 0 _ v0 rfl rfl) h0
  obtain ⟨A1, len1, cap1, rfl⟩ := okWide_slice Try.underlying58 (hval 1 _ v1 rfl rfl)
  obtain ⟨fu1, g1⟩ := h1
  obtain ⟨s1, t1, Q1, u1, o1⟩ := open_bys g1
  obtain ⟨a2, rfl, rfl, rfl, w2⟩ := open_int Try.underlying5 (hval 2 _ v2 rfl rfl) h2
  clear hA0 hval0
  obtain ⟨l0, m0⟩ := wf_u8 w0
  obtain ⟨l2, m2⟩ := wf_u8 w2
  refine (walk a0 A1 len1 cap1 Q1 a2 W s1 t1 u1 o1 l0 m0 l2 m2).mono fun e W' ⟨he, hg⟩ => ?_
  subst he
  exact ⟨_, rfl, post_of_law hW' rfl laidOut reads rfl Try.underlying4 rfl rfl rfl hg⟩
theorem over : Rows.ringJoinsRow.holds Try.pinned (OpenSpec.ofChange Rows.ringJoinsSpec) :=
  OpenClaim.holds_of_wide 8 Try.f8 rfl rfl rfl rfl rfl rfl rfl ⟨rfl, rfl, rfl, rfl, rfl⟩ rfl rfl rfl rfl rfl (by kernel_rfl) Try.func8 (by kernel_rfl)
    (of_decide_eq_true (by kernel_rfl)) (by unfold Func.isWrapper; first | (rw [if_pos (by decide +kernel)]; kernel_rfl) | (rw [if_neg (by decide +kernel)]; exact ⟨rfl, rfl⟩))
    (fun os started H enc _ => lifted os started H enc)
theorem proved : Rows.RingJoinsSaid := over
end Go.Proofs.Ythpmkebofbempaa.ringJoins
