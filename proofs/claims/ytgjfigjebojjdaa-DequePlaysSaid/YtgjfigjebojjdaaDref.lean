/- The document's rows: lists in memory. -/
import Derived.Test.YtgjfigjebojjdaaDli
import Derived.Laws.AppendOwnNone
import Derived.Deep.AppendLies
import Derived.Deep.RegionHeld3
import Derived.Deep.Onto
namespace Go.Proofs.Ytgjfigjebojjdaa
open Go.RowKit Go.Shelf
set_option linter.unusedVariables false
/-- The blocks of members, and of lists of members. -/
def ownD (w : World) (k : Nat) : Prop := ∃ cs, Blk w k 59 cs ∨ Blk w k 3 cs
theorem ownD_not {w : World} {k : Nat} {t : TypeId} {cs : Array Value} (h : Blk w k t cs) (h1 : t ≠ 59) (h2 : t ≠ 3) : ¬ ownD w k := by
  rintro ⟨cs', h' | h'⟩
  · exact h.other h' h1 rfl
  · exact h.other h' h2 rfl
theorem ownD_row {w : World} {base size n k : Nat} {v : Value} {xs : List Value} (h : w.ownsRow base 3 size v n xs) (hk : v.ownBlock = some k) : ownD w k := by
  rcases h.2 with ⟨rfl, _⟩ | ⟨g', cap', cur, rfl, _, hh, _⟩
  · cases hk
  · have : g' = k := by simpa [Value.ownBlock] using hk
    subst this
    exact ⟨cur, .inr hh⟩
/-- In w the document's rows behind ⟨q, 0⟩ are the lists L 0, .., L (N - 1), of members below M. -/
structure RefAt (w : World) (base q g N cap M : Nat) (L : Nat → List Nat) (v : Nat → Value) : Prop where
  qb : base ≤ q
  gb : base ≤ g
  nc : N ≤ cap
  n8 : N ≤ 8
  head : Blk w q 130 #[.slice (some ⟨g, 0, none⟩) N cap, .int .i64 (M : Int)]
  rows : ∃ cs, Blk w g 59 cs ∧ cs.size = cap ∧ ∀ r, r < N → cs[r]? = some (v r)
  own : ∀ r, r < N → w.ownsRow base 3 1 (v r) (L r).length (ints (L r))
  apart : ∀ r r', r < N → r' < N → r ≠ r' → ∀ k, (v r).ownBlock = some k → (v r').ownBlock ≠ some k
section
variable {w w' : World} {base q g N cap M : Nat} {L : Nat → List Nat} {v : Nat → Value}
theorem RefAt.low {base' : Nat} (h : RefAt w base q g N cap M L v) (hb : base' ≤ base) : RefAt w base' q g N cap M L v := by
  obtain ⟨a1, a2, a3, a4, hd, hrows, ho, hap⟩ := h
  exact ⟨by omega, by omega, a3, a4, hd, hrows, fun r hr => (ho r hr).mono hb, hap⟩
theorem RefAt.ownG (h : RefAt w base q g N cap M L v) : ownD w g := by obtain ⟨cs, b, _, _⟩ := h.rows; exact ⟨cs, .inl b⟩
theorem RefAt.h0 (h : RefAt w base q g N cap M L v) : w.cell? ⟨q, 0, none⟩ = some (.slice (some ⟨g, 0, none⟩) N cap) := h.head.val (i := 0) rfl
theorem RefAt.h1 (h : RefAt w base q g N cap M L v) : w.cell? ⟨q, 1, none⟩ = some (.int .i64 (M : Int)) := h.head.val (i := 1) rfl
theorem RefAt.row (h : RefAt w base q g N cap M L v) {r : Nat} (hr : r < N) : w.cell? ⟨g, r, none⟩ = some (v r) := by obtain ⟨cs, b, _, c⟩ := h.rows; exact b.val (c r hr)
theorem RefAt.zg (h : RefAt w base q g N cap M L v) (k : Nat) : w.frozen? ⟨g, k, none⟩ = false := by obtain ⟨cs, b, _, _⟩ := h.rows; exact b.free k
theorem RefAt.lq (h : RefAt w base q g N cap M L v) : q < w.heap.size := h.head.size
theorem RefAt.lg (h : RefAt w base q g N cap M L v) : g < w.heap.size := by obtain ⟨cs, b, _, _⟩ := h.rows; exact b.size
theorem RefAt.form (h : RefAt w base q g N cap M L v) {r : Nat} (hr : r < N) : ∃ A c, v r = .slice A (L r).length c := own_form (h.own r hr)
theorem RefAt.kept {own : Nat → Prop} (h : RefAt w base q g N cap M L v) (hk : Kept own w w') (hI : ∀ k t cs, Blk w k t cs → t = 130 ∨ t = 59 ∨ t = 3 → ¬ own k) : RefAt w' base q g N cap M L v := by
  obtain ⟨a1, a2, a3, a4, hd, ⟨cs, b, bz, bc⟩, ho, hap⟩ := h
  exact ⟨a1, a2, a3, a4, hd.kept hk (hI _ _ _ hd (.inl rfl)), ⟨cs, b.kept hk (hI _ _ _ b (.inr (.inl rfl))), bz, bc⟩, fun r hr => own_kept (ho r hr) hk fun k cs hb => hI _ _ _ hb (.inr (.inr rfl)), hap⟩
theorem RefAt.below (h : RefAt w base q g N cap M L v) (hb : Below w.heap.size w w') : RefAt w' base q g N cap M L v := h.kept (own := fun _ => False) (Kept.of_below hb) fun _ _ _ _ _ => id
theorem RefAt.drew_ (h : RefAt w base q g N cap M L v) : RefAt w.drew base q g N cap M L v := h.kept (own := fun _ => False) (Kept.refl _ _).drew_ fun _ _ _ _ _ => id
theorem RefAt.alloc_ (h : RefAt w base q g N cap M L v) (o : Obj) : RefAt (w.alloc o) base q g N cap M L v := h.kept (own := fun _ => False) ((Kept.refl _ _).alloc_ o) fun _ _ _ _ _ => id
theorem RefAt.congr {L' : Nat → List Nat} {v' : Nat → Value} (h : RefAt w base q g N cap M L v) (hL : ∀ r, r < N → L' r = L r) (hv : ∀ r, r < N → v' r = v r) : RefAt w base q g N cap M L' v' := by
  obtain ⟨a1, a2, a3, a4, hd, ⟨cs, b, bz, bc⟩, ho, hap⟩ := h
  exact ⟨a1, a2, a3, a4, hd, ⟨cs, b, bz, fun r hr => by rw [hv r hr]; exact bc r hr⟩, fun r hr => by rw [hv r hr, hL r hr]; exact ho r hr, fun r r' hr hr' hn => by rw [hv r hr, hv r' hr']; exact hap r r' hr hr' hn⟩
/-- A row is laid anew: in a block of its own, or in the one that it had. -/
theorem RefAt.put {L' : Nat → List Nat} (h : RefAt w base q g N cap M L v) {r : Nat} (hr : r < N) {u : Value} {w1 : World} {l : List Nat} (hg : w.grownBy w1 (v r).ownBlock) (hown : w1.ownsRow base 3 1 u l.length (ints l))
    (hat : ∀ k, u.ownBlock = some k → (v r).ownBlock = some k ∨ w.heap.size ≤ k) (hL : ∀ j, j < N → L' j = if j = r then l else L j) :
    RefAt (w1.setCell ⟨g, r, none⟩ u) base q g N cap M L' (fun j => if j = r then u else v j) := by
  obtain ⟨a1, a2, a3, a4, hd, ⟨cs, b, bz, bc⟩, ho, hap⟩ := h
  have hd1 := hd.grown_ hg (ho r hr) (by decide)
  have b1 := b.grown_ hg (ho r hr) (by decide)
  have hset : Kept (fun k => k = g) w1 (w1.setCell ⟨g, r, none⟩ u) := Kept.set_ (own := fun k => k = g) (Kept.refl _ _) (.inl rfl) u
  have hint : ∀ k cs, Blk w1 k 3 cs → ¬ k = g := fun k cs hb => hb.other b1 (by decide)
  refine ⟨a1, a2, a3, a4, hd1.far _ (hd1.other b1 (by decide)), ⟨_, b1.set_ r u, by simpa using bz, fun j hj => ?_⟩, fun j hj => ?_, fun j j' hj hj' hne k hk => ?_⟩
  · by_cases e : j = r
    · rw [if_pos e, e]; exact get_set_same (by omega) u
    · rw [if_neg e, get_set_far (fun e' => e e'.symm)]; exact bc j hj
  · rw [hL j hj]
    by_cases e : j = r
    · rw [if_pos e, if_pos e]; exact own_kept hown hset hint
    · rw [if_neg e, if_neg e]
      refine own_kept ((ho j hj).kept hg ?_) hset hint
      cases hb : (v j).ownBlock with
      | none => exact .inl rfl
      | some k => exact .inr fun c => hap j r hj hr e k hb c.symm
  · by_cases e : j = r
    · rw [if_pos e] at hk
      have e' : j' ≠ r := fun c => hne (e.trans c.symm)
      rw [if_neg e']
      intro c
      rcases hat k hk with h1 | h1
      · exact hap r j' hr hj' (fun x => e' x.symm) k h1 c
      · have := ((ho j' hj').lt k c).2
        omega
    · rw [if_neg e] at hk
      by_cases e' : j' = r
      · rw [if_pos e']
        intro c
        rcases hat k c with h1 | h1
        · exact hap j r hj hr e k hk h1
        · have := ((ho j hj).lt k hk).2
          omega
      · rw [if_neg e']; exact hap j j' hj hj' hne k hk
end
section
variable {base q g N cap M : Nat} {L : Nat → List Nat} {v : Nat → Value}
set_option maxHeartbeats 1000000 in
theorem rwhere_any (i : Int) (w : World) (h : RefAt w base q g N cap M L v) (hL : Lists N M L) (hM : M ≤ 1024) :
    Calls Try.prog 41 #[.pointer (some ⟨q, 0, none⟩), .int .i64 i] w fun e w' => e = .returned (.int .i64 (whE N M L i)) ∧ w = w' := by
  have q0 := h.h0
  have n8 := h.n8
  have nc := h.nc
  have H0 := Lib.hid h
  have HL := Lib.hid hL
  clear h hL
  go_enter Try.func41, Try.ntmps41
  go_wp2
  go_loop [5] (fun s5 => ∃ r : Nat, r ≤ N ∧ s5 = .int .i64 r ∧ Hid (∀ r', r' < r → ∀ x ∈ L r', (x : Int) ≠ i)) (fun s => N - (intOf s).toNat)
  case atStart => exact ⟨0, Nat.zero_le _, rfl, Lib.hid fun r' hr' => absurd hr' (Nat.not_lt_zero _)⟩
  case round =>
    obtain ⟨r, hr, rfl, HN⟩ := hrel
    by_cases hlt : r < N
    · have c1 := H0.out.row hlt
      obtain ⟨A, c, hv⟩ := H0.out.form hlt
      rw [hv] at c1
      have ho := H0.out.own r hlt
      rw [hv] at ho
      have HO := Lib.hid ho
      have hlen := HL.out.len hlt
      clear hv ho
      go_wp2
      go_loop [6] (fun s6 => ∃ k : Nat, k ≤ (L r).length ∧ s6 = .int .i64 k ∧ Hid (∀ x ∈ (L r).take k, (x : Int) ≠ i)) (fun s => (L r).length - (intOf s).toNat)
      case atStart => exact ⟨0, Nat.zero_le _, rfl, Lib.hid fun x hx => absurd hx (by simp)⟩
      case round =>
        obtain ⟨k, hk, rfl, HK⟩ := hrel
        by_cases hkl : k < (L r).length
        · obtain ⟨gg, rfl, hgb, hgl, x, hx, hcx⟩ := ints_at HO.out hkl
          by_cases hxi : (x : Int) = i
          · subst hxi
            have hxL : x ∈ L r := List.mem_of_getElem? hx
            have hx2 := HL.out.lt r hlt x hxL
            have hE : whE N M L (x : Int) = (r : Int) := by
              unfold whE
              rw [if_neg (by omega), Int.toNat_natCast]; exact HL.out.whF hlt hxL
            have HE := Lib.hid hE
            clear hxL hE hx
            go_wp2
            go_ret
            exact ⟨by rw [HE.out]; rfl, rfl⟩
          · have hne : ((x : Int) == i) = false := beq_eq_false_iff_ne.2 hxi
            have HX := Lib.hid hx
            have HXI := Lib.hid hxi
            clear hx hxi
            go_wp2
            go_round
            case rel =>
              refine ⟨k + 1, by omega, by go_num, Lib.hid ?_⟩
              intro y hy
              rw [List.take_add_one, HX.out] at hy
              rcases List.mem_append.1 hy with hy | hy
              · exact HK.out y hy
              · simp at hy; rw [hy]; exact HXI.out
            case measure => simp [intOf]; omega
        · go_wp2
          go_round
          case rel =>
            refine ⟨r + 1, by omega, by go_num, Lib.hid ?_⟩
            intro r' hr' x hx
            by_cases e : r' = r
            · subst e
              exact HK.out x (by rw [List.take_of_length_le (by omega)]; exact hx)
            · exact HN.out r' (by omega) x hx
          case measure => simp [intOf]; omega
    · obtain rfl : r = N := by omega
      have hE : whE r M L i = -1 := by
        unfold whE
        by_cases hi : i < 0 ∨ (M : Int) ≤ i
        · rw [if_pos hi]
        · rw [if_neg hi, whF_none]
          intro r' hr' hx
          exact HN.out r' hr' _ hx (by omega)
      have HE := Lib.hid hE
      clear hE
      go_wp2
      go_ret
      exact ⟨by rw [HE.out]; rfl, rfl⟩
end
end Go.Proofs.Ytgjfigjebojjdaa
