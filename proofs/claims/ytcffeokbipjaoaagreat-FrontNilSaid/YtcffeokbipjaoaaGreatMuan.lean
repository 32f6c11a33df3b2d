/- Texts of this claim, one behind the other: Tqi. -/
import Derived.ChangeArms
import Derived.Test.YtcffeokbipjaoaaGreatMuae
import Derived.Test.YtcffeokbipjaoaaGreatMuam
namespace Go.Proofs.YtcffeokbipjaoaaGreat
open Go.ChangeShapes Go.WideShapes Go.RowKit
set_option linter.unusedVariables false
set_option linter.unusedSimpArgs false
structure Ts where
 V : Nat → Int
 H : Nat → Int
 T : Nat → Bool
 R : Nat → Rq
 m : Nat
 F : Nat → Nat
 L : Nat → List Nat
 ub : Int
 D : List En
structure TInv (N n K : Nat) (s : Ts) : Prop where
 mn : s.m ≤ n
 hh : ∀ i, i < n → s.H i % 4294967296 = (i : Int) ∧ 0 ≤ s.H i ∧ s.H i ≤ 4294967296 * K + 4294967295
 fl : ∀ j, j < s.m → s.F j < n ∧ s.T (s.F j) = false
 fi : ∀ j j', j < s.m → j' < s.m → s.F j = s.F j' → j = j'
 fs : ∀ i, i < n → s.T i = false → ∃ j, j < s.m ∧ s.F j = i
 tr : ∀ i, i < n → s.T i = true → 0 ≤ (s.R i).b ∧ (s.R i).b < (N : Int) ∧ i ∈ s.L (s.R i).b.toNat
 rt : ∀ r, r < N → ∀ i, i ∈ s.L r → i < n ∧ s.T i = true ∧ (s.R i).b = (r : Int)
 vh : ∀ i, i < n → s.T i = true → s.V i = s.H i
 dd : ∀ i, i < n → s.T i = true → ⟨(s.R i).d, (s.R i).a, (i : Int)⟩ ∈ s.D
 ds : ∀ e, e ∈ s.D → ∃ i : Nat, i < n ∧ s.T i = true ∧ e = ⟨(s.R i).d, (s.R i).a, (i : Int)⟩
 ub : s.ub ≤ K
def newS (n : Nat) : Ts := ⟨fun _ => 0, fun i => i, fun _ => false, fun _ => ⟨0, 0, 0, 0, 0⟩, n, fun j => n - 1 - j, fun _ => [], 0, []⟩
noncomputable def putS (s : Ts) (i m : Nat) (r : Rq) : Ts := ⟨fun j => if j = i then s.H i + 4294967296 else s.V j, fun j => if j = i then s.H i + 4294967296 else s.H j, fun j => if j = i then true else s.T j, fun j => if j = i then r else s.R j, m, s.F, pushL s.L r.b.toNat i, s.ub + 1, insE ⟨r.d, r.a, i⟩ s.D⟩
noncomputable def takS (N : Nat) (s : Ts) (i : Nat) : Ts := ⟨s.V, s.H, fun j => if j = i then false else s.T j, fun j => if j = i then ⟨0, 0, 0, 0, 0⟩ else s.R j, s.m + 1, fun j => if j = s.m then i else s.F j, remL N s.L i, s.ub, remK (i : Int) s.D⟩
theorem inj_onto {n : Nat} {F : Nat → Nat} (hb : ∀ j, j < n → F j < n) (hj : ∀ j j', j < n → j' < n → F j = F j' → j = j') (i : Nat) (hi : i < n) : ∃ j, j < n ∧ F j = i := by
 refine Classical.byContradiction fun c => ?_
 have hne : ∀ j, j < n → F j ≠ i := fun j h e => c ⟨j, h, e⟩
 have := pigeon n (n + 1) (fun k => if k = n then i else F k) (fun k hk => by
   by_cases d : k = n
   · simp only [d, if_pos]; exact hi
   · simp only [if_neg d]; exact hb k (by omega)) (fun a b ha hb' e => by
   by_cases d : a = n <;> by_cases d' : b = n
   · omega
   · simp only [d, if_pos, if_neg d'] at e; exact absurd e.symm (hne b (by omega))
   · simp only [d', if_pos, if_neg d] at e; exact absurd e (hne a (by omega))
   · simp only [if_neg d, if_neg d'] at e; exact hj a b (by omega) (by omega) e)
 omega
section
variable {N n K m i : Nat} {s : Ts} {r : Rq}
theorem TInv.new_ (N n : Nat) (hn : n ≤ 4096) : TInv N n 0 (newS n) where
 mn := Nat.le_refl _
 hh i hi := by show ((i : Int)) % 4294967296 = i ∧ 0 ≤ (i : Int) ∧ (i : Int) ≤ _; omega
 fl j hj := by show n - 1 - j < n ∧ false = false; exact ⟨by have : j < n := hj; omega, rfl⟩
 fi j j' hj hj' e := by have a : j < n := hj; have b : j' < n := hj'; have c : n - 1 - j = n - 1 - j' := e; omega
 fs i hi _ := ⟨n - 1 - i, by show n - 1 - i < n; omega, by show n - 1 - (n - 1 - i) = i; omega⟩
 tr i hi h := by cases h
 rt r hr i hi := by cases hi
 vh i hi h := by cases h
 dd i hi h := by cases h
 ds e he := by cases he
 ub := Int.le_refl _
theorem TInv.free (h : TInv N n K s) (hm : s.m = m + 1) : s.F m < n ∧ s.T (s.F m) = false := h.fl m (by omega)
theorem TInv.notin (h : TInv N n K s) (hi : s.T i = false) : inB N s.L i = false := by
 cases c : inB N s.L i with
 | false => rfl
 | true =>
   obtain ⟨r, hr, hm⟩ := inB_iff.1 c
   rw [(h.rt r hr i hm).2.1] at hi; cases hi
theorem TInv.nodue (h : TInv N n K s) (hi : s.T i = false) : hasE (i : Int) s.D = false := by
 rw [hasE_no]
 intro e he c
 obtain ⟨j, hj, ht, rfl⟩ := h.ds e he
 have : j = i := by have : (j : Int) = i := c; omega
 subst this
 rw [ht] at hi; cases hi
theorem TInv.isin (h : TInv N n K s) (hi : i < n) (ht : s.T i = true) : inB N s.L i = true := by
 obtain ⟨h1, h2, h3⟩ := h.tr i hi ht
 exact inB_iff.2 ⟨_, by omega, h3⟩
theorem TInv.isdue (h : TInv N n K s) (hi : i < n) (ht : s.T i = true) : hasE (i : Int) s.D = true := hasE_iff.2 ⟨_, h.dd i hi ht, rfl⟩
theorem TInv.room (h : TInv N n K s) (hi : i < n) (ht : s.T i = true) : s.m < n := by
 have h1 := h.mn
 rcases Nat.lt_or_ge s.m n with c | c
 · exact c
 · exfalso
   have e : s.m = n := by omega
   obtain ⟨j, hj, hF⟩ := inj_onto (F := s.F) (n := n) (fun j hj => (h.fl j (by omega)).1) (fun j j' hj hj' he => h.fi j j' (by omega) (by omega) he) i hi
   have := (h.fl j (by omega)).2
   rw [hF, ht] at this; cases this
theorem mem_pushL {L : Nat → List Nat} {t i j x : Nat} : x ∈ pushL L t i j ↔ x ∈ L j ∨ (j = t ∧ x = i) := by
 unfold pushL
 by_cases c : j = t
 · subst c; simp
 · simp [c]
theorem mem_remL {L : Nat → List Nat} {i j x : Nat} (hj : j < N) : x ∈ remL N L i j ↔ x ∈ L j ∧ x ≠ i := by
 unfold remL; rw [if_pos hj]; simp
theorem TInv.put (h : TInv N n K s) (hm : s.m = m + 1) (hi : s.F m = i) (b0 : 0 ≤ r.b) (b1 : r.b < (N : Int)) : TInv N n (K + 1) (putS s i m r) := by
 have hf := h.free hm
 rw [hi] at hf
 obtain ⟨hin, hit⟩ := hf
 have hmn := h.mn
 have hne : ∀ j, j < n → s.T j = true → j ≠ i := fun j hj ht e => by subst e; rw [ht] at hit; cases hit
 refine ⟨?_, ?_, ?_, ?_, ?_, ?_, ?_, ?_, ?_, ?_, ?_⟩
 · show m ≤ n; omega
 · intro j hj
   have h1 := h.hh j hj
   have h2 := h.hh i hin
   show (if j = i then s.H i + 4294967296 else s.H j) % 4294967296 = (j : Int) ∧ 0 ≤ (if j = i then s.H i + 4294967296 else s.H j) ∧ (if j = i then s.H i + 4294967296 else s.H j) ≤ _
   rw [Int.natCast_add, Int.mul_add]
   split
   · next e => subst e; omega
   · omega
 · intro j hj
   have hj' : j < m := hj
   have h1 := h.fl j (by omega)
   refine ⟨h1.1, ?_⟩
   show (if s.F j = i then true else s.T (s.F j)) = false
   rw [if_neg (fun e => by have := h.fi j m (by omega) (by omega) (e.trans hi.symm); omega)]
   exact h1.2
 · intro j j' hj hj' e
   have a : j < m := hj
   have b : j' < m := hj'
   exact h.fi j j' (by omega) (by omega) e
 · intro j hj ht
   have ht' : (if j = i then true else s.T j) = false := ht
   by_cases c : j = i
   · rw [if_pos c] at ht'; cases ht'
   · rw [if_neg c] at ht'
     obtain ⟨k, hk, e⟩ := h.fs j hj ht'
     refine ⟨k, ?_, e⟩
     show k < m
     rcases Nat.lt_or_ge k m with d | d
     · exact d
     · have : k = m := by omega
       subst this
       exact absurd (e.symm.trans hi) c
 · intro j hj ht
   have ht' : (if j = i then true else s.T j) = true := ht
   show 0 ≤ (if j = i then r else s.R j).b ∧ (if j = i then r else s.R j).b < (N : Int) ∧ j ∈ pushL s.L r.b.toNat i (if j = i then r else s.R j).b.toNat
   by_cases c : j = i
   · rw [if_pos c]; exact ⟨b0, b1, mem_pushL.2 (.inr ⟨rfl, c⟩)⟩
   · rw [if_neg c] at ht' ⊢
     have := h.tr j hj ht'
     exact ⟨this.1, this.2.1, mem_pushL.2 (.inl this.2.2)⟩
 · intro t ht j hj
   have hj' : j ∈ pushL s.L r.b.toNat i t := hj
   show j < n ∧ (if j = i then true else s.T j) = true ∧ (if j = i then r else s.R j).b = (t : Int)
   rcases mem_pushL.1 hj' with c | ⟨c, d⟩
   · have h1 := h.rt t ht j c
     have := hne j h1.1 h1.2.1
     rw [if_neg this, if_neg this]; exact h1
   · subst d
     rw [if_pos rfl, if_pos rfl]
     exact ⟨hin, rfl, by omega⟩
 · intro j hj ht
   have ht' : (if j = i then true else s.T j) = true := ht
   show (if j = i then s.H i + 4294967296 else s.V j) = (if j = i then s.H i + 4294967296 else s.H j)
   by_cases c : j = i
   · rw [if_pos c, if_pos c]
   · rw [if_neg c] at ht' ⊢
     rw [if_neg c]; exact h.vh j hj ht'
 · intro j hj ht
   have ht' : (if j = i then true else s.T j) = true := ht
   show (⟨(if j = i then r else s.R j).d, (if j = i then r else s.R j).a, (j : Int)⟩ : En) ∈ insE ⟨r.d, r.a, i⟩ s.D
   by_cases c : j = i
   · rw [if_pos c]; subst c; exact mem_ins.2 (.inl rfl)
   · rw [if_neg c] at ht' ⊢
     exact mem_ins.2 (.inr (h.dd j hj ht'))
 · intro e he
   have he' : e ∈ insE ⟨r.d, r.a, i⟩ s.D := he
   rcases mem_ins.1 he' with c | c
   · exact ⟨i, hin, by show (if i = i then true else s.T i) = true; rw [if_pos rfl], by show e = ⟨(if i = i then r else s.R i).d, (if i = i then r else s.R i).a, (i : Int)⟩; rw [if_pos rfl]; exact c⟩
   · obtain ⟨j, hj, ht, e'⟩ := h.ds e c
     have := hne j hj ht
     exact ⟨j, hj, by show (if j = i then true else s.T j) = true; rw [if_neg this]; exact ht, by show e = ⟨(if j = i then r else s.R j).d, (if j = i then r else s.R j).a, (j : Int)⟩; rw [if_neg this]; exact e'⟩
 · have := h.ub
   show s.ub + 1 ≤ ((K + 1 : Nat) : Int); omega
theorem TInv.tak (h : TInv N n K s) (hin : i < n) (hit : s.T i = true) : TInv N n K (takS N s i) := by
 have hroom := h.room hin hit
 have hfi : ∀ j, j < s.m → s.F j ≠ i := fun j hj e => by have := (h.fl j hj).2; rw [e, hit] at this; cases this
 refine ⟨?_, h.hh, ?_, ?_, ?_, ?_, ?_, ?_, ?_, ?_, h.ub⟩
 · show s.m + 1 ≤ n; omega
 · intro j hj
   have hj' : j < s.m + 1 := hj
   show (if j = s.m then i else s.F j) < n ∧ (if (if j = s.m then i else s.F j) = i then false else s.T (if j = s.m then i else s.F j)) = false
   by_cases c : j = s.m
   · rw [if_pos c, if_pos rfl]; exact ⟨hin, rfl⟩
   · rw [if_neg c, if_neg (hfi j (by omega))]; exact h.fl j (by omega)
 · intro j j' hj hj' e
   have a : j < s.m + 1 := hj
   have b : j' < s.m + 1 := hj'
   have e' : (if j = s.m then i else s.F j) = (if j' = s.m then i else s.F j') := e
   by_cases c : j = s.m
   · by_cases d : j' = s.m
     · omega
     · rw [if_pos c, if_neg d] at e'
       exact absurd e'.symm (hfi j' (by omega))
   · by_cases d : j' = s.m
     · rw [if_neg c, if_pos d] at e'
       exact absurd e' (hfi j (by omega))
     · rw [if_neg c, if_neg d] at e'
       exact h.fi j j' (by omega) (by omega) e'
 · intro j hj ht
   have ht' : (if j = i then false else s.T j) = false := ht
   by_cases c : j = i
   · exact ⟨s.m, by show s.m < s.m + 1; omega, by show (if s.m = s.m then i else s.F s.m) = j; rw [if_pos rfl, c]⟩
   · rw [if_neg c] at ht'
     obtain ⟨k, hk, e⟩ := h.fs j hj ht'
     exact ⟨k, by show k < s.m + 1; omega, by show (if k = s.m then i else s.F k) = j; rw [if_neg (by omega)]; exact e⟩
 · intro j hj ht
   have ht' : (if j = i then false else s.T j) = true := ht
   by_cases c : j = i
   · rw [if_pos c] at ht'; cases ht'
   · rw [if_neg c] at ht'
     have h1 := h.tr j hj ht'
     show 0 ≤ (if j = i then (⟨0, 0, 0, 0, 0⟩ : Rq) else s.R j).b ∧ (if j = i then (⟨0, 0, 0, 0, 0⟩ : Rq) else s.R j).b < (N : Int) ∧ j ∈ remL N s.L i (if j = i then (⟨0, 0, 0, 0, 0⟩ : Rq) else s.R j).b.toNat
     rw [if_neg c]
     exact ⟨h1.1, h1.2.1, (mem_remL (by omega)).2 ⟨h1.2.2, c⟩⟩
 · intro t ht j hj
   have hj' := (mem_remL ht).1 (show j ∈ remL N s.L i t from hj)
   have h1 := h.rt t ht j hj'.1
   show j < n ∧ (if j = i then false else s.T j) = true ∧ (if j = i then (⟨0, 0, 0, 0, 0⟩ : Rq) else s.R j).b = (t : Int)
   rw [if_neg hj'.2, if_neg hj'.2]; exact h1
 · intro j hj ht
   have ht' : (if j = i then false else s.T j) = true := ht
   by_cases c : j = i
   · rw [if_pos c] at ht'; cases ht'
   · rw [if_neg c] at ht'; exact h.vh j hj ht'
 · intro j hj ht
   have ht' : (if j = i then false else s.T j) = true := ht
   by_cases c : j = i
   · rw [if_pos c] at ht'; cases ht'
   · rw [if_neg c] at ht'
     show (⟨(if j = i then (⟨0, 0, 0, 0, 0⟩ : Rq) else s.R j).d, (if j = i then (⟨0, 0, 0, 0, 0⟩ : Rq) else s.R j).a, (j : Int)⟩ : En) ∈ remK (i : Int) s.D
     rw [if_neg c]
     unfold remK
     rw [List.mem_filter]
     exact ⟨h.dd j hj ht', by simp; omega⟩
 · intro e he
   have he' := List.mem_filter.1 (show e ∈ remK (i : Int) s.D from he)
   obtain ⟨j, hj, ht, rfl⟩ := h.ds e he'.1
   have c : j ≠ i := fun c => by have := he'.2; simp [c] at this
   exact ⟨j, hj, by show (if j = i then false else s.T j) = true; rw [if_neg c]; exact ht, by show _ = (⟨(if j = i then (⟨0, 0, 0, 0, 0⟩ : Rq) else s.R j).d, (if j = i then (⟨0, 0, 0, 0, 0⟩ : Rq) else s.R j).a, (j : Int)⟩ : En); rw [if_neg c]⟩
theorem alive_of {g : Int} {i : Nat} (h : TInv N n K s) (hi : i < n) (ht : s.T i = true) (hg : s.H i = g) : aliveB n s.H s.T g = true ∧ (g % 4294967296).toNat = i := by
 have h1 := h.hh i hi
 have e : (g % 4294967296).toNat = i := by rw [← hg]; omega
 refine ⟨?_, e⟩
 unfold aliveB
 rw [e]
 simp [hi, ht, hg]
end
end Go.Proofs.YtcffeokbipjaoaaGreat
namespace Go.Proofs.YtcffeokbipjaoaaGreat
open Go.ChangeShapes Go.WideShapes Go.RowKit
set_option linter.unusedVariables false
set_option linter.unusedSimpArgs false
structure TqL (w : World) (base q N n K : Nat) (s : Ts) : Prop where
 ex : ∃ hs sp sc sf rp ra rb hp hb A, TqAt w q hs sp sc sf rp ra rb hp hb A N n s.V s.H s.T s.R s.m s.F s.L s.ub s.D ∧ ∀ g, tOwn hs sp sc sf ra rb hp hb A g → base ≤ g
 inv : TInv N n K s
section
variable {w w' : World} {base q N n K m i : Nat} {s : Ts} {g : Int}
theorem TqL.below (h : TqL w base q N n K s) (hb : Below w.heap.size w w') : TqL w' base q N n K s := by
 obtain ⟨⟨hs, sp, sc, sf, rp, ra, rb, hp, hb', A, h1, h2⟩, h3⟩ := h
 exact ⟨⟨hs, sp, sc, sf, rp, ra, rb, hp, hb', A, h1.below hb, h2⟩, h3⟩
def Fr (w w' : World) (q n : Nat) : Prop := (∀ g cs, Blk w g 107 cs → Blk w' g 107 cs) ∧
 ∀ hs, w.cell? ⟨q, 4, none⟩ = some (.slice (some ⟨hs, 0, none⟩) n n) → w'.cell? ⟨q, 4, none⟩ = some (.slice (some ⟨hs, 0, none⟩) n n) ∧ ∀ g cs, Blk w g 105 cs → g ≠ hs → Blk w' g 105 cs
theorem TqAt.apart {hs sp sc sf rp ra rb hp hb : Nat} {A : Option Addr} {V H : Nat → Int} {T : Nat → Bool} {R : Nat → Rq} {F : Nat → Nat} {L : Nat → List Nat} {ub : Int} {D : List En} (h : TqAt w q hs sp sc sf rp ra rb hp hb A N n V H T R m F L ub D) {g : Nat} {t : TypeId} {cs : Array Value} (hg : Blk w g t cs) (h0 : g ≠ hs)
   (h1 : t ≠ 221) (h2 : t ≠ 223) (h3 : t ≠ 3) (h4 : t ≠ 216) (h5 : t ≠ 218) (h6 : t ≠ 226) (h7 : t ≠ 270) : ¬ tOwn hs sp sc sf ra rb hp hb A g := by
 obtain ⟨_, ⟨c4, t4⟩, _⟩ := h.heap.types
 rintro (e | e | e | e)
 · exact h0 e
 · exact h.slab.apart hg h1 h2 h3 e
 · exact h.rows.apart hg h4 h5 e
 · exact h.heap.apart hg h6 h7 (hg.other t4 h3) e
theorem TqAt.frame {hs sp sc sf rp ra rb hp hb : Nat} {A : Option Addr} {V H : Nat → Int} {T : Nat → Bool} {R : Nat → Rq} {F : Nat → Nat} {L : Nat → List Nat} {ub : Int} {D : List En} (h : TqAt w q hs sp sc sf rp ra rb hp hb A N n V H T R m F L ub D) (hk : Kept (tOwn hs sp sc sf ra rb hp hb A) w w') : Fr w w' q n := by
 obtain ⟨cs0, b0, _⟩ := h.hand
 refine ⟨fun g cs hg => hg.kept hk (h.apart hg (hg.other b0 (by decide)) (by decide) (by decide) (by decide) (by decide) (by decide) (by decide) (by decide)), fun hs' he => ?_⟩
 have e := h.q4
 rw [he] at e
 injection e with e; injection e with e _ _; injection e with e; injection e with e
 subst e
 refine ⟨?_, fun g cs hg hne => hg.kept hk (h.apart hg hne (by decide) (by decide) (by decide) (by decide) (by decide) (by decide) (by decide))⟩
 rw [← he]
 exact World.cell?_of_block (hk.block q h.sizes.1 (h.apart h.head (h.head.other b0 (by decide)) (by decide) (by decide) (by decide) (by decide) (by decide) (by decide) (by decide)))
theorem Fr.below (h : Fr w w' q n) {w'' : World} (hb : Below w'.heap.size w' w'') : Fr w w'' q n :=
 ⟨fun g cs hg => (h.1 g cs hg).below_ hb (h.1 g cs hg).size, fun hs he => ⟨(hb.cell (klt (h.2 hs he).1)).trans (h.2 hs he).1, fun g cs hg hne => ((h.2 hs he).2 g cs hg hne).below_ hb ((h.2 hs he).2 g cs hg hne).size⟩⟩
theorem TqL.boxed (h : TqL w base q N n K s) {g i : Nat} {cs : Array Value} {u : Value} (hg : Blk w g 107 cs) : TqL (w.setCell ⟨g, i, none⟩ u) base q N n K s := by
 obtain ⟨⟨hs, sp, sc, sf, rp, ra, rb, hp, hb', A, h1, h2⟩, h3⟩ := h
 exact ⟨⟨hs, sp, sc, sf, rp, ra, rb, hp, hb', A, h1.boxed hg, h2⟩, h3⟩
theorem TqL.hand (h : TqL w base q N n K s) : ∃ hs, w.cell? ⟨q, 4, none⟩ = some (.slice (some ⟨hs, 0, none⟩) n n) ∧ hs < w.heap.size ∧ q < w.heap.size := by
 obtain ⟨⟨hs, sp, sc, sf, rp, ra, rb, hp, hb', A, h1, h2⟩, h3⟩ := h
 exact ⟨hs, h1.q4, h1.sizes.2, h1.sizes.1⟩
theorem TqL.size (h : TqL w base q N n K s) : base ≤ w.heap.size := by
 obtain ⟨⟨hs, sp, sc, sf, rp, ra, rb, hp, hb', A, h1, h2⟩, h3⟩ := h
 have := h2 hs (.inl rfl)
 have := h1.sizes.2
 omega
theorem TqL.lists (h : TqL w base q N n K s) : Lists N n s.L := by
 obtain ⟨⟨hs, sp, sc, sf, rp, ra, rb, hp, hb', A, h1, h2⟩, h3⟩ := h
 exact h1.rows.lists
theorem TqL.up (h : TqL w base q N n K s) : s.D.Pairwise ltE := by
 obtain ⟨⟨hs, sp, sc, sf, rp, ra, rb, hp, hb', A, h1, h2⟩, h3⟩ := h
 exact h1.heap.heapL.up
theorem TqL.n0 (h : TqL w base q N n K s) : n ≤ 1024 := by
 obtain ⟨⟨hs, sp, sc, sf, rp, ra, rb, hp, hb', A, h1, h2⟩, h3⟩ := h
 exact h1.slab.n0
theorem tq_len (h : TqL w base q N n K s) : Calls Tryz.prog 87 #[.pointer (some ⟨q, 0, none⟩)] w fun e w' => e = .returned (.int .i64 ((n : Int) - s.m)) ∧ Below w.heap.size w w' := by
 obtain ⟨⟨hs, sp, sc, sf, rp, ra, rb, hp, hb, A, h1, h2⟩, h3⟩ := h
 exact tlen w h1
theorem tq_last {t : Nat} (h : TqL w base q N n K s) (ht : t < N) (hn : 0 < (s.L t).length) (hz : ∀ r, t < r → r < N → (s.L r).length = 0) (hN : N ≤ 1000) :
   Calls Tryz.prog 168 #[.pointer (some ⟨q, 0, none⟩)] w fun e w' => e = .returned (.tuple #[.int .i64 (t : Int), .bool true]) ∧ w = w' := by
 obtain ⟨⟨hs, sp, sc, sf, rp, ra, rb, hp, hb, A, h1, h2⟩, h3⟩ := h
 exact tlast_some ht hn hz w h1 hN
theorem tq_due (now : Int) (h : TqL w base q N n K s) :
   Calls Tryz.prog 81 #[.pointer (some ⟨q, 0, none⟩), .int .i64 now] w fun e w' => ∃ g, e = .returned (.slice (some ⟨g, 0, none⟩) (dueE now s.D).length (dueE now s.D).length) ∧ OwH w' w.heap.size (.slice (some ⟨g, 0, none⟩) (dueE now s.D).length (dueE now s.D).length) (dueE now s.D).length (fun i => s.V (memE (dueE now s.D) i)) ∧ Below w.heap.size w w' := by
 obtain ⟨⟨hs, sp, sc, sf, rp, ra, rb, hp, hb, A, h1, h2⟩, h3⟩ := h
 exact tdue now w h1
end
end Go.Proofs.YtcffeokbipjaoaaGreat
namespace Go.Proofs.YtcffeokbipjaoaaGreat
open Go.ChangeShapes Go.WideShapes Go.RowKit Go.Deep
set_option linter.unusedVariables false
set_option linter.unusedSimpArgs false
theorem SeqAt.up {w w' : World} {B B' : Nat} {A : Option Addr} {len sz : Nat} {row : Nat → List Value} (h : SeqAt w B A len sz row) (hb : Below B w w') (hB : B ≤ B') : SeqAt w' B' A len sz row := by
 intro hl
 obtain ⟨b, off, e, hk, hc⟩ := h.below hb hl
 exact ⟨b, off, e, Nat.lt_of_lt_of_le hk hB, hc⟩
section
variable {H : Type} {enc : TypeId × Value → H} {w : World}
end
section
variable {K T : Nat → Int} {L : List En} {a b : Int}
end
end Go.Proofs.YtcffeokbipjaoaaGreat
namespace Go.Proofs.YtcffeokbipjaoaaGreat
open Go.ChangeShapes Go.WideShapes Go.RowKit
set_option linter.unusedVariables false
set_option linter.unusedSimpArgs false
def SortR (N : Nat) (s : Ts) : Prop := ∀ t, t < N → (s.L t).Pairwise fun x y => (s.R x).a < (s.R y).a
theorem least_row {P : Nat → Prop} (hd : ∀ t, P t ∨ ¬ P t) : ∀ N : Nat, (∃ t, t < N ∧ P t) → ∃ t, t < N ∧ P t ∧ ∀ r, r < t → ¬ P r
 | 0, ⟨t, h, _⟩ => absurd h (Nat.not_lt_zero t)
 | N + 1, h => by
   by_cases c : ∃ t, t < N ∧ P t
   · obtain ⟨t, h1, h2, h3⟩ := least_row hd N c
     exact ⟨t, by omega, h2, h3⟩
   · obtain ⟨t, h1, h2⟩ := h
     have : t = N := by
       rcases Nat.lt_or_ge t N with d | d
       · exact absurd ⟨t, d, h2⟩ c
       · omega
     subst this
     exact ⟨t, h1, h2, fun r hr hp => c ⟨r, hr, hp⟩⟩
section
variable {N n K m i : Nat} {s : Ts} {r : Rq}
theorem TInv.some_ (h : TInv N n K s) (hm : s.m < n) : ∃ i, i < n ∧ s.T i = true := by
 refine Classical.byContradiction fun c => ?_
 have hf : ∀ i, i < n → s.T i = false := fun i hi => by
   cases ht : s.T i with
   | false => rfl
   | true => exact absurd ⟨i, hi, ht⟩ c
 have := pigeon s.m n (fun i => if hi : i < n then (h.fs i hi (hf i hi)).choose else 0) (fun k hk => by simp only [hk, dif_pos]; exact (h.fs k hk (hf k hk)).choose_spec.1)
   (fun a b ha hb e => by
     simp only [ha, hb, dif_pos] at e
     have ea := (h.fs a ha (hf a ha)).choose_spec.2
     have eb := (h.fs b hb (hf b hb)).choose_spec.2
     rw [← ea, ← eb, e])
 omega
theorem TInv.first (h : TInv N n K s) (hm : s.m < n) : ∃ t, t < N ∧ 0 < (s.L t).length ∧ ∀ r, r < t → (s.L r).length = 0 := by
 obtain ⟨i, hi, ht⟩ := h.some_ hm
 obtain ⟨h1, h2, h3⟩ := h.tr i hi ht
 obtain ⟨t, h4, h5, h6⟩ := least_row (P := fun t => 0 < (s.L t).length) (fun t => by omega) N ⟨(s.R i).b.toNat, by omega, List.length_pos_of_mem h3⟩
 exact ⟨t, h4, h5, fun r hr => by have := h6 r hr; omega⟩
theorem SortR.put (h : SortR N s) (hv : TInv N n K s) (hm : s.m = m + 1) (hi : s.F m = i) (ha : ∀ j, j < n → s.T j = true → (s.R j).a < r.a) : SortR N (putS s i m r) := by
 have hf := hv.free hm
 rw [hi] at hf
 intro t ht
 have hne : ∀ x, x ∈ s.L t → x ≠ i := fun x hx e => by
   have := (hv.rt t ht x hx).2.1
   rw [e, hf.2] at this; cases this
 show (pushL s.L r.b.toNat i t).Pairwise fun x y => (if x = i then r else s.R x).a < (if y = i then r else s.R y).a
 have h1 : (s.L t).Pairwise fun x y => (if x = i then r else s.R x).a < (if y = i then r else s.R y).a :=
   (h t ht).imp_of_mem fun {x y} hx hy hxy => by rw [if_neg (hne x hx), if_neg (hne y hy)]; exact hxy
 unfold pushL
 split
 · next e =>
   subst e
   rw [List.pairwise_append]
   refine ⟨h1, List.pairwise_singleton _ _, fun x hx y hy => ?_⟩
   have : y = i := by simpa using hy
   subst this
   rw [if_neg (hne x hx), if_pos rfl]
   have h2 := hv.rt _ ht x hx
   exact ha x h2.1 h2.2.1
 · exact h1
theorem SortR.tak (h : SortR N s) : SortR N (takS N s i) := by
 intro t ht
 show (remL N s.L i t).Pairwise fun x y => (if x = i then (⟨0, 0, 0, 0, 0⟩ : Rq) else s.R x).a < (if y = i then (⟨0, 0, 0, 0, 0⟩ : Rq) else s.R y).a
 unfold remL
 rw [if_pos ht]
 refine ((h t ht).sublist List.filter_sublist).imp_of_mem fun {x y} hx hy hxy => ?_
 have a := (List.mem_filter.1 hx).2
 have b := (List.mem_filter.1 hy).2
 rw [if_neg (by simpa using a), if_neg (by simpa using b)]
 exact hxy
theorem SortR.new_ (N n : Nat) : SortR N (newS n) := fun t ht => List.Pairwise.nil
theorem SortR.head (h : SortR N s) (hv : TInv N n K s) {t : Nat} (ht : t < N) (h0 : 0 < (s.L t).length) : ∃ i, hdE (s.L t) = i ∧ i < n ∧ s.T i = true ∧ (s.R i).b = (t : Int) ∧ s.V i = s.H i ∧ ∀ j, j ∈ s.L t → j ≠ i → (s.R i).a < (s.R j).a := by
 have h1 := h t ht
 have h2 := hv.rt t ht
 revert h1 h2 h0
 cases hl : s.L t with
 | nil => intro h0; simp at h0
 | cons x l =>
   intro h0 h1 h2
   have h3 := h2 x (List.mem_cons_self ..)
   refine ⟨x, rfl, h3.1, h3.2.1, h3.2.2, hv.vh x h3.1 h3.2.1, fun j hj hne => ?_⟩
   rcases List.mem_cons.1 hj with e | e
   · exact absurd e hne
   · exact (List.pairwise_cons.1 h1).1 j e
end
end Go.Proofs.YtcffeokbipjaoaaGreat
