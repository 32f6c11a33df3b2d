/- Numbers as bytes, plain; lists of numbers in memory, of our own or to be read. -/
import Derived.Test.YtmnkmnnngfgbgaaSeq
import Derived.Test.YtmnkmnnngfgbgaaBlkb
import Derived.Test.YtmnkmnnngfgbgaaBxs
import Derived.Test.YtmnkmnnngfgbgaaOu8
import Derived.Test.YtmnkmnnngfgbgaaHelpc
import Derived.Test.YtmnkmnnngfgbgaaChecked
import Derived.Maps.AppendAt
import Derived.ArgAppend
import Derived.OwnWalkIn
import Derived.Lib.SmallJoins
import Derived.Lib.Hide
import Derived.ChangeArms
import Derived.Laws.BytesArg
namespace Go.Proofs.Ytmnkmnnngfgbgaa
open Go.RowKit Go.ChangeShapes Go.WideShapes Go.Deep
set_option linter.unusedVariables false
set_option linter.unusedSimpArgs false
/-- A number without a sign. -/
def unz (n : Int) : Nat := if n < 0 then 2 * (-1 - n).toNat + 1 else 2 * n.toNat
/-- Its bytes. -/
def encU (u : Nat) : List Int := if u < 128 then [(u : Int)] else ((u % 128 + 128 : Nat) : Int) :: encU (u / 128)
termination_by u
decreasing_by omega
def encN (n : Int) : List Int := encU (unz n)
def encs (ns : List Int) : List Int := ns.flatMap encN
theorem encU_small {u : Nat} (h : u < 128) : encU u = [(u : Int)] := by rw [encU, if_pos h]
theorem encU_big {u : Nat} (h : ¬ u < 128) : encU u = ((u % 128 + 128 : Nat) : Int) :: encU (u / 128) := by rw [encU, if_neg h]
theorem encU_pos (u : Nat) : 0 < (encU u).length := by rw [encU]; split <;> simp
theorem encs_nil : encs [] = [] := rfl
theorem encs_cons (n : Int) (l : List Int) : encs (n :: l) = encN n ++ encs l := by simp [encs]
theorem encs_append (l m : List Int) : encs (l ++ m) = encs l ++ encs m := by simp [encs]
theorem encs_snoc (l : List Int) (n : Int) : encs (l ++ [n]) = encs l ++ encN n := by simp [encs]
theorem encU_len : ∀ (k u : Nat), u < 128 ^ (k + 1) → (encU u).length ≤ k + 1
  | 0, u, h => by rw [encU_small (by simpa using h)]; simp
  | k + 1, u, h => by
    by_cases hu : u < 128
    · rw [encU_small hu]; simp
    · rw [encU_big hu, List.length_cons]
      have := encU_len k (u / 128) (by rw [Nat.div_lt_iff_lt_mul (by omega)]; rw [Nat.pow_succ] at h; exact h)
      omega
theorem unz_lt {n : Int} (h0 : -9223372036854775808 ≤ n) (h1 : n ≤ 9223372036854775807) : unz n < 18446744073709551616 := by unfold unz; split <;> omega
theorem encN_len {n : Int} (h0 : -9223372036854775808 ≤ n) (h1 : n ≤ 9223372036854775807) : (encN n).length ≤ 10 :=
  encU_len 9 _ (Nat.lt_of_lt_of_le (unz_lt h0 h1) (by decide))
/-- All fit. -/
def Ok64 (ns : List Int) : Prop := ∀ n ∈ ns, -9223372036854775808 ≤ n ∧ n ≤ 9223372036854775807
theorem encs_len : ∀ (ns : List Int), Ok64 ns → (encs ns).length ≤ ns.length * 10
  | [], _ => by simp [encs_nil]
  | n :: l, h => by
    rw [encs_cons, List.length_append, List.length_cons]
    have h1 := encs_len l fun x hx => h x (List.mem_cons_of_mem _ hx)
    have h2 := encN_len (h n (by simp)).1 (h n (by simp)).2
    omega
/-- A list of numbers of our own: of the type t. -/
abbrev OwK (k : IntKind) (t : TypeId) (w : World) (base : Nat) (v : Value) (L : List Int) : Prop := w.ownsRow base t 1 v L.length (L.map (Value.int k))
/-- A list of numbers that can be read, in blocks below B. -/
def RdK (k : IntKind) (w : World) (B : Nat) (A : Option Addr) (L : List Int) : Prop :=
  0 < L.length → ∃ b off, A = some ⟨b, off, none⟩ ∧ b < B ∧ ∀ i x, L[i]? = some x → w.cell? ⟨b, off + i, none⟩ = some (.int k x)
section
variable {k : IntKind} {t : TypeId} {w w' w'' : World} {base B B' : Nat} {v v' v'' : Value} {A : Option Addr} {L L' : List Int}
theorem OwK.nil_ (k : IntKind) (t : TypeId) (w : World) (base : Nat) : OwK k t w base (.slice none 0 0) [] := World.ownsRow_nil _ _ _ _
theorem OwK.below (h : OwK k t w base v L) (hb : Below w.heap.size w w') : OwK k t w' base v L :=
  own_kept h (Kept.of_below (own := fun _ => False) hb) (fun _ _ _ h => h)
theorem OwK.kept {own : Nat → Prop} (h : OwK k t w base v L) (hk : Kept own w w') (hn : ∀ g, v.ownBlock = some g → ¬ own g) : OwK k t w' base v L := by
  refine ⟨h.1, ?_⟩
  rcases h.2 with h0 | ⟨g, cap, cur, rfl, hb, hg, h1⟩
  · exact .inl h0
  · exact .inr ⟨g, cap, cur, rfl, hb, Blk.kept (cs := cur) hg hk (hn g rfl), h1⟩
theorem OwK.weak (h : OwK k t w base v L) (hb : B ≤ base) : OwK k t w B v L := by
  refine ⟨h.1, ?_⟩
  rcases h.2 with h0 | ⟨g, cap, cur, rfl, hg, h1⟩
  · exact .inl h0
  · exact .inr ⟨g, cap, cur, rfl, Nat.le_trans hb hg, h1⟩
theorem OwK.rd (h : OwK k t w base v L) : ∃ A c, v = .slice A L.length c ∧ L.length ≤ c ∧ c ≤ maxLen ∧ RdK k w w.heap.size A L ∧ (A = none → L.length = 0 ∧ c = 0) ∧ ∀ a, A = some a → ∃ g, A = some ⟨g, 0, none⟩ ∧ v.ownBlock = some g ∧ base ≤ g ∧ g < w.heap.size ∧ ∃ cs, Blk w g t cs ∧ cs.size = c := by
  rcases h.2 with ⟨rfl, h0⟩ | ⟨g, cap, cur, rfl, hb, hg, h1, h2, h3, h4⟩
  · exact ⟨none, 0, by rw [h0], by omega, by unfold maxLen; omega, fun c => absurd c (by omega), fun _ => ⟨h0, rfl⟩, (fun a h => by cases h)⟩
  · have hb' : Blk w g t cur := hg
    refine ⟨_, cap, rfl, h1, h2, fun _ => ⟨g, 0, rfl, hb'.size, fun i x hx => ?_⟩, (fun h => by cases h), fun a _ => ⟨g, rfl, rfl, hb, hb'.size, cur, hb', by omega⟩⟩
    have hi : i < L.length := by
      rcases Nat.lt_or_ge i L.length with h | h
      · exact h
      · rw [List.getElem?_eq_none h] at hx; cases hx
    rw [Nat.zero_add, hb'.at_, ← Array.getElem?_toList, ← List.getElem?_take_of_lt (show i < L.length * 1 by omega), h4, List.getElem?_map, hx]; rfl
theorem OwK.own_lt (h : OwK k t w base v L) {g : Nat} (hg : v.ownBlock = some g) : base ≤ g ∧ ∃ cs, Blk w g t cs := by
  rcases h.2 with ⟨rfl, h0⟩ | ⟨g', cap, cur, rfl, hb, hh, _⟩
  · cases hg
  · have : g' = g := by simpa [Value.ownBlock] using hg
    subst this
    exact ⟨hb, cur, hh⟩
theorem RdK.below (h : RdK k w B A L) (hb : Below B w w') : RdK k w' B A L := fun hl => by
  obtain ⟨b, off, e, hB, hc⟩ := h hl
  exact ⟨b, off, e, hB, fun i x hx => (hb.cell hB).trans (hc i x hx)⟩
theorem RdK.more (h : RdK k w B A L) (hb : B ≤ B') : RdK k w B' A L := fun hl => by
  obtain ⟨b, off, e, hB, hc⟩ := h hl
  exact ⟨b, off, e, by omega, hc⟩
theorem RdK.kept {own : Nat → Prop} (h : RdK k w B A L) (hk : Kept own w w') (hB : B ≤ w.heap.size) (hn : ∀ g, g < B → ¬ own g) : RdK k w' B A L := fun hl => by
  obtain ⟨b, off, e, hb, hc⟩ := h hl
  exact ⟨b, off, e, hb, fun i x hx => (World.cell?_of_block (hk.block b (by omega) (hn b hb))).trans (hc i x hx)⟩
theorem add_at (b off n : Nat) : (⟨b, off, none⟩ : Addr).add n = ⟨b, off + n, none⟩ := by
  unfold Addr.add
  split
  · next h => rw [h]; rfl
  · rfl
theorem RdK.cut (h : RdK k w B A L) {n c : Nat} (hc : L.length ≤ c) : RdK k w B (if c = n then A else A.map (·.add n)) (L.drop n) := fun hl => by
  rw [List.length_drop] at hl
  obtain ⟨b, off, rfl, hb, hh⟩ := h (by omega)
  rw [if_neg (by omega)]
  refine ⟨b, off + n, by rw [Option.map_some, add_at], hb, fun i x hx => ?_⟩
  rw [List.getElem?_drop] at hx
  rw [Nat.add_assoc]
  exact hh _ x hx
theorem RdK.less (h : RdK k w B A L) (n : Nat) : RdK k w B A (L.take n) := fun hl => by
  rw [List.length_take] at hl
  obtain ⟨b, off, e, hb, hc⟩ := h (by omega)
  refine ⟨b, off, e, hb, fun i x hx => hc i x ?_⟩
  by_cases hi : i < n
  · rwa [List.getElem?_take_of_lt hi] at hx
  · rw [List.getElem?_eq_none (by rw [List.length_take]; omega)] at hx; cases hx
theorem RdK.nil_ (k : IntKind) (w : World) (B : Nat) (A : Option Addr) : RdK k w B A [] := fun h => absurd h (by simp)
theorem RdK.cell (h : RdK k w B A L) {i : Nat} (hi : i < L.length) : ∃ b off, A = some ⟨b, off, none⟩ ∧ b < B ∧ w.cell? ⟨b, off + i, none⟩ = some (.int k L[i]!) := by
  obtain ⟨b, off, e, hb, hc⟩ := h (by omega)
  exact ⟨b, off, e, hb, hc i _ (by rw [getElem!_pos L i hi]; exact List.getElem?_eq_getElem hi)⟩
theorem RdK.of_blk {g : Nat} (h : Blk w g t (L.map (Value.int k)).toArray) (hb : g < B) : RdK k w B (some ⟨g, 0, none⟩) L := fun _ =>
  ⟨g, 0, rfl, hb, fun i x hx => by rw [Nat.zero_add, h.at_, List.getElem?_toArray, List.getElem?_map, hx]; rfl⟩
/-- What a call that appends to v leaves alone, and where what it hands back lies. -/
structure Grw (base : Nat) (v : Value) (w : World) (v' : Value) (w' : World) : Prop where
  hb : base ≤ w.heap.size
  kept : Kept (fun g => v.ownBlock = some g ∧ base ≤ g) w w'
  lies : ∀ g, v'.ownBlock = some g → base ≤ g → v.ownBlock = some g ∨ w.heap.size ≤ g
theorem Grw.refl_ (hb : base ≤ w.heap.size) : Grw base v w v w := ⟨hb, Kept.refl _ _, fun g hg _ => .inl hg⟩
theorem Grw.trans (h : Grw base v w v' w') (h' : Grw base v' w' v'' w'') : Grw base v w v'' w'' := by
  refine ⟨h.hb, ⟨h'.kept.os.trans h.kept.os, h'.kept.tape.trans h.kept.tape, h'.kept.output.trans h.kept.output, Nat.le_trans h.kept.size h'.kept.size, fun i hi hn => ?_⟩, fun g hg h2 => ?_⟩
  · refine (h'.kept.block i (Nat.lt_of_lt_of_le hi h.kept.size) fun ho => ?_).trans (h.kept.block i hi hn)
    rcases h.lies i ho.1 ho.2 with h1 | h1
    · exact hn ⟨h1, ho.2⟩
    · omega
  · rcases h'.lies g hg h2 with h1 | h1
    · exact h.lies g h1 h2
    · right; have := h.kept.size; omega
theorem Grw.alloc_ (h : Grw base v w v' w') (o : Obj) : Grw base v w v' (w'.alloc o) := ⟨h.hb, h.kept.alloc_ o, h.lies⟩
theorem Grw.alloc0 {o : Obj} (h : Grw base v (w.alloc o) v' w') (hb : base ≤ w.heap.size) : Grw base v w v' w' := by
  have hs : (w.alloc o).heap.size = w.heap.size + 1 := by simp
  refine ⟨hb, ⟨h.kept.os, h.kept.tape, h.kept.output, by have := h.kept.size; omega, fun i hi hn => (h.kept.block i (by omega) hn).trans (Below.heap_alloc w o i hi)⟩, fun g hg h2 => ?_⟩
  rcases h.lies g hg h2 with h1 | h1
  · exact .inl h1
  · right; omega
theorem Grw.drew0 (h : Grw base v w.drew v' w') : Grw base v w v' w' := ⟨h.hb, ⟨h.kept.os, h.kept.tape, h.kept.output, h.kept.size, h.kept.block⟩, h.lies⟩
theorem Grw.stay {c : Nat} (h : Grw base (.slice none 0 c) w v' w') : Below w.heap.size w w' :=
  ⟨h.kept.os, h.kept.tape, h.kept.output, h.kept.size, fun i hi => h.kept.block i hi (fun hc => by have := hc.1; simp [Value.ownBlock] at this)⟩
theorem Grw.below (h : Grw w.heap.size v w v' w') : Below w.heap.size w w' := h.kept.below (fun k hk => hk.2) (Nat.le_refl _)
theorem Grw.below_ (h : Grw base v w v' w') : Below base w w' := h.kept.below (fun k hk => hk.2) h.hb
/-- To these bytes more can be appended: they are our own, or there is no room behind them. -/
def PB (w : World) (base : Nat) (v : Value) (L : List Int) : Prop :=
  OwK .u8 5 w base v L ∨ ∃ a, v = .slice (some a) L.length L.length ∧ a.block < base ∧ RdK .u8 w base (some a) L
theorem PB.other (h : PB w base v L) {g : Nat} {T : TypeId} {cs : Array Value} (hb : Blk w g T cs) (hT : 5 ≠ T) : ¬ (v.ownBlock = some g ∧ base ≤ g) := by
  rintro ⟨h1, h2⟩
  rcases h with h | ⟨a, rfl, ha, _⟩
  · obtain ⟨_, cs', h3⟩ := h.own_lt h1
    exact Blk.other h3 hb hT rfl
  · have : a.block = g := by simpa [Value.ownBlock] using h1
    omega
theorem PB.len (h : PB w base v L) : ∃ A c, v = .slice A L.length c := by
  rcases h with h | ⟨a, rfl, ha, _⟩
  · obtain ⟨A, c, e, _⟩ := h.rd; exact ⟨A, c, e⟩
  · exact ⟨_, _, rfl⟩
theorem PB.alloc_ (h : PB w base v L) (hb : base ≤ w.heap.size) (o : Obj) : PB (w.alloc o) base v L := by
  rcases h with h | ⟨a, e, ha, h⟩
  · exact .inl (h.below ((Below.refl _ _).alloc (Nat.le_refl _) _))
  · exact .inr ⟨a, e, ha, h.below ((Below.refl _ _).alloc hb _)⟩
theorem bytes_one (z : Int) : ∀ u ∈ [Value.int .u8 z], u.oneCell' = true := by intro u hu; simp at hu; subst hu; rfl
theorem binfo : (Try.prog.info? 5).map (fun i => (i.zero, i.size, i.bytes)) = some (some (.int .u8 0), 1, 1) := by kernel_rfl
theorem infk_of {t : TypeId} {z : Option Value} {s b : Nat} (h : (Try.prog.info? t).map (fun i => (i.zero, i.size, i.bytes)) = some (z, s, b)) : ∃ i, Try.prog.info? t = some i ∧ i.zero = z ∧ i.size = s ∧ i.bytes = b := by
  obtain ⟨i, hi, hz⟩ := Option.map_eq_some_iff.1 h
  simp only [Prod.mk.injEq] at hz
  exact ⟨i, hi, hz.1, hz.2.1, hz.2.2⟩
theorem maxbig : 100000 ≤ maxLen := by unfold maxLen; omega
variable {ops : Array Oper} {rest : List Oper} {o : Oper} {ac : Act} {Q : Exit → Act → World → Prop}
theorem wpList_byte (hgd : o.guard = none) (s x : Operand) (ho : o.op = .call { callee := .builtin .append, args := #[s, x], argTypes := #[22, 22] })
    {g : Nat} {z : Int} (hs : ac.eval s = v) (hx : ac.eval x = .slice (some ⟨g, 0, none⟩) 1 1) (hp : PB w base v L) (hg : Blk w g 5 #[.int .u8 z]) (hl : L.length ≤ 10000) (hb : base ≤ w.heap.size)
    (h : ∀ v' w', OwK .u8 5 w' base v' (L ++ [z]) → Grw base v w v' w' → wpList Try.prog ops Q rest (ac.put o.dst v') w') : wpList Try.prog ops Q (o :: rest) ac w := by
  obtain ⟨i, hi, hz0, hz1, hz2⟩ := infk_of binfo
  have hnews : ∀ j u, [Value.int .u8 z][j]? = some u → w.cell? ((⟨g, 0, none⟩ : Addr).add j) = some u := fun j u hj => by
    rw [add_at, Nat.zero_add, hg.at_, ← hj]
    match j with
    | 0 => rfl
    | j + 1 => rfl
  have hm := maxbig
  have hlen : (L ++ [z]).length = L.length + 1 := by simp
  have hmap : (L ++ [z]).map (Value.int .u8) = L.map (Value.int .u8) ++ [Value.int .u8 z] := by simp
  rcases hp with hp | ⟨a, rfl, ha, hr⟩
  · refine wpList_append_own_at w hgd s x 22 ho base 5 i (.int .u8 0) 1 1 Try.underlying22 hi hz0 hz1 hz2 rfl (by decide) v L.length _ hs hp ⟨g, 0, none⟩ 1 1 [.int .u8 z] hx rfl hnews (bytes_one z) (by omega) (by omega) hb ?_
    intro v' w' h1 h2 _ h3
    refine h v' w' ?_ ⟨hb, (Kept.refl _ _).grown h2 fun k hk => .inl ⟨hk, (hp.own_lt hk).1⟩, fun k hk hk2 => ?_⟩
    · show w'.ownsRow _ _ 1 v' (L ++ [z]).length _
      rw [hlen, hmap]; exact h1
    · rcases h3 with h3 | h3
      · rw [h3] at hk; exact .inl hk
      · rw [h3] at hk; injection hk with hk; right; omega
  · refine wpList_append_grows w hgd s x 22 ho 5 i (.int .u8 0) 1 1 Try.underlying22 hi hz0 hz1 hz2 rfl (by decide) (some a) L.length L.length (L.map (.int .u8)) hs (fun h => by cases h) (by simp) (fun b hb' j u hj => ?_) ⟨g, 0, none⟩ 1 1 [.int .u8 z] hx rfl hnews (bytes_one z) (by omega) (by omega) (by omega) ?_
    · injection hb' with hb'
      subst hb'
      rw [List.getElem?_map, Option.map_eq_some_iff] at hj
      obtain ⟨y, hy, rfl⟩ := hj
      have hj2 : j < L.length := by
        rcases Nat.lt_or_ge j L.length with h | h
        · exact h
        · rw [List.getElem?_eq_none h] at hy; cases hy
      obtain ⟨b, off, e, _, hc⟩ := hr (by omega)
      injection e with e
      rw [e, add_at]
      exact hc _ _ hy
    · intro v' w' h1 h2
      refine h v' w' ?_ ⟨hb, (Kept.refl _ _).grown h2 (fun k hk => by cases hk), fun k hk hk2 => ?_⟩
      · refine OwK.weak (B := base) (base := w.heap.size) (L := L ++ [z]) (k := .u8) ?_ hb
        show w'.ownsRow _ _ 1 v' (L ++ [z]).length _
        rw [hlen, hmap]; exact h1
      · rcases h1.2 with ⟨rfl, h0⟩ | ⟨g', cap, cur, rfl, hg', _⟩
        · cases hk
        · have : g' = k := by simpa [Value.ownBlock] using hk
          right; omega
end
end Go.Proofs.Ytmnkmnnngfgbgaa
