/- Numbers, calls and answers as bytes: the document's. Are bytes the same? -/
import Derived.Test.YtmnkmnnngfgbgaaCld
namespace Go.Proofs.Ytmnkmnnngfgbgaa
open Go.RowKit Go.ChangeShapes Go.WideShapes Go.Deep
set_option linter.unusedVariables false
set_option linter.unusedSimpArgs false
theorem OwK.of_blk {k : IntKind} {t : TypeId} {w : World} {base g : Nat} {L : List Int} (h : Blk w g t (L.map (Value.int k)).toArray) (hb : base ≤ g) (hl : L.length ≤ 10000) : OwK k t w base (.slice (some ⟨g, 0, none⟩) L.length L.length) L :=
  by
  refine ⟨by rw [List.length_map, Nat.mul_one], .inr ⟨g, L.length, _, rfl, hb, h, Nat.le_refl _, by unfold maxLen; omega, by simp, ?_⟩⟩
  show List.take _ (L.map (Value.int k)).toArray.toList = _
  rw [List.take_of_length_le (by simp)]
section
variable {w w' : World} {base base' : Nat} {v x : Value} {L M : List Int} {ops : Array Oper} {rest : List Oper} {o : Oper} {ac : Act} {Q : Exit → Act → World → Prop} {K : Act → World → Prop}
theorem wp_bytes (s y : Operand) (ho : o.op = .call { callee := .builtin .append, args := #[s, y], argTypes := #[22, 22] })
    (hs : ac.eval s = v) (hy : ac.eval y = x) (hp : OwK .u8 5 w base v L) (hm : OwK .u8 5 w base' x M) (h0 : 0 < M.length) (hl : L.length + M.length ≤ 10000) (hb : base ≤ w.heap.size)
    (h : ∀ v' w', OwK .u8 5 w' base v' (L ++ M) → Grw base v w v' w' → K (ac.put o.dst v') w') : o.wp Try.prog ac w K Q := by
  obtain ⟨i, hi, hz0, hz1, hz2⟩ := infk_of binfo
  have hmx := maxbig
  obtain ⟨A, c, rfl, hc1, hc2, hr, _, hA⟩ := hm.rd
  obtain ⟨b, off, rfl, _, hcell⟩ := hr h0
  have hlen : (L ++ M).length = L.length + M.length := by simp
  have hmap : (L ++ M).map (Value.int .u8) = L.map (Value.int .u8) ++ M.map (Value.int .u8) := by simp
  refine wp_append_lies w s y 22 ho base 5 i (.int .u8 0) 1 1 Try.underlying22 hi hz0 hz1 hz2 rfl (by decide) v L.length _ hs hp ⟨b, off, none⟩ M.length c (M.map (Value.int .u8)) hy (by simp) (fun j u hj => ?_) (fun u hu => ?_) h0 (by omega) (by omega) hb w.heap.size rfl ?_
  · rw [List.getElem?_map, Option.map_eq_some_iff] at hj
    obtain ⟨z, hz, rfl⟩ := hj
    rw [add_at]
    exact hcell _ _ hz
  · obtain ⟨z, _, rfl⟩ := List.mem_map.1 hu; rfl
  · intro g cap w1 h1 h2 h3 h4
    refine h _ w1 (by show w1.ownsRow _ _ 1 _ (L ++ M).length _; rw [hlen, hmap]; exact h1) ⟨hb, (Kept.refl _ _).grown h2 fun k hk => .inl ⟨hk, (hp.own_lt hk).1⟩, fun k hk hk2 => ?_⟩
    have : g = k := by simpa [Value.ownBlock] using hk
    subst this
    rcases h3 with h3 | h3
    · exact .inl h3
    · right; omega
theorem wpList_bytes (hgd : o.guard = none) (s y : Operand) (ho : o.op = .call { callee := .builtin .append, args := #[s, y], argTypes := #[22, 22] })
    (hs : ac.eval s = v) (hy : ac.eval y = x) (hp : OwK .u8 5 w base v L) (hm : OwK .u8 5 w base' x M) (h0 : 0 < M.length) (hl : L.length + M.length ≤ 10000) (hb : base ≤ w.heap.size)
    (h : ∀ v' w', OwK .u8 5 w' base v' (L ++ M) → Grw base v w v' w' → wpList Try.prog ops Q rest (ac.put o.dst v') w') : wpList Try.prog ops Q (o :: rest) ac w :=
  wpList_plain hgd fun _ hK => wp_bytes s y ho hs hy hp hm h0 hl hb fun v' w' h1 h2 => hK _ _ (h v' w' h1 h2)
theorem step_bytes {E : Prop} (hgd : o.guard = none) (s y : Operand) (ho : o.op = .call { callee := .builtin .append, args := #[s, y], argTypes := #[22, 22] })
    (hs : ac.eval s = v) (hy : ac.eval y = x) (hp : OwK .u8 5 w base v L) (hm : OwK .u8 5 w base' x M) (h0 : 0 < M.length) (hl : L.length + M.length ≤ 10000) (hb : base ≤ w.heap.size)
    (h : ∀ v' w', OwK .u8 5 w' base v' (L ++ M) → Grw base v w v' w' → K (ac.put o.dst v') w') : if Region.wanted o (yielded ops ac.tmps) = true then Oper.wp Try.prog o ac w K Q else E := by
  have hw : Region.wanted o (yielded ops ac.tmps) = true := by simp [Region.wanted, hgd]
  rw [if_pos hw]
  exact wp_bytes s y ho hs hy hp hm h0 hl hb h
end
theorem encN_pos (n : Int) : 0 < (encN n).length := encU_pos _
/-- Bytes in new memory. -/
def NewP (w : World) (T : List Int) (e : Ending) (w' : World) : Prop := ∃ v', e = .returned v' ∧ OwK .u8 5 w' w.heap.size v' T ∧ Below w.heap.size w w'
structure RnAt (w : World) (n : Int) (v : Value) (q : Nat) (M : List Int) (w1 : World) : Prop where
  ow : OwK .u8 5 w1 w.heap.size v M
  be : Below w.heap.size w w1
  ql : q < 18446744073709551616
  eq : M ++ encU q = encN n
theorem RnAt.le {w : World} {n : Int} {v : Value} {q : Nat} {M : List Int} {w1 : World} (h : RnAt w n v q M w1) (hn : (encN n).length ≤ 10) : M.length ≤ 10 := by
  have := congrArg List.length h.eq
  rw [List.length_append] at this
  omega
theorem below_grw {w w1 w2 : World} {v v' : Value} (h : Below w.heap.size w w1) (hg : Grw w.heap.size v w1 v' w2) : Below w.heap.size w w2 := h.trans hg.below_
set_option maxHeartbeats 4000000 in
theorem rnum_any (n : Int) (w : World) (h0 : -9223372036854775808 ≤ n) (h1 : n ≤ 9223372036854775807) :
    Calls Try.prog 12 #[.int .i64 n] w (NewP w (encN n)) := by
  have hlen := encN_len h0 h1
  obtain ⟨m, hm⟩ : ∃ m, unz n = m := ⟨_, rfl⟩
  have HM := Lib.hid hm
  have hml : m < 18446744073709551616 := by rw [← hm]; exact unz_lt h0 h1
  clear hm
  go_enter Try.func12, Try.ntmps12
  go_wp2_with (go_at_call 21; (with_reducible refine (plain_any n _ h0 h1).mono ?_); rintro e w' ⟨rfl, rfl⟩; rw [HM.out])
  go_loopw [3, 4] (fun s3 s4 wr => ∃ (q : Nat) (M : List Int), s3 = .int .u64 (q : Int) ∧ RnAt w n s4 q M wr) (fun s _ _ => (intOf s).toNat)
  case atStart => exact ⟨m, [], rfl, OwK.nil_ _ _ _ _, Below.refl _ _, hml, by rw [← HM.out]; rfl⟩
  case round =>
    obtain ⟨q, M, rfl, hr⟩ := hrel
    have HR := Lib.hid hr
    have hle := hr.le hlen
    have hql := hr.ql
    clear hr
    by_cases hq : q < 128
    · have hq2 : ¬ 127 < (q : Int) := by omega
      have hq3 : (q : Int) < 256 := by omega
      have hq4 : (0 : Int) ≤ (q : Int) := by omega
      go_wp2_with (at_builtin; refine wpList_byte (v := u4) (base := w.heap.size) (L := M) (z := (q : Int)) (g := wr.heap.size) rfl (.tmp 18) (.tmp 21) rfl rfl rfl ((show PB wr w.heap.size u4 M from .inl HR.out.ow).alloc_ HR.out.be.size _) (Blk.made _ _ _) (by omega) (Nat.le_trans HR.out.be.size (by simp)) ?_; intro v5 w5 ho5 hg5; have HO5 := Lib.hid ho5; have HG5 := Lib.hid (hg5.alloc0 HR.out.be.size); clear ho5 hg5)
      go_ret
      have ho := HO5.out
      have e : M ++ [(q : Int)] = encN n := by rw [← HR.out.eq, encU_small hq]
      rw [e] at ho
      exact ⟨_, rfl, ho, below_grw HR.out.be HG5.out⟩
    · have hq2 : 127 < (q : Int) := by omega
      have hq4 : (0 : Int) ≤ (q : Int) := by omega
      have hq5 : (q : Int) ≤ 18446744073709551615 := by omega
      go_wp2_with (at_builtin; refine wpList_byte (v := u4) (base := w.heap.size) (L := M) (z := (q : Int) % 128 + 128) (g := wr.heap.size) rfl (.tmp 9) (.tmp 14) rfl rfl rfl ((show PB wr w.heap.size u4 M from .inl HR.out.ow).alloc_ HR.out.be.size _) (Blk.made _ _ _) (by omega) (Nat.le_trans HR.out.be.size (by simp)) ?_; intro v5 w5 ho5 hg5; have HO5 := Lib.hid ho5; have HG5 := Lib.hid (hg5.alloc0 HR.out.be.size); clear ho5 hg5)
      have e1 : ((q : Int) % 128 + 128) = ((q % 128 + 128 : Nat) : Int) := by omega
      have e2 : (q : Int) / 128 = ((q / 128 : Nat) : Int) := by omega
      have ho := HO5.out
      rw [e1] at ho
      have he : (M ++ [((q % 128 + 128 : Nat) : Int)]) ++ encU (q / 128) = encN n := by rw [← HR.out.eq, encU_big hq, List.append_assoc]; rfl
      have HNX := Lib.hid (show RnAt w n v5 (q / 128) (M ++ [((q % 128 + 128 : Nat) : Int)]) w5 from ⟨ho, below_grw HR.out.be HG5.out, by omega, he⟩)
      rw [e2]
      clear ho he e1 e2
      go_roundw
      case rel => exact ⟨_, _, rfl, HNX.out⟩
      case measure => simp [intOf]; omega
def BoxAt (w : World) (W : World) (T : TypeId) (cs : Array Value) : Prop := Blk W w.heap.size T cs ∧ Below w.heap.size w W
theorem BoxAt.made (w : World) (T : TypeId) (cs : Array Value) : BoxAt w (w.alloc (.cells cs T)) T cs := ⟨Blk.made _ _ _, (Below.refl _ _).alloc (Nat.le_refl _) _⟩
theorem BoxAt.below {w W W' : World} {T : TypeId} {cs : Array Value} (h : BoxAt w W T cs) (hb : Below W.heap.size W W') : BoxAt w W' T cs := ⟨h.1.below_ hb h.1.size, h.2.trans (hb.mono h.2.size)⟩
theorem BoxAt.grw {w W W' : World} {T : TypeId} {cs : Array Value} {base : Nat} {v v' : Value} {L : List Int} (h : BoxAt w W T cs) (hT : 5 ≠ T) (ho : OwK .u8 5 W base v L) (hg : Grw base v W v' W') (hb : w.heap.size ≤ base) : BoxAt w W' T cs :=
  ⟨h.1.kept hg.kept (fun hc => by
    obtain ⟨_, cs', h3⟩ := ho.own_lt hc.1
    exact Blk.other h3 h.1 hT rfl), h.2.trans (hg.below_.mono hb)⟩
theorem own_lift {w W W' : World} {v : Value} {L : List Int} (h : OwK .u8 5 W w.heap.size v L) (hb : Below W.heap.size W W') : OwK .u8 5 W' w.heap.size v L := h.below hb
set_option maxHeartbeats 8000000 in
theorem rop_any {o : OpV} (w : World) (ho : o.ok) : Calls Try.prog 15 #[o.v] w (NewP w o.enc) := by
  obtain ⟨k, t, c, n⟩ := o
  obtain ⟨⟨k0, k1⟩, ⟨t0, t1⟩, ⟨c0', c1'⟩, ⟨n0, n1⟩⟩ := ho
  simp only at k0 k1 t0 t1 c0' c1' n0 n1
  have lt := encN_len t0 t1
  have lc := encN_len c0' c1'
  have ln := encN_len n0 n1
  go_enter Try.func15, Try.ntmps15
  go_upto_region 1 with fail
  have BX := BoxAt.made w 40 #[.int .u8 k, .int .i64 t, .int .i64 c, .int .i64 n]
  have c0 : (w.alloc (.cells #[.int .u8 k, .int .i64 t, .int .i64 c, .int .i64 n] 40)).cell? ⟨w.heap.size, 0, none⟩ = some (.int .u8 k) := BX.1.val rfl
  have c1 : (w.alloc (.cells #[.int .u8 k, .int .i64 t, .int .i64 c, .int .i64 n] 40)).cell? ⟨w.heap.size, 1, none⟩ = some (.int .i64 t) := BX.1.val rfl
  go_region_held3 (fun w' => w'.cell? ⟨w.heap.size, 0, none⟩ = some (.int .u8 k) ∧ w'.cell? ⟨w.heap.size, 1, none⟩ = some (.int .i64 t)) (repeat (first | with_reducible assumption | refine ⟨?_, ?_⟩ | with_reducible refine kdrew ?_ | with_reducible refine kalloc ?_ _)) (first | (go_at_call 12; refine (rnum_any t _ t0 t1).mono ?_; rintro e w' ⟨v', rfl, ho, hb⟩; have HB9 := Lib.hid hb; have HO9 := Lib.hid ho; have d0 : w'.cell? ⟨w.heap.size, 0, none⟩ = some (.int .u8 k) := (hb.cell (by ((try simp); (try omega)))).trans (by repeat (first | with_reducible assumption | with_reducible refine kdrew ?_ | with_reducible refine kalloc ?_ _)); have d1 : w'.cell? ⟨w.heap.size, 1, none⟩ = some (.int .i64 t) := (hb.cell (by ((try simp); (try omega)))).trans (by repeat (first | with_reducible assumption | with_reducible refine kdrew ?_ | with_reducible refine kalloc ?_ _)); clear hb ho) | (refine wp_bytes (base := w.heap.size + 1) (L := [k]) (M := encN t) (.tmp 6) (.tmp 9) rfl rfl rfl (OwK.of_blk (by first | exact Blk.new_ (by simp) | exact (Blk.new_ (by simp)).below_ HB9.out (by simp) | exact ((Blk.new_ (by simp)).drew_).below_ HB9.out (by simp)) (by have := HB9.out.size; ((try simp at this); (try omega))) (by simp)) (by first | exact HO9.out | exact HO9.out.below ((Below.refl _ _).alloc (Nat.le_refl _) _)) (encN_pos t) (by ((try simp); (try omega))) (by have := HB9.out.size; ((try simp at this); (try simp); (try omega))) ?_; intro v5 w5 ho5 hg5; have d2 : w5.cell? ⟨w.heap.size, 0, none⟩ = some (.int .u8 k) := (hg5.below_.cell (by ((try simp); (try omega)))).trans (by repeat (first | with_reducible assumption | with_reducible refine kdrew ?_ | with_reducible refine kalloc ?_ _)); have d3 : w5.cell? ⟨w.heap.size, 1, none⟩ = some (.int .i64 t) := (hg5.below_.cell (by ((try simp); (try omega)))).trans (by repeat (first | with_reducible assumption | with_reducible refine kdrew ?_ | with_reducible refine kalloc ?_ _)); have HO5 := Lib.hid ho5; have HG5 := Lib.hid hg5; clear ho5 hg5))
  all_goals
    have hB : Below (w.heap.size + 1) (w.alloc (.cells #[.int .u8 k, .int .i64 t, .int .i64 c, .int .i64 n] 40)) w5 := by
      first
      | exact ((((Below.refl _ _).drew).alloc (by simp) _).trans (HB9.out.mono (by simp; omega))).trans HG5.out.below_
      | exact ((((Below.refl _ _).drew).alloc (by simp) _).trans (HB9.out.mono (by simp))).trans HG5.out.below_
      | exact ((((Below.refl _ _).drew).trans (HB9.out.mono (by simp))).alloc (by have := HB9.out.size; simp at this; omega) _).trans HG5.out.below_
    have BX5 := BX.1.below_ hB (Nat.lt_succ_self _)
    have HB5 := Lib.hid (((Below.refl w.heap.size w).alloc (Nat.le_refl _) (.cells #[.int .u8 k, .int .i64 t, .int .i64 c, .int .i64 n] 40)).trans (hB.mono (Nat.le_succ _)))
    have hz5 : w.heap.size + 1 ≤ w5.heap.size := by have := hB.size; simp at this; omega
    clear hB c0 c1 d2 d3 HG5 HB9 HO9
    have e2 : w5.cell? ⟨w.heap.size, 2, none⟩ = some (.int .i64 c) := BX5.val rfl
    have HX5 := Lib.hid BX5
    clear BX5 BX
    have HLE := Lib.hid (show ([k] ++ encN t).length ≤ 20 by simp; omega)
    have HLF := Lib.hid (show (([k] ++ encN t) ++ encN c).length ≤ 40 by simp; omega)
    go_wp2_with (first | (go_at_call 12; (with_reducible refine (rnum_any c _ c0' c1').mono ?_); rintro e w6 ⟨v6, rfl, ho, hb⟩; have HB6 := Lib.hid hb; have HO6 := Lib.hid ho; clear ho hb) | (at_builtin; refine wpList_bytes (base := w.heap.size + 1) (L := [k] ++ encN t) (M := encN c) rfl (.tmp 11) (.tmp 14) rfl rfl rfl (HO5.out.below HB6.out) HO6.out (encN_pos c) (by have := HLE.out; omega) (Nat.le_trans hz5 HB6.out.size) ?_; intro v7 w7 ho7 hg7; have hb7 := (HB6.out.mono hz5).trans hg7.below_; have e3 : w7.cell? ⟨w.heap.size, 3, none⟩ = some (.int .i64 n) := (HX5.out.below_ hb7 (Nat.lt_succ_self _)).val rfl; have HO7 := Lib.hid ho7; have HB7 := Lib.hid hb7; clear ho7 hg7 hb7 e2) | (go_at_call 12; (with_reducible refine (rnum_any n _ n0 n1).mono ?_); rintro e w8 ⟨v8, rfl, ho, hb⟩; have HB8 := Lib.hid hb; have HO8 := Lib.hid ho; clear ho hb e3) | (at_builtin; refine wpList_bytes (base := w.heap.size + 1) (L := ([k] ++ encN t) ++ encN c) (M := encN n) rfl (.tmp 16) (.tmp 19) rfl rfl rfl (HO7.out.below HB8.out) HO8.out (encN_pos n) (by have := HLF.out; omega) (Nat.le_trans (Nat.le_trans hz5 HB7.out.size) HB8.out.size) ?_; intro v9 w9 ho9 hg9; have HO9 := Lib.hid ho9; have HB9 := Lib.hid ((HB7.out.trans (HB8.out.mono (Nat.le_trans hz5 HB7.out.size))).trans hg9.below_); clear ho9 hg9))
    go_ret
    have ho := HO9.out
    have e : (([k] ++ encN t) ++ encN c) ++ encN n = OpV.enc ⟨k, t, c, n⟩ := by simp [OpV.enc, OpV.ns, encs]
    rw [e] at ho
    exact ⟨_, rfl, ho.weak (Nat.le_succ _), HB5.out.trans (HB9.out.mono (Nat.le_succ _))⟩
set_option maxHeartbeats 8000000 in
theorem rres_any {o : ReV} (w : World) (ho : o.ok) : Calls Try.prog 16 #[o.v] w (NewP w o.enc) := by
  obtain ⟨a, k, t, c, s⟩ := o
  obtain ⟨⟨a0, a1⟩, ⟨k0, k1⟩, ⟨t0, t1⟩, ⟨c0, c1⟩, ⟨s0, s1⟩⟩ := ho
  simp only at a0 a1 k0 k1 t0 t1 c0 c1 s0 s1
  obtain ⟨sk, hsk⟩ : ∃ sk, sgn k = sk := ⟨_, rfl⟩
  have hs2 : IntKind.i64.wrap k = sk := hsk
  obtain ⟨sk0, sk1⟩ : I64 sk := by rw [← hsk]; exact sgn_ok k k0 k1
  have HSK := Lib.hid hsk
  clear hsk
  have lk := encN_len sk0 sk1
  have lt := encN_len t0 t1
  have lc := encN_len c0 c1
  have ls := encN_len s0 s1
  go_enter Try.func16, Try.ntmps16
  go_upto_region 1 with fail
  have BX := BoxAt.made w 42 #[.int .u8 a, .int .u64 k, .int .i64 t, .int .i64 c, .int .i64 s]
  have q0 : (w.alloc (.cells #[.int .u8 a, .int .u64 k, .int .i64 t, .int .i64 c, .int .i64 s] 42)).cell? ⟨w.heap.size, 0, none⟩ = some (.int .u8 a) := BX.1.val rfl
  have q1 : (w.alloc (.cells #[.int .u8 a, .int .u64 k, .int .i64 t, .int .i64 c, .int .i64 s] 42)).cell? ⟨w.heap.size, 1, none⟩ = some (.int .u64 k) := BX.1.val rfl
  go_region_held3 (fun w' => w'.cell? ⟨w.heap.size, 0, none⟩ = some (.int .u8 a) ∧ w'.cell? ⟨w.heap.size, 1, none⟩ = some (.int .u64 k)) (repeat (first | with_reducible assumption | refine ⟨?_, ?_⟩ | with_reducible refine kdrew ?_ | with_reducible refine kalloc ?_ _)) (first | (go_at_call 12; refine (rnum_any sk _ sk0 sk1).mono ?_; rintro e w' ⟨v', rfl, ho, hb⟩; have HB9 := Lib.hid hb; have HO9 := Lib.hid ho; have d0 : w'.cell? ⟨w.heap.size, 0, none⟩ = some (.int .u8 a) := (hb.cell (by ((try simp); (try omega)))).trans (by repeat (first | with_reducible assumption | with_reducible refine kdrew ?_ | with_reducible refine kalloc ?_ _)); have d1 : w'.cell? ⟨w.heap.size, 1, none⟩ = some (.int .u64 k) := (hb.cell (by ((try simp); (try omega)))).trans (by repeat (first | with_reducible assumption | with_reducible refine kdrew ?_ | with_reducible refine kalloc ?_ _)); clear hb ho) | (refine wp_bytes (base := w.heap.size + 1) (L := [a]) (M := encN sk) (.tmp 6) (.tmp 10) rfl rfl rfl (OwK.of_blk (by first | exact Blk.new_ (by simp) | exact (Blk.new_ (by simp)).below_ HB9.out (by simp) | exact ((Blk.new_ (by simp)).drew_).below_ HB9.out (by simp)) (by have := HB9.out.size; ((try simp at this); (try omega))) (by simp)) (by first | exact HO9.out | exact HO9.out.below ((Below.refl _ _).alloc (Nat.le_refl _) _)) (encN_pos sk) (by ((try simp); (try omega))) (by have := HB9.out.size; ((try simp at this); (try simp); (try omega))) ?_; intro v5 w5 ho5 hg5; have d2 : w5.cell? ⟨w.heap.size, 0, none⟩ = some (.int .u8 a) := (hg5.below_.cell (by ((try simp); (try omega)))).trans (by repeat (first | with_reducible assumption | with_reducible refine kdrew ?_ | with_reducible refine kalloc ?_ _)); have d3 : w5.cell? ⟨w.heap.size, 1, none⟩ = some (.int .u64 k) := (hg5.below_.cell (by ((try simp); (try omega)))).trans (by repeat (first | with_reducible assumption | with_reducible refine kdrew ?_ | with_reducible refine kalloc ?_ _)); have HO5 := Lib.hid ho5; have HG5 := Lib.hid hg5; clear ho5 hg5))
  all_goals
    have hB : Below (w.heap.size + 1) (w.alloc (.cells #[.int .u8 a, .int .u64 k, .int .i64 t, .int .i64 c, .int .i64 s] 42)) w5 := by
      first
      | exact ((((Below.refl _ _).drew).alloc (by simp) _).trans (HB9.out.mono (by simp; omega))).trans HG5.out.below_
      | exact ((((Below.refl _ _).drew).alloc (by simp) _).trans (HB9.out.mono (by simp))).trans HG5.out.below_
      | exact ((((Below.refl _ _).drew).trans (HB9.out.mono (by simp))).alloc (by have := HB9.out.size; simp at this; omega) _).trans HG5.out.below_
    have BX5 := BX.1.below_ hB (Nat.lt_succ_self _)
    have HB5 := Lib.hid (((Below.refl w.heap.size w).alloc (Nat.le_refl _) (.cells #[.int .u8 a, .int .u64 k, .int .i64 t, .int .i64 c, .int .i64 s] 42)).trans (hB.mono (Nat.le_succ _)))
    have hz5 : w.heap.size + 1 ≤ w5.heap.size := by have := hB.size; simp at this; omega
    clear hB q0 q1 d2 d3 HG5 HB9 HO9
    have e2 : w5.cell? ⟨w.heap.size, 2, none⟩ = some (.int .i64 t) := BX5.val rfl
    have HX5 := Lib.hid BX5
    clear BX5 BX
    have HLE := Lib.hid (show ([a] ++ encN sk).length ≤ 20 by simp; omega)
    have HLF := Lib.hid (show (([a] ++ encN sk) ++ encN t).length ≤ 40 by simp; omega)
    have HLG := Lib.hid (show ((([a] ++ encN sk) ++ encN t) ++ encN c).length ≤ 60 by simp; omega)
    go_wp2_with (first | (go_at_call 12; (with_reducible refine (rnum_any t _ t0 t1).mono ?_); rintro e w6 ⟨v6, rfl, ho, hb⟩; have HB6 := Lib.hid hb; have HO6 := Lib.hid ho; clear ho hb) | (at_builtin; refine wpList_bytes (base := w.heap.size + 1) (L := [a] ++ encN sk) (M := encN t) rfl (.tmp 12) (.tmp 15) rfl rfl rfl (HO5.out.below HB6.out) HO6.out (encN_pos t) (by have := HLE.out; omega) (Nat.le_trans hz5 HB6.out.size) ?_; intro v7 w7 ho7 hg7; have hb7 := (HB6.out.mono hz5).trans hg7.below_; have e3 : w7.cell? ⟨w.heap.size, 3, none⟩ = some (.int .i64 c) := (HX5.out.below_ hb7 (Nat.lt_succ_self _)).val rfl; have HO7 := Lib.hid ho7; have HB7 := Lib.hid hb7; clear ho7 hg7 hb7 e2) | (go_at_call 12; (with_reducible refine (rnum_any c _ c0 c1).mono ?_); rintro e w8 ⟨v8, rfl, ho, hb⟩; have HB8 := Lib.hid hb; have HO8 := Lib.hid ho; clear ho hb) | (at_builtin; refine wpList_bytes (base := w.heap.size + 1) (L := ([a] ++ encN sk) ++ encN t) (M := encN c) rfl (.tmp 17) (.tmp 20) rfl rfl rfl (HO7.out.below HB8.out) HO8.out (encN_pos c) (by have := HLF.out; omega) (Nat.le_trans (Nat.le_trans hz5 HB7.out.size) HB8.out.size) ?_; intro v9 w9 ho9 hg9; have hb9 := (HB7.out.trans (HB8.out.mono (Nat.le_trans hz5 HB7.out.size))).trans hg9.below_; have e4 : w9.cell? ⟨w.heap.size, 4, none⟩ = some (.int .i64 s) := (HX5.out.below_ hb9 (Nat.lt_succ_self _)).val rfl; have HO9 := Lib.hid ho9; have HB9 := Lib.hid hb9; clear ho9 hg9 hb9 e3) | (go_at_call 12; (with_reducible refine (rnum_any s _ s0 s1).mono ?_); rintro e wA ⟨vA, rfl, ho, hb⟩; have HBA := Lib.hid hb; have HOA := Lib.hid ho; clear ho hb) | (at_builtin; refine wpList_bytes (base := w.heap.size + 1) (L := (([a] ++ encN sk) ++ encN t) ++ encN c) (M := encN s) rfl (.tmp 22) (.tmp 25) rfl rfl rfl (HO9.out.below HBA.out) HOA.out (encN_pos s) (by have := HLG.out; omega) (Nat.le_trans (Nat.le_trans hz5 HB9.out.size) HBA.out.size) ?_; intro vB wB hoB hgB; have HOB := Lib.hid hoB; have HBB := Lib.hid ((HB9.out.trans (HBA.out.mono (Nat.le_trans hz5 HB9.out.size))).trans hgB.below_); clear hoB hgB))
    go_ret
    have ho := HOB.out
    have e : ((([a] ++ encN sk) ++ encN t) ++ encN c) ++ encN s = ReV.enc ⟨a, k, t, c, s⟩ := by simp [ReV.enc, ReV.ns, encs, HSK.out]
    rw [e] at ho
    exact ⟨_, rfl, ho.weak (Nat.le_succ _), HB5.out.trans (HBB.out.mono (Nat.le_succ _))⟩
end Go.Proofs.Ytmnkmnnngfgbgaa
