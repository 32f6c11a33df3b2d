/- Bytes appended that can be read; are bytes the same; a copy of bytes; the examples. -/
import Derived.Test.YtmnkmnnngfgbgaaCle
namespace Go.Proofs.Ytmnkmnnngfgbgaa
open Go.RowKit Go.ChangeShapes Go.WideShapes Go.Deep
set_option linter.unusedVariables false
set_option linter.unusedSimpArgs false
section
variable {w w' : World} {base B : Nat} {v : Value} {A : Option Addr} {c : Nat} {L M : List Int} {ops : Array Oper} {rest : List Oper} {o : Oper} {ac : Act} {Q : Exit → Act → World → Prop} {K : Act → World → Prop}
theorem run_more_none {ty : TypeId} (hp : OwK .u8 5 w base v L) : (Builtin.append_ #[22, 22] ty #[v, .slice none 0 c]).run Try.prog w = .ok v w := by
  obtain ⟨i, hi, hz0, hz1, hz2⟩ := infk_of binfo
  rcases hp.2 with ⟨rfl, h0⟩ | ⟨g, cap, cur, rfl, _, _, hnc, _⟩
  · simp [Builtin.append_, run_underlying Try.underlying22, sizeOf, typeInfo, hi, Builtin.lenOf, Builtin.firstCells]
  · simp [Builtin.append_, run_underlying Try.underlying22, sizeOf, typeInfo, hi, Builtin.lenOf, Builtin.firstCells, hnc, storeCells]
theorem wp_more (s y : Operand) (ho : o.op = .call { callee := .builtin .append, args := #[s, y], argTypes := #[22, 22] })
    (hs : ac.eval s = v) (hy : ac.eval y = .slice A M.length c) (hp : OwK .u8 5 w base v L) (hm : RdK .u8 w B A M) (hl : L.length + M.length ≤ 10000) (hb : base ≤ w.heap.size)
    (h : ∀ v' w', OwK .u8 5 w' base v' (L ++ M) → Grw base v w v' w' → K (ac.put o.dst v') w') : o.wp Try.prog ac w K Q := by
  have hmx := maxbig
  by_cases hA : ∃ a, A = some a
  · obtain ⟨a, rfl⟩ := hA
    obtain ⟨i, hi, hz0, hz1, hz2⟩ := infk_of binfo
    have hlen : (L ++ M).length = L.length + M.length := by simp
    have hmap : (L ++ M).map (Value.int .u8) = L.map (Value.int .u8) ++ M.map (Value.int .u8) := by simp
    have hnews : ∀ j u, (M.map (Value.int .u8))[j]? = some u → w.cell? (a.add j) = some u := fun j u hj => by
      rw [List.getElem?_map, Option.map_eq_some_iff] at hj
      obtain ⟨z, hz, rfl⟩ := hj
      have hj2 : j < M.length := by
        rcases Nat.lt_or_ge j M.length with h | h
        · exact h
        · rw [List.getElem?_eq_none h] at hz; cases hz
      obtain ⟨b, off, e, _, hc⟩ := hm (by omega)
      injection e with e
      rw [e, add_at]
      exact hc _ _ hz
    obtain ⟨v', w1, hr, h1, h2, _, h3⟩ := run_append_own_at (P := Try.prog) w base 22 o.type 5 i (.int .u8 0) 1 1 Try.underlying22 hi hz0 hz1 hz2 rfl (by decide) v L.length _ hp a M.length c (M.map (Value.int .u8)) (by simp) hnews (fun u hu => by obtain ⟨z, _, rfl⟩ := List.mem_map.1 hu; rfl) (by omega) (by omega) hb
    unfold Oper.wp execOp
    simp only [ho, resolve, invoke, builtin, Sem.run_bind, Sem.run_pure, Result.andThen_ok, List.map_toArray, List.map_cons, List.map_nil, hs, hy, hr]
    refine h _ w1 (by show w1.ownsRow _ _ 1 _ (L ++ M).length _; rw [hlen, hmap]; exact h1) ⟨hb, (Kept.refl _ _).grown h2 fun k hk => .inl ⟨hk, (hp.own_lt hk).1⟩, fun k hk hk2 => ?_⟩
    rcases h3 with h3 | h3
    · rw [h3] at hk; exact .inl hk
    · rw [h3] at hk; injection hk with hk; right; omega
  · have hA : A = none := by cases A with | none => rfl | some a => exact absurd ⟨a, rfl⟩ hA
    subst hA
    have hM : M = [] := by
      rcases Nat.eq_zero_or_pos M.length with h0 | h0
      · exact List.eq_nil_of_length_eq_zero h0
      · obtain ⟨b, off, e, _⟩ := hm h0; cases e
    subst hM
    have hr := run_more_none (w := w) (ty := o.type) (c := c) hp
    unfold Oper.wp execOp
    simp only [List.length_nil] at hy
    simp only [ho, resolve, invoke, builtin, Sem.run_bind, Sem.run_pure, Result.andThen_ok, List.map_toArray, List.map_cons, List.map_nil, hs, hy, hr]
    exact h v w (by rw [List.append_nil]; exact hp) (Grw.refl_ hb)
theorem wpList_more (hgd : o.guard = none) (s y : Operand) (ho : o.op = .call { callee := .builtin .append, args := #[s, y], argTypes := #[22, 22] })
    (hs : ac.eval s = v) (hy : ac.eval y = .slice A M.length c) (hp : OwK .u8 5 w base v L) (hm : RdK .u8 w B A M) (hl : L.length + M.length ≤ 10000) (hb : base ≤ w.heap.size)
    (h : ∀ v' w', OwK .u8 5 w' base v' (L ++ M) → Grw base v w v' w' → wpList Try.prog ops Q rest (ac.put o.dst v') w') : wpList Try.prog ops Q (o :: rest) ac w :=
  wpList_plain hgd fun _ hK => wp_more s y ho hs hy hp hm hl hb fun v' w' h1 h2 => hK _ _ (h v' w' h1 h2)
theorem conv_any (hm : RdK .u8 w B A L) : (convert 22 9 (.slice A L.length c)).run Try.prog w = .ok (.string (strOfNums L)) w := by
  rcases Nat.eq_zero_or_pos L.length with h0 | h0
  · have : L = [] := List.eq_nil_of_length_eq_zero h0
    subst this
    rw [run_convert_bytes_string w 22 9 5 A _ c Try.underlying22 Try.underlying5 Try.underlying9]
    cases A <;> simp [Conv.bytesToString, loadCells] <;> rfl
  · obtain ⟨b, off, rfl, _, hc⟩ := hm h0
    refine run_convert_bytes_arg w 22 5 Try.underlying22 Try.underlying5 b off L.length c L rfl (fun i hi => ?_) 9 Try.underlying9
    exact hc i _ (by rw [List.getD_eq_getElem?_getD, List.getElem?_eq_getElem hi]; rfl)
end
theorem equal_yes {w : World} {B B' c c' : Nat} {A A' : Option Addr} {L : List Int} (h : RdK .u8 w B A L) (h' : RdK .u8 w B' A' L) :
    Calls Try.prog 11 #[.slice A L.length c, .slice A' L.length c'] w fun e w' => e = .returned (.bool true) ∧ w = w' := by
  have q1 := conv_any (c := c) h
  have q2 := conv_any (c := c') h'
  obtain ⟨n, hn⟩ : ∃ n, L.length = n := ⟨_, rfl⟩
  obtain ⟨S, hS⟩ : ∃ S, strOfNums L = S := ⟨_, rfl⟩
  rw [hn] at q1 q2 ⊢
  rw [hS] at q1 q2
  clear hn hS
  go_enter Try.func11, Try.ntmps11
  go_wp2
  go_ret
  exact ⟨by first | rfl | simp, rfl⟩
theorem eql_nil_some (w : World) (a : Addr) (n c : Nat) : (binOp .eql 22 (.slice (some a) n c) (.slice none 0 0)).run Try.prog w = .ok (.bool false) w :=
  Lib.run_eql_slice_nil w 22 5 (some a) n c 0 0 Try.underlying22
theorem eql_nil_none (w : World) : (binOp .eql 22 (.slice none 0 0) (.slice none 0 0)).run Try.prog w = .ok (.bool true) w :=
  Lib.run_eql_slice_nil w 22 5 none 0 0 0 0 Try.underlying22
set_option maxHeartbeats 1000000 in
theorem clone_any {w : World} {B c : Nat} {A : Option Addr} {L : List Int} (h : RdK .u8 w B A L) (hB : B ≤ w.heap.size) (hl : L.length ≤ 5000) (hc : A = none → c = 0) :
    Calls Try.prog 8 #[.slice A L.length c] w (NewP w L) := by
  by_cases hA : ∃ a, A = some a
  · obtain ⟨a, rfl⟩ := hA
    have H := Lib.hid (h.more hB)
    have q1 := eql_nil_some w a L.length c
    clear h hc hB
    go_enter Try.func8, Try.ntmps8
    go_wp2_with (at_builtin; refine wpList_more (base := w.heap.size) (B := w.heap.size) (L := []) (M := L) (A := some a) (c := c) rfl (.tmp 5) (.tmp 6) rfl rfl rfl (own_empty (g := w.heap.size) 5 (Nat.le_refl _) (Blk.made _ _ _)) (H.out.below ((Below.refl _ _).alloc (Nat.le_refl _) _)) (by simp; omega) (by simp) ?_; intro v5 w5 ho5 hg5; have HO5 := Lib.hid ho5; have HG5 := Lib.hid (hg5.alloc0 (Nat.le_refl _)); clear ho5 hg5)
    go_ret
    exact ⟨_, rfl, HO5.out, HG5.out.below⟩
  · have hA : A = none := by cases A with | none => rfl | some a => exact absurd ⟨a, rfl⟩ hA
    subst hA
    have hM : L = [] := by
      rcases Nat.eq_zero_or_pos L.length with h0 | h0
      · exact List.eq_nil_of_length_eq_zero h0
      · obtain ⟨b, off, e, _⟩ := h h0; cases e
    subst hM
    obtain rfl := hc rfl
    have q1 := eql_nil_none w
    clear h
    simp only [List.length_nil]
    go_enter Try.func8, Try.ntmps8
    go_wp2
    go_ret
    exact ⟨_, rfl, OwK.nil_ _ _ _ _, Below.refl _ _⟩
end Go.Proofs.Ytmnkmnnngfgbgaa
