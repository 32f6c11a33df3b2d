/- Numbers, calls and answers as bytes: the program's. -/
import Derived.Test.YtmnkmnnngfgbgaaClc
import Derived.Deep.RegionHeld3
import Derived.Deep.RegionWith
import Derived.Deep.AppendLies
namespace Go.Proofs.Ytmnkmnnngfgbgaa
open Go.RowKit Go.ChangeShapes Go.WideShapes Go.Deep
set_option linter.unusedVariables false
set_option linter.unusedSimpArgs false
/-- A call. -/
structure OpV where
  k : Int
  t : Int
  c : Int
  n : Int
/-- An answer. -/
structure ReV where
  a : Int
  k : Int
  t : Int
  c : Int
  s : Int
abbrev OpV.v (o : OpV) : Value := .agg #[.int .u8 o.k, .int .i64 o.t, .int .i64 o.c, .int .i64 o.n]
abbrev ReV.v (o : ReV) : Value := .agg #[.int .u8 o.a, .int .u64 o.k, .int .i64 o.t, .int .i64 o.c, .int .i64 o.s]
def I64 (a : Int) : Prop := -9223372036854775808 ≤ a ∧ a ≤ 9223372036854775807
def OpV.ok (o : OpV) : Prop := (0 ≤ o.k ∧ o.k ≤ 255) ∧ I64 o.t ∧ I64 o.c ∧ I64 o.n
def ReV.ok (o : ReV) : Prop := (0 ≤ o.a ∧ o.a ≤ 255) ∧ (0 ≤ o.k ∧ o.k ≤ 18446744073709551615) ∧ I64 o.t ∧ I64 o.c ∧ I64 o.s
def sgn (k : Int) : Int := IntKind.i64.wrap k
theorem sgn_ok (k : Int) (h0 : 0 ≤ k) (h1 : k ≤ 18446744073709551615) : I64 (sgn k) := by
  unfold sgn I64
  simp only [IntKind.wrap, IntKind.bits, IntKind.signed]
  simp
  omega
def OpV.ns (o : OpV) : List Int := [o.t, o.c, o.n]
def ReV.ns (o : ReV) : List Int := [sgn o.k, o.t, o.c, o.s]
def OpV.enc (o : OpV) : List Int := o.k :: encs o.ns
def ReV.enc (o : ReV) : List Int := o.a :: encs o.ns
theorem OpV.ok64 {o : OpV} (h : o.ok) : Ok64 o.ns := by
  intro n hn
  unfold OpV.ns at hn
  simp only [List.mem_cons, List.not_mem_nil, or_false] at hn
  rcases hn with rfl | rfl | rfl
  · exact h.2.1
  · exact h.2.2.1
  · exact h.2.2.2
theorem ReV.ok64 {o : ReV} (h : o.ok) : Ok64 o.ns := by
  intro n hn
  unfold ReV.ns at hn
  simp only [List.mem_cons, List.not_mem_nil, or_false] at hn
  rcases hn with rfl | rfl | rfl | rfl
  · exact sgn_ok _ h.2.1.1 h.2.1.2
  · exact h.2.2.1
  · exact h.2.2.2.1
  · exact h.2.2.2.2
/-- Bytes behind what stood there, our own. -/
def EncP (base : Nat) (v : Value) (w : World) (T : List Int) (e : Ending) (w' : World) : Prop :=
  ∃ v', e = .returned v' ∧ Grw base v w v' w' ∧ OwK .u8 5 w' base v' T
theorem spare_nil (w : World) : Calls Try.prog 23 #[.slice none 0 0] w fun e w' => e = .returned (.slice none 0 0) ∧ w = w' := by
  go_enter Try.func23, Try.ntmps23
  go_wp2
  go_ret
  exact ⟨rfl, rfl⟩
theorem spare_some (a : Addr) (n c : Nat) (w : World) (h : n ≤ c) (hc : c ≤ maxLen) : Calls Try.prog 23 #[.slice (some a) n c] w fun e w' => e = .returned (.slice (some a) n n) ∧ w = w' := by
  unfold maxLen at hc
  go_enter Try.func23, Try.ntmps23
  go_wp2
  go_ret
  exact ⟨rfl, rfl⟩
set_option maxHeartbeats 1000000 in
theorem number_any {base : Nat} {v v2 : Value} {L : List Int} {n : Int} (w : World) (hsp : Calls Try.prog 23 #[v] w fun e w' => e = .returned v2 ∧ w = w') (hp : PB w base v2 L) (hb : base ≤ w.heap.size) (hl : L.length ≤ 1000) (hn0 : -9223372036854775808 ≤ n) (hn1 : n ≤ 9223372036854775807) :
    Calls Try.prog 9 #[v, .int .i64 n] w (EncP base v2 w (L ++ encN n)) := by
  have HS := Lib.hid hsp
  have HP := Lib.hid hp
  have HK := Lib.hid (show Ok64 [n] from fun x hx => by simp at hx; subst hx; exact ⟨hn0, hn1⟩)
  clear hsp hp
  go_enter Try.func9, Try.ntmps9
  go_wp2_with (first | (go_at_call 23; refine HS.out.mono ?_; rintro e w' ⟨rfl, rfl⟩) | (go_at_call 22; refine (addn_any (base := base) (v := v2) (L := L) (ns := [n]) (g := w.heap.size) (c := 1) _ (HP.out.alloc_ hb _) (by simp; omega) (Blk.made _ _ _) HK.out (by simp; omega)).mono ?_; rintro e w' ⟨v', rfl, hg, hpb, ho⟩; have HG := Lib.hid (hg.alloc0 hb); have HO := Lib.hid (ho (by simp)); clear hg hpb ho))
  go_ret
  have ho := HO.out
  have e : encs [n] = encN n := by simp [encs]
  rw [e] at ho
  exact ⟨_, rfl, HG.out, ho⟩
set_option maxHeartbeats 1000000 in
theorem addrec_any {base g c : Nat} {v : Value} {L ns : List Int} {k : Int} (w : World) (hp : PB w base v L) (hb : base ≤ w.heap.size) (hg : Blk w g 2 (ns.map (Value.int .i64)).toArray) (hn : Ok64 ns) (h0 : ns ≠ []) (hl : L.length + 1 + ns.length * 10 ≤ 9000) (hk0 : 0 ≤ k) (hk1 : k ≤ 255) :
    Calls Try.prog 26 #[v, .int .u8 k, .slice (some ⟨g, 0, none⟩) ns.length c] w (EncP base v w (L ++ k :: encs ns)) := by
  have HN := Lib.hid hn
  have HG := Lib.hid hg
  have HP := Lib.hid hp
  have H0 := Lib.hid h0
  clear hn hg hp h0
  go_enter Try.func26, Try.ntmps26
  go_wp2_with (first | (at_builtin; refine wpList_byte (v := v) (L := L) (z := k) (g := w.heap.size) rfl (.tmp 7) (.tmp 9) rfl rfl rfl (HP.out.alloc_ hb _) (Blk.made _ _ _) (by omega) (by simp; omega) ?_; intro v5 w5 ho5 hg5; have HO5 := Lib.hid ho5; have HG5 := Lib.hid (hg5.alloc0 hb); clear ho5 hg5) | (go_at_call 22; refine (addn_any (base := base) (v := v5) (L := L ++ [k]) (ns := ns) (g := g) (c := c) _ (.inl HO5.out) (Nat.le_trans hb HG5.out.kept.size) (HG.out.kept HG5.out.kept (fun hc => HP.out.other HG.out (by decide) hc)) HN.out (by simp; omega)).mono ?_; rintro e w' ⟨v', rfl, hg, hpb, ho⟩; have HGZ := Lib.hid (HG5.out.trans hg); have HO := Lib.hid (ho H0.out); clear hg hpb ho))
  go_ret
  have ho := HO.out
  have e : (L ++ [k]) ++ encs ns = L ++ k :: encs ns := by simp
  rw [e] at ho
  exact ⟨_, rfl, HGZ.out, ho⟩
set_option maxHeartbeats 1000000 in
theorem addop_any {base : Nat} {v : Value} {L : List Int} {o : OpV} (w : World) (hp : PB w base v L) (hb : base ≤ w.heap.size) (ho : o.ok) (hl : L.length ≤ 8000) :
    Calls Try.prog 25 #[v, o.v] w (EncP base v w (L ++ o.enc)) := by
  have HP := Lib.hid hp
  have HK := Lib.hid (OpV.ok64 ho)
  obtain ⟨k, t, c, n⟩ := o
  obtain ⟨⟨hk0, hk1⟩, -, -, -⟩ := ho
  simp only at hk0 hk1
  clear hp
  go_enter Try.func25, Try.ntmps25
  go_wp2_with (go_at_call 26; refine (addrec_any (base := base) (v := v) (L := L) (ns := [t, c, n]) (k := k) (g := w.heap.size + 1) (c := 3) _ ((HP.out.alloc_ hb _).alloc_ (by simp; omega) _) (by simp; omega) (Blk.new_ (by simp)) HK.out (by simp) (by simp; omega) hk0 hk1).mono ?_; rintro e w' ⟨v', rfl, hg, ho⟩; have HG := Lib.hid ((hg.alloc0 (by simp; omega)).alloc0 hb); have HO := Lib.hid ho; clear hg ho)
  go_ret
  exact ⟨_, rfl, HG.out, HO.out⟩
set_option maxHeartbeats 4000000 in
theorem op_nil {o : OpV} (w : World) (ho : o.ok) :
    Calls Try.prog 13 #[.slice none 0 0, o.v] w (EncP w.heap.size (.slice none 0 0) w o.enc) := by
  have HK := Lib.hid ho
  obtain ⟨k, t, c, n⟩ := o
  clear ho
  go_enter Try.func13, Try.ntmps13
  go_upto_region 1 with fail
  go_region_with (first | (go_at_call 23; refine (spare_nil _).mono ?_; rintro e w' ⟨rfl, rfl⟩) | (go_at_call 25; refine (addop_any (base := w.heap.size) (v := .slice none 0 0) (L := []) (o := ⟨k, t, c, n⟩) _ (.inl (OwK.nil_ _ _ _ _)) (by simp) HK.out (by simp)).mono ?_; rintro e w' ⟨v', rfl, hg, ho⟩; have HG := Lib.hid hg; have HO := Lib.hid ho; clear hg ho))
  all_goals
    go_wp2
    go_ret
    refine ⟨_, rfl, ?_, HO.out⟩
    first | exact HG.out.alloc0 (Nat.le_refl _) | exact HG.out.drew0.alloc0 (Nat.le_refl _) | exact HG.out.drew0.drew0.alloc0 (Nat.le_refl _) | exact (HG.out.alloc0 (by simp)).drew0
set_option maxHeartbeats 8000000 in
theorem result_nil {o : ReV} (w : World) (ho : o.ok) :
    Calls Try.prog 14 #[.slice none 0 0, o.v] w (EncP w.heap.size (.slice none 0 0) w o.enc) := by
  have HK := Lib.hid ho
  have HN := Lib.hid (ReV.ok64 ho)
  obtain ⟨a, k, t, c, s⟩ := o
  obtain ⟨⟨ha0, ha1⟩, ⟨hk0, hk1⟩, -, -, -⟩ := ho
  obtain ⟨sk, hsk⟩ : ∃ sk, sgn k = sk := ⟨_, rfl⟩
  have hs2 : IntKind.i64.wrap k = sk := hsk
  simp only at ha0 ha1 hk0 hk1
  have HSK := Lib.hid hsk
  have HN2 := Lib.hid (show Ok64 [sk, t, c, s] by rw [← hsk]; exact HN.out)
  clear hsk
  go_enter Try.func14, Try.ntmps14
  go_upto_region 1 with fail
  have c0 : (w.alloc (.cells #[.int .u8 a, .int .u64 k, .int .i64 t, .int .i64 c, .int .i64 s] 36)).cell? ⟨w.heap.size, 0, none⟩ = some (.int .u8 a) := (Blk.made w _ _).val rfl
  have c1 : (w.alloc (.cells #[.int .u8 a, .int .u64 k, .int .i64 t, .int .i64 c, .int .i64 s] 36)).cell? ⟨w.heap.size, 1, none⟩ = some (.int .u64 k) := (Blk.made w _ _).val rfl
  have c2 : (w.alloc (.cells #[.int .u8 a, .int .u64 k, .int .i64 t, .int .i64 c, .int .i64 s] 36)).cell? ⟨w.heap.size, 2, none⟩ = some (.int .i64 t) := (Blk.made w _ _).val rfl
  have c3 : (w.alloc (.cells #[.int .u8 a, .int .u64 k, .int .i64 t, .int .i64 c, .int .i64 s] 36)).cell? ⟨w.heap.size, 3, none⟩ = some (.int .i64 c) := (Blk.made w _ _).val rfl
  have c4 : (w.alloc (.cells #[.int .u8 a, .int .u64 k, .int .i64 t, .int .i64 c, .int .i64 s] 36)).cell? ⟨w.heap.size, 4, none⟩ = some (.int .i64 s) := (Blk.made w _ _).val rfl
  go_region_held3 (fun w' => w'.cell? ⟨w.heap.size, 0, none⟩ = some (.int .u8 a) ∧ w'.cell? ⟨w.heap.size, 1, none⟩ = some (.int .u64 k) ∧ w'.cell? ⟨w.heap.size, 2, none⟩ = some (.int .i64 t) ∧ w'.cell? ⟨w.heap.size, 3, none⟩ = some (.int .i64 c) ∧ w'.cell? ⟨w.heap.size, 4, none⟩ = some (.int .i64 s)) (repeat (first | with_reducible assumption | refine ⟨?_, ?_⟩ | with_reducible refine kdrew ?_ | with_reducible refine kalloc ?_ _ | refine (HB9.out.cell (by simp; omega)).trans ?_)) (first | (go_at_call 23; refine (spare_nil _).mono ?_; rintro e w' ⟨rfl, rfl⟩) | (go_at_call 26; refine (addrec_any (base := w.heap.size) (v := .slice none 0 0) (L := []) (ns := [sk, t, c, s]) (k := a) (g := w.heap.size + 1) (c := 4) _ (.inl (OwK.nil_ _ _ _ _)) (by simp; omega) (by first | exact Blk.new_ (by simp) | exact (Blk.new_ (by simp)).drew_) HN2.out (by simp) (by simp) ha0 ha1).mono ?_; rintro e w' ⟨v', rfl, hg, ho⟩; have HB9 := Lib.hid hg.stay; have HG := Lib.hid hg; have HO := Lib.hid ho; clear hg ho))
  all_goals
    go_wp2
    go_ret
    have ho := HO.out
    refine ⟨_, rfl, ?_, by unfold ReV.enc ReV.ns; simp only; rw [HSK.out]; exact ho⟩
    first | exact (HG.out.drew0.alloc0 (by simp)).alloc0 (Nat.le_refl _) | exact ((HG.out.alloc0 (by simp)).drew0).alloc0 (Nat.le_refl _) | exact ((HG.out.alloc0 (by simp)).alloc0 (Nat.le_refl _))
end Go.Proofs.Ytmnkmnnngfgbgaa
