/- Numbers appended as bytes, behind whatever stands there: by the program. -/
import Derived.Test.YtmnkmnnngfgbgaaClb
import Derived.ScopeJumps
import Derived.Deep.LoopGhost
import Derived.Deep.DeepCutAuto
namespace Go.Proofs.Ytmnkmnnngfgbgaa
open Go.RowKit Go.ChangeShapes Go.WideShapes Go.Deep
set_option linter.unusedVariables false
set_option linter.unusedSimpArgs false
def AddP (base : Nat) (v : Value) (w : World) (L ns : List Int) (e : Ending) (w' : World) : Prop :=
  ∃ v', e = .returned v' ∧ Grw base v w v' w' ∧ PB w' base v' (L ++ encs ns) ∧ (ns ≠ [] → OwK .u8 5 w' base v' (L ++ encs ns))
structure InAt (base : Nat) (v : Value) (w : World) (g : Nat) (ns T : List Int) (v1 : Value) (m : Nat) (M : List Int) (w1 : World) : Prop where
  gr : Grw base v w v1 w1
  pb : PB w1 base v1 M
  nb : Blk w1 g 2 (ns.map (Value.int .i64)).toArray
  ml : m < 18446744073709551616
  eq : M ++ encU m = T
  le : M.length ≤ 9000
theorem InAt.next {base : Nat} {v : Value} {w : World} {g : Nat} {ns T : List Int} {v1 : Value} {m : Nat} {M : List Int} {w1 : World} (h : InAt base v w g ns T v1 m M w1) (hT : T.length ≤ 9000) (hm : ¬ m < 128) {o : Obj} {v2 : Value} {w2 : World} (ho : OwK .u8 5 w2 base v2 (M ++ [((m % 128 + 128 : Nat) : Int)])) (hg : Grw base v1 (w1.alloc o) v2 w2) :
    InAt base v w g ns T v2 (m / 128) (M ++ [((m % 128 + 128 : Nat) : Int)]) w2 := by
  have hb := Nat.le_trans h.gr.hb h.gr.kept.size
  have hg' := hg.alloc0 hb
  have he : (M ++ [((m % 128 + 128 : Nat) : Int)]) ++ encU (m / 128) = T := by rw [← h.eq, encU_big hm, List.append_assoc]; rfl
  refine ⟨h.gr.trans hg', .inl ho, h.nb.kept hg'.kept (fun hc => h.pb.other h.nb (by decide) hc), by have := h.ml; omega, he, ?_⟩
  have := encU_pos (m / 128)
  have := congrArg List.length he
  rw [List.length_append] at this
  omega
theorem InAt.last {base : Nat} {v : Value} {w : World} {g : Nat} {ns T : List Int} {v1 : Value} {m : Nat} {M : List Int} {w1 : World} (h : InAt base v w g ns T v1 m M w1) (hm : m < 128) {o : Obj} {v2 : Value} {w2 : World} (ho : OwK .u8 5 w2 base v2 (M ++ [(m : Int)])) (hg : Grw base v1 (w1.alloc o) v2 w2) :
    OwK .u8 5 w2 base v2 T ∧ Grw base v w v2 w2 ∧ Blk w2 g 2 (ns.map (Value.int .i64)).toArray := by
  have hb := Nat.le_trans h.gr.hb h.gr.kept.size
  have hg' := hg.alloc0 hb
  have he : M ++ [(m : Int)] = T := by rw [← h.eq, encU_small hm]
  rw [he] at ho
  exact ⟨ho, h.gr.trans hg', h.nb.kept hg'.kept (fun hc => h.pb.other h.nb (by decide) hc)⟩
set_option maxRecDepth 100000 in
set_option maxHeartbeats 4000000 in
theorem addn_any {base g c : Nat} {v : Value} {L ns : List Int} (w : World) (hp : PB w base v L) (hb : base ≤ w.heap.size) (hg : Blk w g 2 (ns.map (Value.int .i64)).toArray) (hn : Ok64 ns) (hl : L.length + ns.length * 10 ≤ 9000) :
    Calls Try.prog 22 #[v, .slice (some ⟨g, 0, none⟩) ns.length c] w (AddP base v w L ns) := by
  have HN := Lib.hid hn
  have HG := Lib.hid hg
  have HP := Lib.hid hp
  clear hn hg hp
  have hnl : ns.length ≤ 1000 := by omega
  go_enter Try.func22, Try.ntmps22
  go_wp2
  go_loopw [0, 10] (fun s0 s10 wr => ∃ j : Nat, j ≤ ns.length ∧ s10 = .int .i64 (j : Int) ∧ Grw base v w s0 wr ∧ PB wr base s0 (L ++ encs (ns.take j)) ∧ (0 < j → OwK .u8 5 wr base s0 (L ++ encs (ns.take j))) ∧ Blk wr g 2 (ns.map (Value.int .i64)).toArray) (fun _ s _ => ns.length - (intOf s).toNat)
  case atStart => exact ⟨0, Nat.zero_le _, rfl, Grw.refl_ hb, by (show PB w base v (L ++ encs (ns.take 0))); rw [List.take_zero, encs_nil, List.append_nil]; exact HP.out, fun h => absurd h (by omega), HG.out⟩
  case round =>
    obtain ⟨j, hj, rfl, hgr, hpb, how, hnb⟩ := hrel
    by_cases hjn : j < ns.length
    · obtain ⟨n, hnj⟩ : ∃ n, ns[j]? = some n := ⟨_, List.getElem?_eq_getElem hjn⟩
      have hcell : wr.cell? ⟨g, j, none⟩ = some (.int .i64 n) := by rw [hnb.at_, List.getElem?_toArray, List.getElem?_map, hnj]; rfl
      have hno := HN.out n (List.mem_of_getElem? hnj)
      obtain ⟨hn0, hn1⟩ := hno
      have htk : ns.take (j + 1) = ns.take j ++ [n] := by rw [List.take_add_one, hnj]; rfl
      obtain ⟨T, hT⟩ : ∃ T, L ++ encs (ns.take (j + 1)) = T := ⟨_, rfl⟩
      have hT2 : (L ++ encs (ns.take j)) ++ encU (unz n) = T := by rw [← hT, htk, encs_snoc, List.append_assoc]; rfl
      have hok : ∀ i, Ok64 (ns.take i) := fun i x hx => HN.out x (List.mem_of_mem_take hx)
      have hTl : T.length ≤ 9000 := by
        rw [← hT, List.length_append]; have := encs_len _ (hok (j + 1)); rw [List.length_take] at this; omega
      have hMl : (L ++ encs (ns.take j)).length ≤ 9000 := by
        rw [List.length_append]; have := encs_len _ (hok j); rw [List.length_take] at this; omega
      obtain ⟨m, hm⟩ : ∃ m, unz n = m := ⟨_, rfl⟩
      have HM := Lib.hid hm
      have HI := Lib.hid (show InAt base v w g ns T u0 m (L ++ encs (ns.take j)) wr from ⟨hgr, hpb, hnb, by rw [← hm]; exact unz_lt hn0 hn1, by rw [← hm]; exact hT2, hMl⟩)
      have HT := Lib.hid hT
      have HTL := Lib.hid hTl
      have HLE := Lib.hid (show 9000 ≤ 10000 by omega)
      clear hgr hpb how hnb hnj htk hT hT2 hMl hm
      go_wp2_with fail
      refine wp_scope_jumps 0 (fun a' w' => ∃ (v1 : Value) (q : Nat) (M : List Int) (u14 u15 u16 u17 u18 u19 u20 u21 u22 u23 u24 u25 u26 u27 u28 u29 u30 u31 u32 : Value), a' = { tmps := #[v1, .slice (some ⟨g, 0, none⟩) ns.length c, undef, undef, .slice none 0 0, undef, .int .i64 n, .int .u64 (q : Int), .slice (some ⟨g, 0, none⟩) ns.length c, .int .i64 ns.length, .int .i64 j, .bool true, .pointer (some ⟨g, j, none⟩), .int .i64 n, u14, u15, u16, u17, u18, u19, u20, u21, u22, u23, u24, u25, u26, u27, u28, u29, u30, u31, u32, undef], defers := [] } ∧ InAt base v w g ns T v1 q M w') (fun a' _ => (intOf (a'.tmps.getD 7 undef)).toNat) rfl ?_ ?_
      · by_cases hq : m < 128
        · have hq2 : (m : Int) < 128 := by omega
          have hq3 : ¬ 128 ≤ (m : Int) := by omega
          have hq4 : (0 : Int) ≤ (m : Int) := by omega
          go_wp2_with (go_at_call 28; (with_reducible refine (unsigned_any n _ hn0 hn1).mono ?_); rintro e w' ⟨rfl, rfl⟩; rw [HM.out])
          go_step3
          go_wp2_with (at_builtin; refine wpList_byte (v := u0) (L := L ++ encs (ns.take j)) (z := (m : Int)) (g := wr.heap.size) rfl (.tmp 27) (.tmp 30) rfl rfl rfl (HI.out.pb.alloc_ (Nat.le_trans HI.out.gr.hb HI.out.gr.kept.size) _) (Blk.made _ _ _) (by have := HI.out.le; have := HLE.out; omega) (Nat.le_trans (Nat.le_trans HI.out.gr.hb HI.out.gr.kept.size) (by simp)) ?_; intro v5 w5 ho5 hg5; have HO5 := Lib.hid ho5; have HG5 := Lib.hid hg5; clear ho5 hg5)
          simp only [Exit.jump, Exit.inBlock, Exit.then]
          first | (rename_i K0 hK0; refine hK0 _ _ ?_) | (rename_i K0 hK0 h9; refine hK0 _ _ ?_) | (rename_i K0 hK0 h8 h9; refine hK0 _ _ ?_)
          go_wp2
          obtain ⟨o1, o2, o3⟩ := HI.out.last hq HO5.out HG5.out
          go_roundw
          case rel => exact ⟨j + 1, by omega, by go_num, o2, by rw [HT.out]; exact .inl o1, fun _ => by rw [HT.out]; exact o1, o3⟩
          case measure => simp [intOf]; omega
        · have hq2 : 128 ≤ (m : Int) := by omega
          have hq3 : ¬ (m : Int) < 128 := by omega
          have hq4 : (0 : Int) ≤ (m : Int) := by omega
          have hq5 : (m : Int) ≤ 18446744073709551615 := by have := HI.out.ml; omega
          go_wp2_with (go_at_call 28; (with_reducible refine (unsigned_any n _ hn0 hn1).mono ?_); rintro e w' ⟨rfl, rfl⟩; rw [HM.out])
          go_step3
          go_wp2_with (at_builtin; refine wpList_byte (v := u0) (L := L ++ encs (ns.take j)) (z := 128 + (m : Int) % 128) (g := wr.heap.size) rfl (.tmp 18) (.tmp 23) rfl rfl rfl (HI.out.pb.alloc_ (Nat.le_trans HI.out.gr.hb HI.out.gr.kept.size) _) (Blk.made _ _ _) (by have := HI.out.le; have := HLE.out; omega) (Nat.le_trans (Nat.le_trans HI.out.gr.hb HI.out.gr.kept.size) (by simp)) ?_; intro v5 w5 ho5 hg5; have HO5 := Lib.hid ho5; have HG5 := Lib.hid hg5; clear ho5 hg5)
          have e1 : (128 + (m : Int) % 128) = ((m % 128 + 128 : Nat) : Int) := by omega
          have e2 : (m : Int) / 128 = ((m / 128 : Nat) : Int) := by omega
          have ho5 := HO5.out
          rw [e1] at ho5
          have hnx := HI.out.next HTL.out hq ho5 HG5.out
          rw [e2]
          have HNX := Lib.hid hnx
          clear hnx ho5 e1 e2 HO5 HG5
          go_step3
          exact ⟨rfl, _, _, _, _, _, _, _, _, _, _, _, _, _, _, _, _, _, _, _, _, _, _, rfl, HNX.out⟩
      · rintro a' w' ⟨v1, q, M, u14, u15, u16, u17, u18, u19, u20, u21, u22, u23, u24, u25, u26, u27, u28, u29, u30, u31, u32, rfl, hin⟩
        have HH := Lib.hid hin
        clear hin
        by_cases hq : q < 128
        · have hq2 : (q : Int) < 128 := by omega
          have hq3 : ¬ 128 ≤ (q : Int) := by omega
          have hq4 : (0 : Int) ≤ (q : Int) := by omega
          go_wp2_with (at_builtin; refine wpList_byte (v := v1) (L := M) (z := (q : Int)) (g := w'.heap.size) rfl (.tmp 27) (.tmp 30) rfl rfl rfl (HH.out.pb.alloc_ (Nat.le_trans HH.out.gr.hb HH.out.gr.kept.size) _) (Blk.made _ _ _) (by have := HH.out.le; have := HLE.out; omega) (Nat.le_trans (Nat.le_trans HH.out.gr.hb HH.out.gr.kept.size) (by simp)) ?_; intro v5 w5 ho5 hg5; have HO5 := Lib.hid ho5; have HG5 := Lib.hid hg5; clear ho5 hg5)
          simp only [Exit.jump, Exit.inBlock, Exit.then]
          first | (rename_i K0 hK0; refine hK0 _ _ ?_) | (rename_i K0 hK0 h9; refine hK0 _ _ ?_) | (rename_i K0 hK0 h8 h9; refine hK0 _ _ ?_)
          go_wp2
          obtain ⟨o1, o2, o3⟩ := HH.out.last hq HO5.out HG5.out
          go_roundw
          case rel => exact ⟨j + 1, by omega, by go_num, o2, by rw [HT.out]; exact .inl o1, fun _ => by rw [HT.out]; exact o1, o3⟩
          case measure => simp [intOf]; omega
        · have hq2 : 128 ≤ (q : Int) := by omega
          have hq3 : ¬ (q : Int) < 128 := by omega
          have hq4 : (0 : Int) ≤ (q : Int) := by omega
          have hq5 : (q : Int) ≤ 18446744073709551615 := by have := HH.out.ml; omega
          go_wp2_with (at_builtin; refine wpList_byte (v := v1) (L := M) (z := 128 + (q : Int) % 128) (g := w'.heap.size) rfl (.tmp 18) (.tmp 23) rfl rfl rfl (HH.out.pb.alloc_ (Nat.le_trans HH.out.gr.hb HH.out.gr.kept.size) _) (Blk.made _ _ _) (by have := HH.out.le; have := HLE.out; omega) (Nat.le_trans (Nat.le_trans HH.out.gr.hb HH.out.gr.kept.size) (by simp)) ?_; intro v5 w5 ho5 hg5; have HO5 := Lib.hid ho5; have HG5 := Lib.hid hg5; clear ho5 hg5)
          have e1 : (128 + (q : Int) % 128) = ((q % 128 + 128 : Nat) : Int) := by omega
          have e2 : (q : Int) / 128 = ((q / 128 : Nat) : Int) := by omega
          have ho5 := HO5.out
          rw [e1] at ho5
          have hnx := HH.out.next HTL.out hq ho5 HG5.out
          rw [e2]
          have HNX := Lib.hid hnx
          clear hnx ho5 e1 e2 HO5 HG5
          go_step3
          exact ⟨rfl, ⟨_, _, _, _, _, _, _, _, _, _, _, _, _, _, _, _, _, _, _, _, _, _, rfl, HNX.out⟩, by simp [intOf]; omega⟩
    · obtain rfl : j = ns.length := by omega
      go_wp2
      go_ret
      rw [List.take_length] at hpb how
      exact ⟨_, rfl, hgr, hpb, fun h => how (List.length_pos_iff.2 h)⟩
end Go.Proofs.Ytmnkmnnngfgbgaa
