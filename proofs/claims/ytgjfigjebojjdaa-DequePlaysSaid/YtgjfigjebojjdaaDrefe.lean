/- The document's New on rows. -/
import Derived.Test.YtgjfigjebojjdaaDrefd
namespace Go.Proofs.Ytgjfigjebojjdaa
open Go.RowKit Go.Shelf
set_option linter.unusedVariables false
theorem sinfo : (Try.prog.info? 59).map (fun i => (i.zero, i.size, i.bytes)) = some (some (.slice none 0 0), 1, 24) := by kernel_rfl
theorem rep_snoc (k : Nat) : List.replicate (k + 1) (Value.slice none 0 0) = List.replicate k (Value.slice none 0 0) ++ [Value.slice none 0 0] := List.replicate_succ'
set_option maxRecDepth 100000 in
set_option maxHeartbeats 4000000 in
theorem rnew_any (N M : Nat) (w : World) (h1 : 1 ≤ N) (h2 : N ≤ 8) :
    Calls Try.prog 34 #[.int .i64 (N : Int), .int .i64 (M : Int)] w fun e w' => ∃ q g cap v, e = .returned (.pointer (some ⟨q, 0, none⟩)) ∧ RefAt w' w.heap.size q g N cap M (fun _ => []) v ∧ Below w.heap.size w w' := by
  obtain ⟨i0, hi0, hz0, hz1, hz2⟩ := info_parts sinfo
  go_enter Try.func34, Try.ntmps34
  go_wp2
  go_loopw [6] (fun s6 wr => ∃ (k : Nat) (A : Option Addr) (c : Nat), k ≤ N ∧ s6 = .int .i64 k ∧ Blk wr w.heap.size 130 #[.slice A k c, .int .i64 (M : Int)] ∧ wr.ownsRow w.heap.size 59 1 (.slice A k c) k (List.replicate k (.slice none 0 0)) ∧ Below w.heap.size w wr) (fun s _ => N - (intOf s).toNat)
  case atStart => exact ⟨0, none, 0, Nat.zero_le _, rfl, Blk.made w _ _, World.ownsRow_nil _ _ _ _, (Below.refl _ _).alloc (Nat.le_refl _) _⟩
  case round =>
    obtain ⟨k, A, c, hk, rfl, hb, hown, hbr⟩ := hrel
    have d0 : wr.cell? ⟨w.heap.size, 0, none⟩ = some (.slice A k c) := hb.val (i := 0) rfl
    have hzr := hb.size
    have HBK := Lib.hid hb
    have HOW := Lib.hid hown
    clear hb hown
    by_cases hlt : k < N
    · go_wp2_with (at_builtin; refine wpList_append_own _ rfl (.tmp 19) (.tmp 20) 128 rfl w.heap.size 59 i0 (.slice none 0 0) 1 24 Try.underlying128 hi0 hz0 hz1 hz2 rfl (by decide) _ _ _ rfl (HOW.out.alloc _) ⟨wr.heap.size, 0, none⟩ 1 1 [.slice none 0 0] rfl rfl (by intro j u hj; match j, hj with | 0, hj => simp at hj; subst hj; (try simp [Addr.add]); (try exact (Blk.new_ (by simp)).val rfl)) (by intro u hu; simp at hu; subst hu; rfl) (by unfold maxLen; omega) (by omega) (by simp; omega) ?_; intro v7 w7 hown7 hg7 _; have hb7 := (HBK.out.alloc_ (.cells #[.slice none 0 0] 59)).grown_ hg7 (HOW.out.alloc _) (by decide); have e7 : w7.cell? ⟨w.heap.size, 0, none⟩ = some (.slice A k c) := hb7.val (i := 0) rfl; have f7 := hb7.free 0; obtain ⟨A7, c7, rfl⟩ := own_form hown7; have HB7 := Lib.hid hb7; have HO7 := Lib.hid hown7; have HG7 := Lib.hid hg7; clear hown7 hg7 hb7)
      go_roundw
      case rel =>
        refine ⟨k + 1, A7, c7, by omega, by go_num, HB7.out.set_ 0 _, ?_, ((hbr.alloc hbr.size _).grown HG7.out (by have := hbr.size; simp; omega) (fun g' e => own_base (HOW.out.alloc (.cells #[.slice none 0 0] 59)) e)).setCell (p := ⟨w.heap.size, 0, none⟩) (Nat.le_refl _) _⟩
        rw [rep_snoc]
        exact own_kept (own := fun g => g = w.heap.size) HO7.out (Kept.set_ (own := fun g => g = w.heap.size) (Kept.refl _ _) (.inl rfl) _) fun g cs hb => hb.other HB7.out (by decide)
      case measure => simp [intOf]; omega
    · obtain rfl : k = N := by omega
      go_wp2
      go_ret
      rcases HOW.out.2 with ⟨_, e⟩ | ⟨g, cap, cur, e, hb1, hh, hnc, _, hsz, htk⟩
      · omega
      · simp only [Value.slice.injEq] at e
        obtain ⟨rfl, -, rfl⟩ := e
        refine ⟨w.heap.size, g, _, fun _ => .slice none 0 0, rfl, ⟨Nat.le_refl _, hb1, hnc, h2, HBK.out, ⟨cur, hh, by omega, fun r hr => ?_⟩, fun r hr => World.ownsRow_nil _ _ _ _, fun r r' _ _ _ x hx => by cases hx⟩, hbr⟩
        have h3 : (cur.toList.take (k * 1))[r]? = some (.slice none 0 0) := by rw [htk]; simp [hr]
        rw [List.getElem?_take_of_lt (by omega)] at h3
        simpa using h3
end Go.Proofs.Ytgjfigjebojjdaa
