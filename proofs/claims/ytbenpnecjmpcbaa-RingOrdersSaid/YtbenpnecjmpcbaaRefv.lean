/- The document's ring: a new one. -/
import Derived.Test.YtbenpnecjmpcbaaRefw
import Derived.Test.YtbenpnecjmpcbaaRngj
import Derived.Test.YtbenpnecjmpcbaaAny
namespace Go.Proofs.Ytbenpnecjmpcbaa
open Go.RowKit
set_option linter.unusedVariables false
set_option linter.unusedSimpArgs false
def nums (k : Nat) : List Value := (List.range k).map fun (i : Nat) => Value.int .u64 (i : Int)
def zeros (k : Nat) : List Value := List.replicate k (Value.int .u64 0)
/-- In the midst of the making. -/
structure NewAt (w : World) (q k : Nat) (v1 v2 : Value) : Prop where
  head : Blk w q 77 #[.int .u64 0, .int .u64 0, v1, v2]
  r1 : w.ownsRow (q + 1) 33 1 v1 k (nums k)
  r2 : w.ownsRow (q + 1) 33 1 v2 k (zeros k)
  ne : v1.ownBlock = none ∨ v1.ownBlock ≠ v2.ownBlock
/-- What the loads of a round read. -/
def SN (w0 : World) (q : Nat) (v1 v2 : Value) (w : World) : Prop :=
  w.cell? ⟨q, 2, none⟩ = some v1 ∧ w.cell? ⟨q, 3, none⟩ = some v2 ∧ w.frozen? ⟨q, 2, none⟩ = false ∧ w.frozen? ⟨q, 3, none⟩ = false ∧ Blk w q 77 #[.int .u64 0, .int .u64 0, v1, v2] ∧ Below q w0 w
theorem SN.of {w0 w : World} {q : Nat} {v1 v2 : Value} (h : Blk w q 77 #[.int .u64 0, .int .u64 0, v1, v2]) (hb : Below q w0 w) : SN w0 q v1 v2 w := ⟨h.val (i := 2) rfl, h.val (i := 3) rfl, h.free 2, h.free 3, h, hb⟩
theorem SN.alloc_ {w0 w : World} {q : Nat} {v1 v2 : Value} {o : Obj} (h : SN w0 q v1 v2 w) : SN w0 q v1 v2 (w.alloc o) := SN.of (h.2.2.2.2.1.alloc_ o) (h.2.2.2.2.2.alloc (Nat.le_of_lt h.2.2.2.2.1.size) o)
theorem SN.drew_ {w0 w : World} {q : Nat} {v1 v2 : Value} (h : SN w0 q v1 v2 w) : SN w0 q v1 v2 w.drew := SN.of h.2.2.2.2.1.drew_ h.2.2.2.2.2.drew
theorem SN.grown {w0 w w' : World} {q : Nat} {v1 v2 v : Value} {n : Nat} {xs : List Value} (h : SN w0 q v1 v2 w) (hg : w.grownBy w' v.ownBlock) (ho : w.ownsRow (q + 1) 33 1 v n xs) : SN w0 q v1 v2 w' :=
  SN.of (h.2.2.2.2.1.grown_ hg ho (by decide)) (h.2.2.2.2.2.grown hg (Nat.le_of_lt h.2.2.2.2.1.size) fun k e => by have := (ho.lt k e).1; omega)
theorem rows_set {w : World} {base n q i : Nat} {e : TypeId} {v u : Value} {xs : List Value} (h : w.ownsRow base e 1 v n xs) (hq : q < base) : (w.setCell ⟨q, i, none⟩ u).ownsRow base e 1 v n xs := by
  obtain ⟨h0, h⟩ := h
  refine ⟨h0, ?_⟩
  rcases h with h | ⟨g, cap, cur, e1, hb, hh, rest⟩
  · exact .inl h
  · exact .inr ⟨g, cap, cur, e1, hb, Blk.far (t := e) (cs := cur) hh u (by show g ≠ q; omega), rest⟩
theorem nums_succ (k : Nat) : nums (k + 1) = nums k ++ [.int .u64 (k : Int)] := by simp [nums, List.range_succ]
theorem zeros_succ (k : Nat) : zeros (k + 1) = zeros k ++ [.int .u64 0] := List.replicate_succ'
theorem new_next {w0 w : World} {q k g1 g2 c1 c2 : Nat} {v1 v2 : Value} (h : SN w0 q v1 v2 w)
    (h1 : w.ownsRow (q + 1) 33 1 (.slice (some ⟨g1, 0, none⟩) (k + 1) c1) (k + 1) (nums k ++ [.int .u64 (k : Int)])) (h2 : w.ownsRow (q + 1) 33 1 (.slice (some ⟨g2, 0, none⟩) (k + 1) c2) (k + 1) (zeros k ++ [.int .u64 0])) (hne : g1 ≠ g2) :
    NewAt ((w.setCell ⟨q, 2, none⟩ (.slice (some ⟨g1, 0, none⟩) (k + 1) c1)).setCell ⟨q, 3, none⟩ (.slice (some ⟨g2, 0, none⟩) (k + 1) c2)) q (k + 1) (.slice (some ⟨g1, 0, none⟩) (k + 1) c1) (.slice (some ⟨g2, 0, none⟩) (k + 1) c2) ∧
    Below q w0 ((w.setCell ⟨q, 2, none⟩ (.slice (some ⟨g1, 0, none⟩) (k + 1) c1)).setCell ⟨q, 3, none⟩ (.slice (some ⟨g2, 0, none⟩) (k + 1) c2)) := by
  refine ⟨⟨(h.2.2.2.2.1.set_ 2 _).set_ 3 _, ?_, ?_, .inr (by simp [Value.ownBlock, hne])⟩, (h.2.2.2.2.2.setCell (p := ⟨q, 2, none⟩) (Nat.le_refl _) _).setCell (p := ⟨q, 3, none⟩) (Nat.le_refl _) _⟩
  · rw [nums_succ]; exact rows_set (rows_set h1 (by omega)) (by omega)
  · rw [zeros_succ]; exact rows_set (rows_set h2 (by omega)) (by omega)
theorem heap_new (w : World) (o : Obj) {r : Nat} (h : r = w.heap.size) : (w.alloc o).heap[r]? = some o := by subst h; exact heap_alloc_new w o
theorem heap_old (w : World) (o : Obj) {r : Nat} (h : r < w.heap.size) : (w.alloc o).heap[r]? = w.heap[r]? := by
  show (w.heap.push o)[r]? = _
  rw [Array.getElem?_push, if_neg (by omega)]
set_option maxRecDepth 20000 in
set_option maxHeartbeats 4000000 in
theorem ynew (n : Nat) (w : World) (hn : n ≤ 64) :
    Calls Try.prog 17 #[.int .i64 (n : Int)] w fun e w' => ∃ q v1 v2, e = .returned (.pointer (some ⟨q, 0, none⟩)) ∧ w.heap.size ≤ q ∧ NewAt w' q n v1 v2 ∧ Below w.heap.size w w' := by
  obtain ⟨i0, hi0, hz0, hz1, hz2⟩ := info_parts uinfo
  go_enter Try.func17, Try.ntmps17
  go_wp2
  go_loopw [4] (fun s4 wr => ∃ (k : Nat) (v1 v2 : Value), k ≤ n ∧ s4 = .int .i64 k ∧ NewAt wr w.heap.size k v1 v2 ∧ Below w.heap.size w wr) (fun s _ => n - (intOf s).toNat)
  case atStart =>
    refine ⟨0, _, _, Nat.zero_le _, rfl, ⟨Blk.made w _ _, World.ownsRow_nil _ _ _ _, World.ownsRow_nil _ _ _ _, .inl rfl⟩, (Below.refl _ w).alloc (Nat.le_refl _) _⟩
  case round =>
    obtain ⟨k, v1, v2, hk, rfl, hs, hbr⟩ := hrel
    by_cases hlt : k < n
    · have hw : IntKind.u64.wrap (k : Int) = (k : Int) := IntWalk.u64_in _ (by omega)
      have hq : w.heap.size < wr.heap.size := hs.head.size
      have hv1 : ∀ j, wr.heap.size ≤ j → some j ≠ v1.ownBlock := fun j hj e => by have := (hs.r1.lt j e.symm).2; omega
      have hv2 : ∀ j, wr.heap.size ≤ j → some j ≠ v2.ownBlock := fun j hj e => by have := (hs.r2.lt j e.symm).2; omega
      have hne : v2.ownBlock = none ∨ v2.ownBlock ≠ v1.ownBlock := by
        rcases hs.ne with e | e
        · cases c : v2.ownBlock with
          | none => exact .inl rfl
          | some j => exact .inr (by rw [e]; simp)
        · exact .inr (Ne.symm e)
      have HS := SN.of hs.head hbr
      have H := Lib.hid hs
      clear hs
      go_upto_region 5 with fail
      refine begun (SN w w.heap.size v1 v2) [18, 21] (by kernel_rfl) HS.drew_ (fun hShut hHeld => ?_)
      refine anyB_takeW (i := 0) (v := ?_) rfl (by kernel_rfl) (by kernel_rfl) (by kernel_rfl) (by kernel_rfl) (fun _ _ _ h => h) hShut (fun _ => hHeld) (Or.inl ⟨by rfl, ?_⟩) (fun hShut => ?_)
      case refine_2 => (rintro wz -; go_simp; try with_reducible rfl)
      try simp only [Act.put, List.setIfInBounds_toArray, List.set_cons_zero, List.set_cons_succ]
      refine anyB_takeW (i := 1) (v := ?_) rfl (by kernel_rfl) (by kernel_rfl) (by kernel_rfl) (by kernel_rfl) (fun _ _ _ h => h) hShut (fun _ => hHeld) (Or.inl ⟨by rfl, ?_⟩) (fun hShut => ?_)
      case refine_2 => (rintro wz -; go_simp; try with_reducible rfl)
      try simp only [Act.put, List.setIfInBounds_toArray, List.set_cons_zero, List.set_cons_succ]
      refine anyB_takeW (i := 2) (v := ?_) rfl (by kernel_rfl) (by kernel_rfl) (by kernel_rfl) (by kernel_rfl) (fun _ _ _ h => h) hShut (fun _ => hHeld) (Or.inl ⟨by rfl, ?_⟩) (fun hShut => ?_)
      case refine_2 => (rintro wz -; go_simp; try with_reducible rfl)
      try simp only [Act.put, List.setIfInBounds_toArray, List.set_cons_zero, List.set_cons_succ]
      refine anyB_takeW (i := 3) (v := ?_) rfl (by kernel_rfl) (by kernel_rfl) (by kernel_rfl) (by kernel_rfl) (fun _ _ _ h => h) hShut (fun _ => hHeld) (Or.inl ⟨by rfl, ?_⟩) (fun hShut => ?_)
      case refine_2 => (rintro wz -; go_simp; try with_reducible rfl)
      try simp only [Act.put, List.setIfInBounds_toArray, List.set_cons_zero, List.set_cons_succ]
      refine anyB_takeW (i := 4) (v := ?_) rfl (by kernel_rfl) (by kernel_rfl) (by kernel_rfl) (by kernel_rfl) (fun _ _ _ h => h) hShut (fun _ => hHeld) (Or.inl ⟨by rfl, ?_⟩) (fun hShut => ?_)
      case refine_2 => (rintro wz -; go_simp; try with_reducible rfl)
      try simp only [Act.put, List.setIfInBounds_toArray, List.set_cons_zero, List.set_cons_succ]
      refine anyB_take 9 (i := 5) (v := ?_) rfl (by kernel_rfl) (by kernel_rfl) (by kernel_rfl) (by kernel_rfl) (by kernel_rfl) (fun _ _ _ h => h) hShut hHeld (Or.inl ⟨by rfl, ?_⟩) (fun hShut => ?_)
      case refine_2 => (rintro wz ⟨sz2, sz3, sz4, sz5, sz6, sz7⟩; go_simp; try with_reducible rfl)
      try simp only [Act.put, List.setIfInBounds_toArray, List.set_cons_zero, List.set_cons_succ]
      refine anyB_takeW (i := 6) (v := ?_) rfl (by kernel_rfl) (by kernel_rfl) (by kernel_rfl) (by kernel_rfl) (fun _ _ _ h => h) hShut (fun _ => hHeld) (Or.inl ⟨by rfl, ?_⟩) (fun hShut => ?_)
      case refine_2 => (rintro wz -; go_simp; try with_reducible rfl)
      try simp only [Act.put, List.setIfInBounds_toArray, List.set_cons_zero, List.set_cons_succ]
      refine anyB_takeW (i := 7) (v := ?_) rfl (by kernel_rfl) (by kernel_rfl) (by kernel_rfl) (by kernel_rfl) (fun _ _ _ h => h) hShut (fun _ => hHeld) (Or.inl ⟨by rfl, ?_⟩) (fun hShut => ?_)
      case refine_2 => (rintro wz -; go_simp; try with_reducible rfl)
      try simp only [Act.put, List.setIfInBounds_toArray, List.set_cons_zero, List.set_cons_succ]
      refine anyB_takeW (i := 10) (v := ?_) rfl (by kernel_rfl) (by kernel_rfl) (by kernel_rfl) (by kernel_rfl) (fun _ _ _ h => h) hShut (fun _ => hHeld) (Or.inl ⟨by rfl, ?_⟩) (fun hShut => ?_)
      case refine_2 => (rintro wz -; go_simp; try with_reducible rfl)
      try simp only [Act.put, List.setIfInBounds_toArray, List.set_cons_zero, List.set_cons_succ]
      refine anyB_takeW (i := 11) (v := ?_) rfl (by kernel_rfl) (by kernel_rfl) (by kernel_rfl) (by kernel_rfl) (fun _ _ _ h => h) hShut (fun _ => hHeld) (Or.inl ⟨by rfl, ?_⟩) (fun hShut => ?_)
      case refine_2 => (rintro wz -; go_simp; try with_reducible rfl)
      try simp only [Act.put, List.setIfInBounds_toArray, List.set_cons_zero, List.set_cons_succ]
      refine anyB_takeW (i := 12) (v := ?_) rfl (by kernel_rfl) (by kernel_rfl) (by kernel_rfl) (by kernel_rfl) (fun _ _ _ h => h) hShut (fun _ => hHeld) (Or.inl ⟨by rfl, ?_⟩) (fun hShut => ?_)
      case refine_2 => (rintro wz -; go_simp; try with_reducible rfl)
      try simp only [Act.put, List.setIfInBounds_toArray, List.set_cons_zero, List.set_cons_succ]
      refine anyB_take 9 (i := 13) (v := ?_) rfl (by kernel_rfl) (by kernel_rfl) (by kernel_rfl) (by kernel_rfl) (by kernel_rfl) (fun _ _ _ h => h) hShut hHeld (Or.inl ⟨by rfl, ?_⟩) (fun hShut => ?_)
      case refine_2 => (rintro wz ⟨sz2, sz3, sz4, sz5, sz6, sz7⟩; go_simp; try with_reducible rfl)
      try simp only [Act.put, List.setIfInBounds_toArray, List.set_cons_zero, List.set_cons_succ]
      refine anyB_each (rs := [8, 14]) hShut (by kernel_rfl) (by simp) ?_
      refine List.forall_mem_cons.2 ⟨fun hShut => wpOp_step (o := { dst := some 20, op := .buildSlice 29 1 #[(0, .tmp 19)], type := 29, pos := "ref.go:39", after := #[{ on := 7, ground := .data }], guard := none }) rfl (fun K hK => ?_), ?_⟩
      · -- the number first
        go_simp
        refine held hK hHeld.alloc_ (fun hHeld => ?_)
        clear hK K
        refine anyB_each (rs := [9, 14]) hShut (by kernel_rfl) (by simp) ?_
        refine List.forall_mem_cons.2 ⟨fun hShut => wpOp_step (o := { dst := some 21, op := .call { callee := .builtin .append, args := #[.tmp 17, .tmp 20], argTypes := #[29, 29] }, type := 29, pos := "ref.go:39", after := #[{ on := 5, ground := .data }, { on := 8, ground := .data }], guard := none }) rfl (fun K hK => ?_), ?_⟩
        ·
          refine step_append_lies _ (by rfl) _ _ _ (by rfl) (w.heap.size + 1) 33 i0 _ 1 8 Try.underlying29 hi0 hz0 hz1 hz2 rfl (by omega) v1 k (nums k) (by rfl) ((H.out.r1.drew).alloc _) ⟨wr.heap.size, 0, none⟩ 1 1 [.int .u64 (k : Int)] rfl rfl (World.news_of_block (cs := #[.int .u64 (k : Int)]) (t := 33) (fr := (0, 0)) (heap_new _ _ (by simp))) (by simp [Value.oneCell']) (by omega) (by unfold maxLen; omega) (by omega) (by simp <;> omega) _ rfl ?_
          intro g1 cap1 wa hown1 hgrow1 hat1 hlt1
          have ho2 := World.ownsRow.kept ((H.out.r2.drew).alloc _) hgrow1 hne
          refine held hK (hHeld.grown hgrow1 ((H.out.r1.drew).alloc _)) (fun hHeld => ?_)
          clear hK K
          try simp only [Act.put, List.setIfInBounds_toArray, List.set_cons_zero, List.set_cons_succ]
          refine anyB_each (rs := [14]) hShut (by kernel_rfl) (by simp) ?_
          refine List.forall_mem_cons.2 ⟨fun hShut => wpOp_step (o := { dst := some 26, op := .buildSlice 29 1 #[(0, .const (.int .u64 0))], type := 29, pos := "ref.go:39", after := #[], guard := none }) rfl (fun K hK => ?_), ?_⟩
          ·
            go_simp
            refine held hK hHeld.alloc_ (fun hHeld => ?_)
            clear hK K
            refine anyB_each (rs := [15]) hShut (by kernel_rfl) (by simp) ?_
            refine List.forall_mem_cons.2 ⟨fun hShut => wpOp_step (o := { dst := some 27, op := .call { callee := .builtin .append, args := #[.tmp 25, .tmp 26], argTypes := #[29, 29] }, type := 29, pos := "ref.go:39", after := #[{ on := 13, ground := .data }, { on := 14, ground := .data }, { on := 9, ground := .chain }], guard := none }) rfl (fun K hK => ?_), ?_⟩
            ·
              refine step_append_lies _ (by rfl) _ _ _ (by rfl) (w.heap.size + 1) 33 i0 _ 1 8 Try.underlying29 hi0 hz0 hz1 hz2 rfl (by omega) v2 k (zeros k) (by rfl) (ho2.alloc _) ⟨wa.heap.size, 0, none⟩ 1 1 [.int .u64 0] rfl rfl (World.news_of_block (cs := #[.int .u64 0]) (t := 33) (fr := (0, 0)) (heap_new _ _ (by simp))) (by simp [Value.oneCell']) (by omega) (by unfold maxLen; omega) (by omega) (by have := hgrow1.size; simp at this ⊢; omega) _ rfl ?_
              intro g2 cap2 wb hown2 hgrow2 hat2 hlt2
              refine held hK (hHeld.grown hgrow2 (ho2.alloc _)) (fun hHeld => ?_)
              clear hK K
              try simp only [Act.put, List.setIfInBounds_toArray, List.set_cons_zero, List.set_cons_succ]
              refine anyB_takeW (i := 16) (v := ?_) rfl (by kernel_rfl) (by kernel_rfl) (by kernel_rfl) (by kernel_rfl) (fun _ _ _ h => h) hShut (fun _ => hHeld) (Or.inl ⟨by rfl, ?_⟩) (fun hShut => ?_)
              case refine_2 => (rintro wz -; go_simp; try with_reducible rfl)
              try simp only [Act.put, List.setIfInBounds_toArray, List.set_cons_zero, List.set_cons_succ]
              refine anyB_takeW (i := 17) (v := ?_) rfl (by kernel_rfl) (by kernel_rfl) (by kernel_rfl) (by kernel_rfl) (fun _ _ _ h => h) hShut (fun _ => hHeld) (Or.inl ⟨by rfl, ?_⟩) (fun hShut => ?_)
              case refine_2 => (rintro wz -; go_simp; try with_reducible rfl)
              try simp only [Act.put, List.setIfInBounds_toArray, List.set_cons_zero, List.set_cons_succ]
              have HL := hHeld
              obtain ⟨sw2, sw3, sw4, sw5, sw6, sw7⟩ := hHeld
              refine anyB_each (rs := [18]) hShut (by kernel_rfl) (by simp) ?_
              refine List.forall_mem_cons.2 ⟨fun hShut => wpOp_step rfl (fun K hK => ?_), ?_⟩
              ·
                go_simp
                refine unheld hK (by kernel_rfl) ?_
                clear hK K
                refine anyB_takeW (i := 19) (v := ?_) rfl (by kernel_rfl) (by kernel_rfl) (by kernel_rfl) (by kernel_rfl) (fun _ _ _ h => h) hShut (noS (by kernel_rfl)) (Or.inl ⟨by rfl, ?_⟩) (fun hShut => ?_)
                case refine_2 => (rintro wz -; go_simp; try with_reducible rfl)
                try simp only [Act.put, List.setIfInBounds_toArray, List.set_cons_zero, List.set_cons_succ]
                refine anyB_takeW (i := 20) (v := ?_) rfl (by kernel_rfl) (by kernel_rfl) (by kernel_rfl) (by kernel_rfl) (fun _ _ _ h => h) hShut (noS (by kernel_rfl)) (Or.inl ⟨by rfl, ?_⟩) (fun hShut => ?_)
                case refine_2 => (rintro wz -; go_simp; try with_reducible rfl)
                try simp only [Act.put, List.setIfInBounds_toArray, List.set_cons_zero, List.set_cons_succ]
                refine anyB_each (rs := [21]) hShut (by kernel_rfl) (by simp) ?_
                refine List.forall_mem_cons.2 ⟨fun hShut => wpOp_step rfl (fun K hK => ?_), ?_⟩
                ·
                  go_simp
                  refine unheld hK (by kernel_rfl) ?_
                  clear hK K
                  refine anyB_done (by kernel_rfl) ?_ _
                  have h12 : some g1 ≠ v2.ownBlock := by
                    rcases hat1 with e | e
                    · rw [← e]; rcases hne with c | c
                      · rw [c, e]; simp
                      · exact Ne.symm c
                    · exact hv2 g1 (by rw [e]; simp <;> omega)
                  have hgg : g1 ≠ g2 := by
                    rcases hat2 with e | e
                    · rw [e] at h12; exact fun c => h12 (by rw [c])
                    · have := hlt1; try simp at e
                      omega
                  have N := new_next HL (World.ownsRow.kept (hown1.alloc _) hgrow2 (.inr h12)) hown2 hgg
                  go_wp2
                  go_roundw
                  case rel => exact ⟨k + 1, _, _, by omega, by go_num, N.1, N.2⟩
                  case measure => simp [intOf]; omega
                ·
                  exact fun _ h => by cases h
              ·
                exact fun _ h => by cases h
            ·
              exact fun _ h => by cases h
          ·
            exact fun _ h => by cases h
        ·
          refine List.forall_mem_cons.2 ⟨fun hShut => wpOp_step (o := { dst := some 26, op := .buildSlice 29 1 #[(0, .const (.int .u64 0))], type := 29, pos := "ref.go:39", after := #[], guard := none }) rfl (fun K hK => ?_), ?_⟩
          ·
            go_simp
            refine held hK hHeld.alloc_ (fun hHeld => ?_)
            clear hK K
            refine anyB_each (rs := [9]) hShut (by kernel_rfl) (by simp) ?_
            refine List.forall_mem_cons.2 ⟨fun hShut => wpOp_step (o := { dst := some 21, op := .call { callee := .builtin .append, args := #[.tmp 17, .tmp 20], argTypes := #[29, 29] }, type := 29, pos := "ref.go:39", after := #[{ on := 5, ground := .data }, { on := 8, ground := .data }], guard := none }) rfl (fun K hK => ?_), ?_⟩
            ·
              refine step_append_lies _ (by rfl) _ _ _ (by rfl) (w.heap.size + 1) 33 i0 _ 1 8 Try.underlying29 hi0 hz0 hz1 hz2 rfl (by omega) v1 k (nums k) (by rfl) (((H.out.r1.drew).alloc _).alloc _) ⟨wr.heap.size, 0, none⟩ 1 1 [.int .u64 (k : Int)] rfl rfl (World.news_of_block (cs := #[.int .u64 (k : Int)]) (t := 33) (fr := (0, 0)) ((heap_old _ _ (by simp)).trans (heap_new _ _ (by simp)))) (by simp [Value.oneCell']) (by omega) (by unfold maxLen; omega) (by omega) (by simp <;> omega) _ rfl ?_
              intro g1 cap1 wa hown1 hgrow1 hat1 hlt1
              have ho2 := World.ownsRow.kept (((H.out.r2.drew).alloc _).alloc _) hgrow1 hne
              refine held hK (hHeld.grown hgrow1 (((H.out.r1.drew).alloc _).alloc _)) (fun hHeld => ?_)
              clear hK K
              try simp only [Act.put, List.setIfInBounds_toArray, List.set_cons_zero, List.set_cons_succ]
              refine anyB_each (rs := [15]) hShut (by kernel_rfl) (by simp) ?_
              refine List.forall_mem_cons.2 ⟨fun hShut => wpOp_step (o := { dst := some 27, op := .call { callee := .builtin .append, args := #[.tmp 25, .tmp 26], argTypes := #[29, 29] }, type := 29, pos := "ref.go:39", after := #[{ on := 13, ground := .data }, { on := 14, ground := .data }, { on := 9, ground := .chain }], guard := none }) rfl (fun K hK => ?_), ?_⟩
              ·
                refine step_append_lies _ (by rfl) _ _ _ (by rfl) (w.heap.size + 1) 33 i0 _ 1 8 Try.underlying29 hi0 hz0 hz1 hz2 rfl (by omega) v2 k (zeros k) (by rfl) ho2 ⟨wr.heap.size + 1, 0, none⟩ 1 1 [.int .u64 0] rfl rfl (World.news_of_block (cs := #[.int .u64 0]) (t := 33) (fr := (0, 0)) ((hgrow1.block _ (by first | (simp; done) | (simp; omega)) (hv1 _ (by simp))).trans (heap_new _ _ (by simp)))) (by simp [Value.oneCell']) (by omega) (by unfold maxLen; omega) (by omega) (by have := hgrow1.size; simp at this ⊢; omega) _ rfl ?_
                intro g2 cap2 wb hown2 hgrow2 hat2 hlt2
                refine held hK (hHeld.grown hgrow2 ho2) (fun hHeld => ?_)
                clear hK K
                try simp only [Act.put, List.setIfInBounds_toArray, List.set_cons_zero, List.set_cons_succ]
                refine anyB_takeW (i := 16) (v := ?_) rfl (by kernel_rfl) (by kernel_rfl) (by kernel_rfl) (by kernel_rfl) (fun _ _ _ h => h) hShut (fun _ => hHeld) (Or.inl ⟨by rfl, ?_⟩) (fun hShut => ?_)
                case refine_2 => (rintro wz -; go_simp; try with_reducible rfl)
                try simp only [Act.put, List.setIfInBounds_toArray, List.set_cons_zero, List.set_cons_succ]
                refine anyB_takeW (i := 17) (v := ?_) rfl (by kernel_rfl) (by kernel_rfl) (by kernel_rfl) (by kernel_rfl) (fun _ _ _ h => h) hShut (fun _ => hHeld) (Or.inl ⟨by rfl, ?_⟩) (fun hShut => ?_)
                case refine_2 => (rintro wz -; go_simp; try with_reducible rfl)
                try simp only [Act.put, List.setIfInBounds_toArray, List.set_cons_zero, List.set_cons_succ]
                have HL := hHeld
                obtain ⟨sw2, sw3, sw4, sw5, sw6, sw7⟩ := hHeld
                refine anyB_each (rs := [18]) hShut (by kernel_rfl) (by simp) ?_
                refine List.forall_mem_cons.2 ⟨fun hShut => wpOp_step rfl (fun K hK => ?_), ?_⟩
                ·
                  go_simp
                  refine unheld hK (by kernel_rfl) ?_
                  clear hK K
                  refine anyB_takeW (i := 19) (v := ?_) rfl (by kernel_rfl) (by kernel_rfl) (by kernel_rfl) (by kernel_rfl) (fun _ _ _ h => h) hShut (noS (by kernel_rfl)) (Or.inl ⟨by rfl, ?_⟩) (fun hShut => ?_)
                  case refine_2 => (rintro wz -; go_simp; try with_reducible rfl)
                  try simp only [Act.put, List.setIfInBounds_toArray, List.set_cons_zero, List.set_cons_succ]
                  refine anyB_takeW (i := 20) (v := ?_) rfl (by kernel_rfl) (by kernel_rfl) (by kernel_rfl) (by kernel_rfl) (fun _ _ _ h => h) hShut (noS (by kernel_rfl)) (Or.inl ⟨by rfl, ?_⟩) (fun hShut => ?_)
                  case refine_2 => (rintro wz -; go_simp; try with_reducible rfl)
                  try simp only [Act.put, List.setIfInBounds_toArray, List.set_cons_zero, List.set_cons_succ]
                  refine anyB_each (rs := [21]) hShut (by kernel_rfl) (by simp) ?_
                  refine List.forall_mem_cons.2 ⟨fun hShut => wpOp_step rfl (fun K hK => ?_), ?_⟩
                  ·
                    go_simp
                    refine unheld hK (by kernel_rfl) ?_
                    clear hK K
                    refine anyB_done (by kernel_rfl) ?_ _
                    have h12 : some g1 ≠ v2.ownBlock := by
                      rcases hat1 with e | e
                      · rw [← e]; rcases hne with c | c
                        · rw [c, e]; simp
                        · exact Ne.symm c
                      · exact hv2 g1 (by rw [e]; simp <;> omega)
                    have hgg : g1 ≠ g2 := by
                      rcases hat2 with e | e
                      · rw [e] at h12; exact fun c => h12 (by rw [c])
                      · have := hlt1; try simp at e
                        omega
                    have N := new_next HL (World.ownsRow.kept hown1 hgrow2 (.inr h12)) hown2 hgg
                    go_wp2
                    go_roundw
                    case rel => exact ⟨k + 1, _, _, by omega, by go_num, N.1, N.2⟩
                    case measure => simp [intOf]; omega
                  ·
                    exact fun _ h => by cases h
                ·
                  exact fun _ h => by cases h
              ·
                exact fun _ h => by cases h
            ·
              exact fun _ h => by cases h
          ·
            exact fun _ h => by cases h
      refine List.forall_mem_cons.2 ⟨fun hShut => wpOp_step (o := { dst := some 26, op := .buildSlice 29 1 #[(0, .const (.int .u64 0))], type := 29, pos := "ref.go:39", after := #[], guard := none }) rfl (fun K hK => ?_), ?_⟩
      · -- the value first
        go_simp
        refine held hK hHeld.alloc_ (fun hHeld => ?_)
        clear hK K
        refine anyB_each (rs := [8]) hShut (by kernel_rfl) (by simp) ?_
        refine List.forall_mem_cons.2 ⟨fun hShut => wpOp_step (o := { dst := some 20, op := .buildSlice 29 1 #[(0, .tmp 19)], type := 29, pos := "ref.go:39", after := #[{ on := 7, ground := .data }], guard := none }) rfl (fun K hK => ?_), ?_⟩
        ·
          go_simp
          refine held hK hHeld.alloc_ (fun hHeld => ?_)
          clear hK K
          refine anyB_each (rs := [9]) hShut (by kernel_rfl) (by simp) ?_
          refine List.forall_mem_cons.2 ⟨fun hShut => wpOp_step (o := { dst := some 21, op := .call { callee := .builtin .append, args := #[.tmp 17, .tmp 20], argTypes := #[29, 29] }, type := 29, pos := "ref.go:39", after := #[{ on := 5, ground := .data }, { on := 8, ground := .data }], guard := none }) rfl (fun K hK => ?_), ?_⟩
          ·
            refine step_append_lies _ (by rfl) _ _ _ (by rfl) (w.heap.size + 1) 33 i0 _ 1 8 Try.underlying29 hi0 hz0 hz1 hz2 rfl (by omega) v1 k (nums k) (by rfl) (((H.out.r1.drew).alloc _).alloc _) ⟨wr.heap.size + 1, 0, none⟩ 1 1 [.int .u64 (k : Int)] rfl rfl (World.news_of_block (cs := #[.int .u64 (k : Int)]) (t := 33) (fr := (0, 0)) (heap_new _ _ (by simp))) (by simp [Value.oneCell']) (by omega) (by unfold maxLen; omega) (by omega) (by simp <;> omega) _ rfl ?_
            intro g1 cap1 wa hown1 hgrow1 hat1 hlt1
            have ho2 := World.ownsRow.kept (((H.out.r2.drew).alloc _).alloc _) hgrow1 hne
            refine held hK (hHeld.grown hgrow1 (((H.out.r1.drew).alloc _).alloc _)) (fun hHeld => ?_)
            clear hK K
            try simp only [Act.put, List.setIfInBounds_toArray, List.set_cons_zero, List.set_cons_succ]
            refine anyB_each (rs := [15]) hShut (by kernel_rfl) (by simp) ?_
            refine List.forall_mem_cons.2 ⟨fun hShut => wpOp_step (o := { dst := some 27, op := .call { callee := .builtin .append, args := #[.tmp 25, .tmp 26], argTypes := #[29, 29] }, type := 29, pos := "ref.go:39", after := #[{ on := 13, ground := .data }, { on := 14, ground := .data }, { on := 9, ground := .chain }], guard := none }) rfl (fun K hK => ?_), ?_⟩
            ·
              refine step_append_lies _ (by rfl) _ _ _ (by rfl) (w.heap.size + 1) 33 i0 _ 1 8 Try.underlying29 hi0 hz0 hz1 hz2 rfl (by omega) v2 k (zeros k) (by rfl) ho2 ⟨wr.heap.size, 0, none⟩ 1 1 [.int .u64 0] rfl rfl (World.news_of_block (cs := #[.int .u64 0]) (t := 33) (fr := (0, 0)) ((hgrow1.block _ (by first | (simp; done) | (simp; omega)) (hv1 _ (by simp))).trans ((heap_old _ _ (by simp)).trans (heap_new _ _ (by simp))))) (by simp [Value.oneCell']) (by omega) (by unfold maxLen; omega) (by omega) (by have := hgrow1.size; simp at this ⊢; omega) _ rfl ?_
              intro g2 cap2 wb hown2 hgrow2 hat2 hlt2
              refine held hK (hHeld.grown hgrow2 ho2) (fun hHeld => ?_)
              clear hK K
              try simp only [Act.put, List.setIfInBounds_toArray, List.set_cons_zero, List.set_cons_succ]
              refine anyB_takeW (i := 16) (v := ?_) rfl (by kernel_rfl) (by kernel_rfl) (by kernel_rfl) (by kernel_rfl) (fun _ _ _ h => h) hShut (fun _ => hHeld) (Or.inl ⟨by rfl, ?_⟩) (fun hShut => ?_)
              case refine_2 => (rintro wz -; go_simp; try with_reducible rfl)
              try simp only [Act.put, List.setIfInBounds_toArray, List.set_cons_zero, List.set_cons_succ]
              refine anyB_takeW (i := 17) (v := ?_) rfl (by kernel_rfl) (by kernel_rfl) (by kernel_rfl) (by kernel_rfl) (fun _ _ _ h => h) hShut (fun _ => hHeld) (Or.inl ⟨by rfl, ?_⟩) (fun hShut => ?_)
              case refine_2 => (rintro wz -; go_simp; try with_reducible rfl)
              try simp only [Act.put, List.setIfInBounds_toArray, List.set_cons_zero, List.set_cons_succ]
              have HL := hHeld
              obtain ⟨sw2, sw3, sw4, sw5, sw6, sw7⟩ := hHeld
              refine anyB_each (rs := [18]) hShut (by kernel_rfl) (by simp) ?_
              refine List.forall_mem_cons.2 ⟨fun hShut => wpOp_step rfl (fun K hK => ?_), ?_⟩
              ·
                go_simp
                refine unheld hK (by kernel_rfl) ?_
                clear hK K
                refine anyB_takeW (i := 19) (v := ?_) rfl (by kernel_rfl) (by kernel_rfl) (by kernel_rfl) (by kernel_rfl) (fun _ _ _ h => h) hShut (noS (by kernel_rfl)) (Or.inl ⟨by rfl, ?_⟩) (fun hShut => ?_)
                case refine_2 => (rintro wz -; go_simp; try with_reducible rfl)
                try simp only [Act.put, List.setIfInBounds_toArray, List.set_cons_zero, List.set_cons_succ]
                refine anyB_takeW (i := 20) (v := ?_) rfl (by kernel_rfl) (by kernel_rfl) (by kernel_rfl) (by kernel_rfl) (fun _ _ _ h => h) hShut (noS (by kernel_rfl)) (Or.inl ⟨by rfl, ?_⟩) (fun hShut => ?_)
                case refine_2 => (rintro wz -; go_simp; try with_reducible rfl)
                try simp only [Act.put, List.setIfInBounds_toArray, List.set_cons_zero, List.set_cons_succ]
                refine anyB_each (rs := [21]) hShut (by kernel_rfl) (by simp) ?_
                refine List.forall_mem_cons.2 ⟨fun hShut => wpOp_step rfl (fun K hK => ?_), ?_⟩
                ·
                  go_simp
                  refine unheld hK (by kernel_rfl) ?_
                  clear hK K
                  refine anyB_done (by kernel_rfl) ?_ _
                  have h12 : some g1 ≠ v2.ownBlock := by
                    rcases hat1 with e | e
                    · rw [← e]; rcases hne with c | c
                      · rw [c, e]; simp
                      · exact Ne.symm c
                    · exact hv2 g1 (by rw [e]; simp <;> omega)
                  have hgg : g1 ≠ g2 := by
                    rcases hat2 with e | e
                    · rw [e] at h12; exact fun c => h12 (by rw [c])
                    · have := hlt1; try simp at e
                      omega
                  have N := new_next HL (World.ownsRow.kept hown1 hgrow2 (.inr h12)) hown2 hgg
                  go_wp2
                  go_roundw
                  case rel => exact ⟨k + 1, _, _, by omega, by go_num, N.1, N.2⟩
                  case measure => simp [intOf]; omega
                ·
                  exact fun _ h => by cases h
              ·
                exact fun _ h => by cases h
            ·
              exact fun _ h => by cases h
          ·
            exact fun _ h => by cases h
        ·
          exact fun _ h => by cases h
      ·
        exact fun _ h => by cases h
    · obtain rfl : k = n := by omega
      go_wp2
      go_ret
      exact ⟨_, _, _, rfl, Nat.le_refl _, hs, hbr⟩
end Go.Proofs.Ytbenpnecjmpcbaa
