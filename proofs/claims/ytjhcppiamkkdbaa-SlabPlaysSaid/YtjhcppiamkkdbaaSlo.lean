/- The document's slab: a new one: the walk. -/
import Derived.Test.YtjhcppiamkkdbaaSln
import Derived.Lib.Hide
import Derived.Deep.RegionWith
import Derived.Deep.DeepCutAuto
import Derived.Deep.CutBlock
import Derived.BigQuiet
namespace Go.Proofs.Ytjhcppiamkkdbaa
open Go.RowKit
set_option linter.unusedVariables false
set_option linter.unusedSimpArgs false
set_option maxRecDepth 100000 in
set_option maxHeartbeats 16000000 in
theorem snew (n : Nat) (w : World) (hn : n ≤ 1024) :
    Calls Try.prog 6 #[.int .i64 (n : Int)] w fun e w' => ∃ q v1 v2 v3 v4, e = .returned (.pointer (some ⟨q, 0, none⟩)) ∧ w.heap.size ≤ q ∧ NewS w' q n v1 v2 v3 v4 ∧ Below w.heap.size w w' := by
  go_enter Try.func6, Try.ntmps6
  go_wp2
  go_loopw [4] (fun s4 wr => ∃ (k : Nat) (v1 v2 v3 v4 : Value), k ≤ n ∧ s4 = .int .i64 k ∧ NewS wr w.heap.size k v1 v2 v3 v4 ∧ Below w.heap.size w wr) (fun s _ => n - (intOf s).toNat)
  case atStart =>
    refine ⟨0, _, _, _, _, Nat.zero_le _, rfl, ⟨Blk.made w _ _, World.ownsRow_nil _ _ _ _, World.ownsRow_nil _ _ _ _, World.ownsRow_nil _ _ _ _, World.ownsRow_nil _ _ _ _⟩, (Below.refl _ w).alloc (Nat.le_refl _) _⟩
  case round =>
    obtain ⟨k, v1, v2, v3, v4, hk, rfl, hs, hbr⟩ := hrel
    have hq : w.heap.size < wr.heap.size := hs.head.size
    by_cases hlt : k < n
    · have HS : SlN w w.heap.size v1 v2 v3 v4 wr.drew := ⟨hs.head.drew_, hbr.drew⟩
      have H := Lib.hid hs
      have KW := Lib.hid (show IntKind.i64.wrap ((k : Int) + 1) = (k : Int) + 1 from IntWalk.i64_in _ (by omega))
      clear hs hbr
      go_upto_region 5 with fail
      refine begun (SlN w w.heap.size v1 v2 v3 v4) [32, 35, 38, 41] (by kernel_rfl) HS (fun hShut hHeld => ?_)
      refine anyB_takeW (i := 0) (v := ?_) rfl (by kernel_rfl) (by kernel_rfl) (by kernel_rfl) (by kernel_rfl) (fun _ _ _ h => h) hShut (fun _ => hHeld) (Or.inl ⟨by rfl, ?_⟩) (fun hShut => ?_)
      case refine_2 => (rintro wz -; go_simp; try with_reducible rfl)
      try simp only [Act.put, List.getElem_toArray, List.getElem_cons_zero, List.getElem_cons_succ, List.setIfInBounds_toArray, List.set_cons_zero, List.set_cons_succ]
      refine anyB_takeW (i := 1) (v := ?_) rfl (by kernel_rfl) (by kernel_rfl) (by kernel_rfl) (by kernel_rfl) (fun _ _ _ h => h) hShut (fun _ => hHeld) (Or.inl ⟨by rfl, ?_⟩) (fun hShut => ?_)
      case refine_2 => (rintro wz -; go_simp; try with_reducible rfl)
      try simp only [Act.put, List.getElem_toArray, List.getElem_cons_zero, List.getElem_cons_succ, List.setIfInBounds_toArray, List.set_cons_zero, List.set_cons_succ]
      refine anyB_takeW (i := 2) (v := ?_) rfl (by kernel_rfl) (by kernel_rfl) (by kernel_rfl) (by kernel_rfl) (fun _ _ _ h => h) hShut (fun _ => hHeld) (Or.inl ⟨by rfl, ?_⟩) (fun hShut => ?_)
      case refine_2 => (rintro wz -; go_simp; try with_reducible rfl)
      try simp only [Act.put, List.getElem_toArray, List.getElem_cons_zero, List.getElem_cons_succ, List.setIfInBounds_toArray, List.set_cons_zero, List.set_cons_succ]
      refine anyB_takeW (i := 3) (v := ?_) rfl (by kernel_rfl) (by kernel_rfl) (by kernel_rfl) (by kernel_rfl) (fun _ _ _ h => h) hShut (fun _ => hHeld) (Or.inl ⟨by rfl, ?_⟩) (fun hShut => ?_)
      case refine_2 => (rintro wz -; go_simp; try with_reducible rfl)
      try simp only [Act.put, List.getElem_toArray, List.getElem_cons_zero, List.getElem_cons_succ, List.setIfInBounds_toArray, List.set_cons_zero, List.set_cons_succ]
      refine anyB_takeW (i := 4) (v := ?_) rfl (by kernel_rfl) (by kernel_rfl) (by kernel_rfl) (by kernel_rfl) (fun _ _ _ h => h) hShut (fun _ => hHeld) (Or.inl ⟨by rfl, ?_⟩) (fun hShut => ?_)
      case refine_2 => (rintro wz -; go_simp; try with_reducible rfl)
      try simp only [Act.put, List.getElem_toArray, List.getElem_cons_zero, List.getElem_cons_succ, List.setIfInBounds_toArray, List.set_cons_zero, List.set_cons_succ]
      refine anyB_takeW (i := 5) (v := ?_) rfl (by kernel_rfl) (by kernel_rfl) (by kernel_rfl) (by kernel_rfl) (fun _ _ _ h => h) hShut (fun _ => hHeld) (Or.inl ⟨by rfl, ?_⟩) (fun hShut => ?_)
      case refine_2 => (rintro wz -; go_simp; try with_reducible rfl)
      try simp only [Act.put, List.getElem_toArray, List.getElem_cons_zero, List.getElem_cons_succ, List.setIfInBounds_toArray, List.set_cons_zero, List.set_cons_succ]
      refine anyB_takeW (i := 6) (v := ?_) rfl (by kernel_rfl) (by kernel_rfl) (by kernel_rfl) (by kernel_rfl) (fun _ _ _ h => h) hShut (fun _ => hHeld) (Or.inl ⟨by rfl, ?_⟩) (fun hShut => ?_)
      case refine_2 => (rintro wz -; go_simp; try with_reducible rfl)
      try simp only [Act.put, List.getElem_toArray, List.getElem_cons_zero, List.getElem_cons_succ, List.setIfInBounds_toArray, List.set_cons_zero, List.set_cons_succ]
      refine anyB_take 42 (i := 7) (v := ?_) rfl (by kernel_rfl) (by kernel_rfl) (by kernel_rfl) (by kernel_rfl) (by kernel_rfl) (fun _ _ _ h => h) hShut hHeld (Or.inl ⟨by rfl, ?_⟩) (fun hShut => ?_)
      case refine_2 => (rintro wz ⟨sh, sb⟩; have c0 := sh.val (i := 0) rfl; have c1 := sh.val (i := 1) rfl; have c2 := sh.val (i := 2) rfl; have c3 := sh.val (i := 3) rfl; go_simp; try with_reducible rfl)
      try simp only [Act.put, List.getElem_toArray, List.getElem_cons_zero, List.getElem_cons_succ, List.setIfInBounds_toArray, List.set_cons_zero, List.set_cons_succ]
      refine anyB_takeW (i := 8) (v := ?_) rfl (by kernel_rfl) (by kernel_rfl) (by kernel_rfl) (by kernel_rfl) (fun _ _ _ h => h) hShut (fun _ => hHeld) (Or.inl ⟨by rfl, ?_⟩) (fun hShut => ?_)
      case refine_2 => (rintro wz -; go_simp; try with_reducible rfl)
      try simp only [Act.put, List.getElem_toArray, List.getElem_cons_zero, List.getElem_cons_succ, List.setIfInBounds_toArray, List.set_cons_zero, List.set_cons_succ]
      refine anyB_takeW (i := 11) (v := ?_) rfl (by kernel_rfl) (by kernel_rfl) (by kernel_rfl) (by kernel_rfl) (fun _ _ _ h => h) hShut (fun _ => hHeld) (Or.inl ⟨by rfl, ?_⟩) (fun hShut => ?_)
      case refine_2 => (rintro wz -; go_simp; try with_reducible rfl)
      try simp only [Act.put, List.getElem_toArray, List.getElem_cons_zero, List.getElem_cons_succ, List.setIfInBounds_toArray, List.set_cons_zero, List.set_cons_succ]
      refine anyB_takeW (i := 12) (v := ?_) rfl (by kernel_rfl) (by kernel_rfl) (by kernel_rfl) (by kernel_rfl) (fun _ _ _ h => h) hShut (fun _ => hHeld) (Or.inl ⟨by rfl, ?_⟩) (fun hShut => ?_)
      case refine_2 => (rintro wz -; go_simp; try with_reducible rfl)
      try simp only [Act.put, List.getElem_toArray, List.getElem_cons_zero, List.getElem_cons_succ, List.setIfInBounds_toArray, List.set_cons_zero, List.set_cons_succ]
      refine anyB_takeW (i := 13) (v := ?_) rfl (by kernel_rfl) (by kernel_rfl) (by kernel_rfl) (by kernel_rfl) (fun _ _ _ h => h) hShut (fun _ => hHeld) (Or.inl ⟨by rfl, ?_⟩) (fun hShut => ?_)
      case refine_2 => (rintro wz -; go_simp; try with_reducible rfl)
      try simp only [Act.put, List.getElem_toArray, List.getElem_cons_zero, List.getElem_cons_succ, List.setIfInBounds_toArray, List.set_cons_zero, List.set_cons_succ]
      refine anyB_take 42 (i := 14) (v := ?_) rfl (by kernel_rfl) (by kernel_rfl) (by kernel_rfl) (by kernel_rfl) (by kernel_rfl) (fun _ _ _ h => h) hShut hHeld (Or.inl ⟨by rfl, ?_⟩) (fun hShut => ?_)
      case refine_2 => (rintro wz ⟨sh, sb⟩; have c0 := sh.val (i := 0) rfl; have c1 := sh.val (i := 1) rfl; have c2 := sh.val (i := 2) rfl; have c3 := sh.val (i := 3) rfl; go_simp; try with_reducible rfl)
      try simp only [Act.put, List.getElem_toArray, List.getElem_cons_zero, List.getElem_cons_succ, List.setIfInBounds_toArray, List.set_cons_zero, List.set_cons_succ]
      refine anyB_takeW (i := 17) (v := ?_) rfl (by kernel_rfl) (by kernel_rfl) (by kernel_rfl) (by kernel_rfl) (fun _ _ _ h => h) hShut (fun _ => hHeld) (Or.inl ⟨by rfl, ?_⟩) (fun hShut => ?_)
      case refine_2 => (rintro wz -; go_simp; try with_reducible rfl)
      try simp only [Act.put, List.getElem_toArray, List.getElem_cons_zero, List.getElem_cons_succ, List.setIfInBounds_toArray, List.set_cons_zero, List.set_cons_succ]
      refine anyB_takeW (i := 18) (v := ?_) rfl (by kernel_rfl) (by kernel_rfl) (by kernel_rfl) (by kernel_rfl) (fun _ _ _ h => h) hShut (fun _ => hHeld) (Or.inl ⟨by rfl, ?_⟩) (fun hShut => ?_)
      case refine_2 => (rintro wz -; go_simp; try with_reducible rfl)
      try simp only [Act.put, List.getElem_toArray, List.getElem_cons_zero, List.getElem_cons_succ, List.setIfInBounds_toArray, List.set_cons_zero, List.set_cons_succ]
      refine anyB_takeW (i := 19) (v := ?_) rfl (by kernel_rfl) (by kernel_rfl) (by kernel_rfl) (by kernel_rfl) (fun _ _ _ h => h) hShut (fun _ => hHeld) (Or.inl ⟨by rfl, ?_⟩) (fun hShut => ?_)
      case refine_2 => (rintro wz -; go_simp; try with_reducible rfl)
      try simp only [Act.put, List.getElem_toArray, List.getElem_cons_zero, List.getElem_cons_succ, List.setIfInBounds_toArray, List.set_cons_zero, List.set_cons_succ]
      refine anyB_take 42 (i := 20) (v := ?_) rfl (by kernel_rfl) (by kernel_rfl) (by kernel_rfl) (by kernel_rfl) (by kernel_rfl) (fun _ _ _ h => h) hShut hHeld (Or.inl ⟨by rfl, ?_⟩) (fun hShut => ?_)
      case refine_2 => (rintro wz ⟨sh, sb⟩; have c0 := sh.val (i := 0) rfl; have c1 := sh.val (i := 1) rfl; have c2 := sh.val (i := 2) rfl; have c3 := sh.val (i := 3) rfl; go_simp; try with_reducible rfl)
      try simp only [Act.put, List.getElem_toArray, List.getElem_cons_zero, List.getElem_cons_succ, List.setIfInBounds_toArray, List.set_cons_zero, List.set_cons_succ]
      refine anyB_takeW (i := 23) (v := ?_) rfl (by kernel_rfl) (by kernel_rfl) (by kernel_rfl) (by kernel_rfl) (fun _ _ _ h => h) hShut (fun _ => hHeld) (Or.inl ⟨by rfl, ?_⟩) (fun hShut => ?_)
      case refine_2 => (rintro wz -; go_simp; try with_reducible rfl)
      try simp only [Act.put, List.getElem_toArray, List.getElem_cons_zero, List.getElem_cons_succ, List.setIfInBounds_toArray, List.set_cons_zero, List.set_cons_succ]
      refine anyB_takeW (i := 24) (v := ?_) rfl (by kernel_rfl) (by kernel_rfl) (by kernel_rfl) (by kernel_rfl) (fun _ _ _ h => h) hShut (fun _ => hHeld) (Or.inl ⟨by rfl, ?_⟩) (fun hShut => ?_)
      case refine_2 => (rintro wz -; go_simp; try with_reducible rfl)
      try simp only [Act.put, List.getElem_toArray, List.getElem_cons_zero, List.getElem_cons_succ, List.setIfInBounds_toArray, List.set_cons_zero, List.set_cons_succ]
      refine anyB_takeW (i := 25) (v := ?_) rfl (by kernel_rfl) (by kernel_rfl) (by kernel_rfl) (by kernel_rfl) (fun _ _ _ h => h) hShut (fun _ => hHeld) (Or.inl ⟨by rfl, ?_⟩) (fun hShut => ?_)
      case refine_2 => (rintro wz -; go_simp; try with_reducible rfl)
      try simp only [Act.put, List.getElem_toArray, List.getElem_cons_zero, List.getElem_cons_succ, List.setIfInBounds_toArray, List.set_cons_zero, List.set_cons_succ]
      refine anyB_take 42 (i := 26) (v := ?_) rfl (by kernel_rfl) (by kernel_rfl) (by kernel_rfl) (by kernel_rfl) (by kernel_rfl) (fun _ _ _ h => h) hShut hHeld (Or.inl ⟨by rfl, ?_⟩) (fun hShut => ?_)
      case refine_2 => (rintro wz ⟨sh, sb⟩; have c0 := sh.val (i := 0) rfl; have c1 := sh.val (i := 1) rfl; have c2 := sh.val (i := 2) rfl; have c3 := sh.val (i := 3) rfl; go_simp; try with_reducible rfl)
      try simp only [Act.put, List.getElem_toArray, List.getElem_cons_zero, List.getElem_cons_succ, List.setIfInBounds_toArray, List.set_cons_zero, List.set_cons_succ]
      refine anyB_takeW (i := 27) (v := ?_) rfl (by kernel_rfl) (by kernel_rfl) (by kernel_rfl) (by kernel_rfl) (fun _ _ _ h => h) hShut (fun _ => hHeld) (Or.inl ⟨by rfl, ?_⟩) (fun hShut => ?_)
      case refine_2 => (rintro wz -; go_simp; try with_reducible rfl)
      try simp only [Act.put, List.getElem_toArray, List.getElem_cons_zero, List.getElem_cons_succ, List.setIfInBounds_toArray, List.set_cons_zero, List.set_cons_succ]
      refine anyB_states (St5 ?x0 ?x1 ?x2 ?x3 ?x4 ?x5 ?x6 ?x7 ?x8 ?x9 ?x10 ?x11 ?x16 ?x17 ?x18 ?x21 ?x22 ?x23 ?x24 ?x25 ?x27 ?x28 ?x29 ?x30 ?x31 ?x33 ?x34 ?x35 ?x36 ?x37 ?x40 ?x41 ?x42 ?x43 ?x44 ?x45 ?x46 ?x47 ?x48 ?x49 ?x50 w w.heap.size k v1 v2 v3 v4) ?hs _ _ _ _ hShut ?h0
      case h0 => exact .s0 _ _ _ (by rfl) (by kernel_rfl) HS H.out.r1 H.out.r2 H.out.r3 H.out.r4
      case hs =>
        intro f l a wz h
        clear hShut hHeld HS
        cases h
        case s0 hf hl hd r1 r2 r3 r4 =>
          subst hf hl
          refine out_each (f' := 19) (rs := [9, 15, 21, 28]) (by rfl) (by kernel_rfl) (by simp) ?_
          have hbs : w.heap.size + 1 ≤ wz.heap.size := hd.hd.size
          refine List.forall_mem_cons.2 ⟨wpOp_step rfl (fun K hK => ?_), ?_⟩
          ·
            (try rw [if_pos (by rfl)])
            go_simp
            exact hK _ _ ⟨fun _ => hd.alloc_ _, .s0_1 _ _ _ (by rfl) (by kernel_rfl) _ (hd.alloc_ _) (r1.alloc _) (r2.alloc _) (r3.alloc _) (r4.alloc _) (Blk.made wz _ _)⟩
          refine List.forall_mem_cons.2 ⟨wpOp_step rfl (fun K hK => ?_), ?_⟩
          ·
            (try rw [if_pos (by rfl)])
            go_simp
            exact hK _ _ ⟨fun _ => hd.alloc_ _, .s0_2 _ _ _ (by rfl) (by kernel_rfl) _ (hd.alloc_ _) (r1.alloc _) (r2.alloc _) (r3.alloc _) (r4.alloc _) (Blk.made wz _ _)⟩
          refine List.forall_mem_cons.2 ⟨wpOp_step rfl (fun K hK => ?_), ?_⟩
          ·
            (try rw [if_pos (by rfl)])
            go_simp
            exact hK _ _ ⟨fun _ => hd.alloc_ _, .s0_3 _ _ _ (by rfl) (by kernel_rfl) _ (hd.alloc_ _) (r1.alloc _) (r2.alloc _) (r3.alloc _) (r4.alloc _) (Blk.made wz _ _)⟩
          refine List.forall_mem_cons.2 ⟨wpOp_step rfl (fun K hK => ?_), ?_⟩
          ·
            (try rw [if_pos (by rfl)])
            go_simp
            exact hK _ _ ⟨fun _ => hd.alloc_ _, .s0_4 _ _ _ (by rfl) (by kernel_rfl) _ (hd.alloc_ _) (r1.alloc _) (r2.alloc _) (r3.alloc _) (r4.alloc _) (Blk.made wz _ _)⟩
          exact fun _ h => by cases h
        case s0_1 hf hl g1 hd r1 r2 r3 r4 b1 =>
          subst hf hl
          refine out_each (f' := 18) (rs := [10, 15, 21, 28]) (by rfl) (by kernel_rfl) (by simp) ?_
          have hbs : w.heap.size + 1 ≤ wz.heap.size := hd.hd.size
          refine List.forall_mem_cons.2 ⟨wpOp_step rfl (fun K hK => ?_), ?_⟩
          ·
            (try rw [if_pos (by rfl)])
            refine app1 (.tmp 19) (.tmp 21) rfl rfl rfl r1 b1 (by omega) hbs ?_
            intro v' w' hr' hg'
            exact hK _ _ ⟨fun _ => hd.grown hg' r1 (by decide), .s1 _ _ _ (by rfl) (by kernel_rfl) _ _ (hd.grown hg' r1 (by decide)) hr' (r2.kept hg' (own_othr r2 r1 (by decide))) (r3.kept hg' (own_othr r3 r1 (by decide))) (r4.kept hg' (own_othr r4 r1 (by decide))) ⟩
          refine List.forall_mem_cons.2 ⟨wpOp_step rfl (fun K hK => ?_), ?_⟩
          ·
            (try rw [if_pos (by rfl)])
            go_simp
            exact hK _ _ ⟨fun _ => hd.alloc_ _, .s0_1_2 _ _ _ (by rfl) (by kernel_rfl) _ _ (hd.alloc_ _) (r1.alloc _) (r2.alloc _) (r3.alloc _) (r4.alloc _) (b1.alloc_ _) (Blk.made wz _ _)⟩
          refine List.forall_mem_cons.2 ⟨wpOp_step rfl (fun K hK => ?_), ?_⟩
          ·
            (try rw [if_pos (by rfl)])
            go_simp
            exact hK _ _ ⟨fun _ => hd.alloc_ _, .s0_1_3 _ _ _ (by rfl) (by kernel_rfl) _ _ (hd.alloc_ _) (r1.alloc _) (r2.alloc _) (r3.alloc _) (r4.alloc _) (b1.alloc_ _) (Blk.made wz _ _)⟩
          refine List.forall_mem_cons.2 ⟨wpOp_step rfl (fun K hK => ?_), ?_⟩
          ·
            (try rw [if_pos (by rfl)])
            go_simp
            exact hK _ _ ⟨fun _ => hd.alloc_ _, .s0_1_4 _ _ _ (by rfl) (by kernel_rfl) _ _ (hd.alloc_ _) (r1.alloc _) (r2.alloc _) (r3.alloc _) (r4.alloc _) (b1.alloc_ _) (Blk.made wz _ _)⟩
          exact fun _ h => by cases h
        case s0_2 hf hl g2 hd r1 r2 r3 r4 b2 =>
          subst hf hl
          refine out_each (f' := 18) (rs := [9, 21, 28]) (by rfl) (by kernel_rfl) (by simp) ?_
          have hbs : w.heap.size + 1 ≤ wz.heap.size := hd.hd.size
          refine List.forall_mem_cons.2 ⟨wpOp_step rfl (fun K hK => ?_), ?_⟩
          ·
            (try rw [if_pos (by rfl)])
            go_simp
            exact hK _ _ ⟨fun _ => hd.alloc_ _, .s0_1_2 _ _ _ (by rfl) (by kernel_rfl) _ _ (hd.alloc_ _) (r1.alloc _) (r2.alloc _) (r3.alloc _) (r4.alloc _) (Blk.made wz _ _) (b2.alloc_ _)⟩
          refine List.forall_mem_cons.2 ⟨wpOp_step rfl (fun K hK => ?_), ?_⟩
          ·
            (try rw [if_pos (by rfl)])
            go_simp
            exact hK _ _ ⟨fun _ => hd.alloc_ _, .s0_2_3 _ _ _ (by rfl) (by kernel_rfl) _ _ (hd.alloc_ _) (r1.alloc _) (r2.alloc _) (r3.alloc _) (r4.alloc _) (b2.alloc_ _) (Blk.made wz _ _)⟩
          refine List.forall_mem_cons.2 ⟨wpOp_step rfl (fun K hK => ?_), ?_⟩
          ·
            (try rw [if_pos (by rfl)])
            go_simp
            exact hK _ _ ⟨fun _ => hd.alloc_ _, .s0_2_4 _ _ _ (by rfl) (by kernel_rfl) _ _ (hd.alloc_ _) (r1.alloc _) (r2.alloc _) (r3.alloc _) (r4.alloc _) (b2.alloc_ _) (Blk.made wz _ _)⟩
          exact fun _ h => by cases h
        case s0_3 hf hl g3 hd r1 r2 r3 r4 b3 =>
          subst hf hl
          refine out_each (f' := 18) (rs := [9, 15, 28]) (by rfl) (by kernel_rfl) (by simp) ?_
          have hbs : w.heap.size + 1 ≤ wz.heap.size := hd.hd.size
          refine List.forall_mem_cons.2 ⟨wpOp_step rfl (fun K hK => ?_), ?_⟩
          ·
            (try rw [if_pos (by rfl)])
            go_simp
            exact hK _ _ ⟨fun _ => hd.alloc_ _, .s0_1_3 _ _ _ (by rfl) (by kernel_rfl) _ _ (hd.alloc_ _) (r1.alloc _) (r2.alloc _) (r3.alloc _) (r4.alloc _) (Blk.made wz _ _) (b3.alloc_ _)⟩
          refine List.forall_mem_cons.2 ⟨wpOp_step rfl (fun K hK => ?_), ?_⟩
          ·
            (try rw [if_pos (by rfl)])
            go_simp
            exact hK _ _ ⟨fun _ => hd.alloc_ _, .s0_2_3 _ _ _ (by rfl) (by kernel_rfl) _ _ (hd.alloc_ _) (r1.alloc _) (r2.alloc _) (r3.alloc _) (r4.alloc _) (Blk.made wz _ _) (b3.alloc_ _)⟩
          refine List.forall_mem_cons.2 ⟨wpOp_step rfl (fun K hK => ?_), ?_⟩
          ·
            (try rw [if_pos (by rfl)])
            go_simp
            exact hK _ _ ⟨fun _ => hd.alloc_ _, .s0_3_4 _ _ _ (by rfl) (by kernel_rfl) _ _ (hd.alloc_ _) (r1.alloc _) (r2.alloc _) (r3.alloc _) (r4.alloc _) (b3.alloc_ _) (Blk.made wz _ _)⟩
          exact fun _ h => by cases h
        case s0_4 hf hl g4 hd r1 r2 r3 r4 b4 =>
          subst hf hl
          refine out_each (f' := 18) (rs := [9, 15, 21]) (by rfl) (by kernel_rfl) (by simp) ?_
          have hbs : w.heap.size + 1 ≤ wz.heap.size := hd.hd.size
          refine List.forall_mem_cons.2 ⟨wpOp_step rfl (fun K hK => ?_), ?_⟩
          ·
            (try rw [if_pos (by rfl)])
            go_simp
            exact hK _ _ ⟨fun _ => hd.alloc_ _, .s0_1_4 _ _ _ (by rfl) (by kernel_rfl) _ _ (hd.alloc_ _) (r1.alloc _) (r2.alloc _) (r3.alloc _) (r4.alloc _) (Blk.made wz _ _) (b4.alloc_ _)⟩
          refine List.forall_mem_cons.2 ⟨wpOp_step rfl (fun K hK => ?_), ?_⟩
          ·
            (try rw [if_pos (by rfl)])
            go_simp
            exact hK _ _ ⟨fun _ => hd.alloc_ _, .s0_2_4 _ _ _ (by rfl) (by kernel_rfl) _ _ (hd.alloc_ _) (r1.alloc _) (r2.alloc _) (r3.alloc _) (r4.alloc _) (Blk.made wz _ _) (b4.alloc_ _)⟩
          refine List.forall_mem_cons.2 ⟨wpOp_step rfl (fun K hK => ?_), ?_⟩
          ·
            (try rw [if_pos (by rfl)])
            go_simp
            exact hK _ _ ⟨fun _ => hd.alloc_ _, .s0_3_4 _ _ _ (by rfl) (by kernel_rfl) _ _ (hd.alloc_ _) (r1.alloc _) (r2.alloc _) (r3.alloc _) (r4.alloc _) (Blk.made wz _ _) (b4.alloc_ _)⟩
          exact fun _ h => by cases h
        case s0_1_2 hf hl g1 g2 hd r1 r2 r3 r4 b1 b2 =>
          subst hf hl
          refine out_each (f' := 17) (rs := [10, 21, 28]) (by rfl) (by kernel_rfl) (by simp) ?_
          have hbs : w.heap.size + 1 ≤ wz.heap.size := hd.hd.size
          refine List.forall_mem_cons.2 ⟨wpOp_step rfl (fun K hK => ?_), ?_⟩
          ·
            (try rw [if_pos (by rfl)])
            refine app1 (.tmp 19) (.tmp 21) rfl rfl rfl r1 b1 (by omega) hbs ?_
            intro v' w' hr' hg'
            exact hK _ _ ⟨fun _ => hd.grown hg' r1 (by decide), .s1_2 _ _ _ (by rfl) (by kernel_rfl) _ _ _ (hd.grown hg' r1 (by decide)) hr' (r2.kept hg' (own_othr r2 r1 (by decide))) (r3.kept hg' (own_othr r3 r1 (by decide))) (r4.kept hg' (own_othr r4 r1 (by decide))) (b2.grown_ hg' r1 (by decide))⟩
          refine List.forall_mem_cons.2 ⟨wpOp_step rfl (fun K hK => ?_), ?_⟩
          ·
            (try rw [if_pos (by rfl)])
            go_simp
            exact hK _ _ ⟨fun _ => hd.alloc_ _, .s0_1_2_3 _ _ _ (by rfl) (by kernel_rfl) _ _ _ (hd.alloc_ _) (r1.alloc _) (r2.alloc _) (r3.alloc _) (r4.alloc _) (b1.alloc_ _) (b2.alloc_ _) (Blk.made wz _ _)⟩
          refine List.forall_mem_cons.2 ⟨wpOp_step rfl (fun K hK => ?_), ?_⟩
          ·
            (try rw [if_pos (by rfl)])
            go_simp
            exact hK _ _ ⟨fun _ => hd.alloc_ _, .s0_1_2_4 _ _ _ (by rfl) (by kernel_rfl) _ _ _ (hd.alloc_ _) (r1.alloc _) (r2.alloc _) (r3.alloc _) (r4.alloc _) (b1.alloc_ _) (b2.alloc_ _) (Blk.made wz _ _)⟩
          exact fun _ h => by cases h
        case s0_1_3 hf hl g1 g3 hd r1 r2 r3 r4 b1 b3 =>
          subst hf hl
          refine out_each (f' := 17) (rs := [10, 15, 28]) (by rfl) (by kernel_rfl) (by simp) ?_
          have hbs : w.heap.size + 1 ≤ wz.heap.size := hd.hd.size
          refine List.forall_mem_cons.2 ⟨wpOp_step rfl (fun K hK => ?_), ?_⟩
          ·
            (try rw [if_pos (by rfl)])
            refine app1 (.tmp 19) (.tmp 21) rfl rfl rfl r1 b1 (by omega) hbs ?_
            intro v' w' hr' hg'
            exact hK _ _ ⟨fun _ => hd.grown hg' r1 (by decide), .s1_3 _ _ _ (by rfl) (by kernel_rfl) _ _ _ (hd.grown hg' r1 (by decide)) hr' (r2.kept hg' (own_othr r2 r1 (by decide))) (r3.kept hg' (own_othr r3 r1 (by decide))) (r4.kept hg' (own_othr r4 r1 (by decide))) (b3.grown_ hg' r1 (by decide))⟩
          refine List.forall_mem_cons.2 ⟨wpOp_step rfl (fun K hK => ?_), ?_⟩
          ·
            (try rw [if_pos (by rfl)])
            go_simp
            exact hK _ _ ⟨fun _ => hd.alloc_ _, .s0_1_2_3 _ _ _ (by rfl) (by kernel_rfl) _ _ _ (hd.alloc_ _) (r1.alloc _) (r2.alloc _) (r3.alloc _) (r4.alloc _) (b1.alloc_ _) (Blk.made wz _ _) (b3.alloc_ _)⟩
          refine List.forall_mem_cons.2 ⟨wpOp_step rfl (fun K hK => ?_), ?_⟩
          ·
            (try rw [if_pos (by rfl)])
            go_simp
            exact hK _ _ ⟨fun _ => hd.alloc_ _, .s0_1_3_4 _ _ _ (by rfl) (by kernel_rfl) _ _ _ (hd.alloc_ _) (r1.alloc _) (r2.alloc _) (r3.alloc _) (r4.alloc _) (b1.alloc_ _) (b3.alloc_ _) (Blk.made wz _ _)⟩
          exact fun _ h => by cases h
        case s0_1_4 hf hl g1 g4 hd r1 r2 r3 r4 b1 b4 =>
          subst hf hl
          refine out_each (f' := 17) (rs := [10, 15, 21]) (by rfl) (by kernel_rfl) (by simp) ?_
          have hbs : w.heap.size + 1 ≤ wz.heap.size := hd.hd.size
          refine List.forall_mem_cons.2 ⟨wpOp_step rfl (fun K hK => ?_), ?_⟩
          ·
            (try rw [if_pos (by rfl)])
            refine app1 (.tmp 19) (.tmp 21) rfl rfl rfl r1 b1 (by omega) hbs ?_
            intro v' w' hr' hg'
            exact hK _ _ ⟨fun _ => hd.grown hg' r1 (by decide), .s1_4 _ _ _ (by rfl) (by kernel_rfl) _ _ _ (hd.grown hg' r1 (by decide)) hr' (r2.kept hg' (own_othr r2 r1 (by decide))) (r3.kept hg' (own_othr r3 r1 (by decide))) (r4.kept hg' (own_othr r4 r1 (by decide))) (b4.grown_ hg' r1 (by decide))⟩
          refine List.forall_mem_cons.2 ⟨wpOp_step rfl (fun K hK => ?_), ?_⟩
          ·
            (try rw [if_pos (by rfl)])
            go_simp
            exact hK _ _ ⟨fun _ => hd.alloc_ _, .s0_1_2_4 _ _ _ (by rfl) (by kernel_rfl) _ _ _ (hd.alloc_ _) (r1.alloc _) (r2.alloc _) (r3.alloc _) (r4.alloc _) (b1.alloc_ _) (Blk.made wz _ _) (b4.alloc_ _)⟩
          refine List.forall_mem_cons.2 ⟨wpOp_step rfl (fun K hK => ?_), ?_⟩
          ·
            (try rw [if_pos (by rfl)])
            go_simp
            exact hK _ _ ⟨fun _ => hd.alloc_ _, .s0_1_3_4 _ _ _ (by rfl) (by kernel_rfl) _ _ _ (hd.alloc_ _) (r1.alloc _) (r2.alloc _) (r3.alloc _) (r4.alloc _) (b1.alloc_ _) (Blk.made wz _ _) (b4.alloc_ _)⟩
          exact fun _ h => by cases h
        case s0_2_3 hf hl g2 g3 hd r1 r2 r3 r4 b2 b3 =>
          subst hf hl
          refine out_each (f' := 17) (rs := [9, 28]) (by rfl) (by kernel_rfl) (by simp) ?_
          have hbs : w.heap.size + 1 ≤ wz.heap.size := hd.hd.size
          refine List.forall_mem_cons.2 ⟨wpOp_step rfl (fun K hK => ?_), ?_⟩
          ·
            (try rw [if_pos (by rfl)])
            go_simp
            exact hK _ _ ⟨fun _ => hd.alloc_ _, .s0_1_2_3 _ _ _ (by rfl) (by kernel_rfl) _ _ _ (hd.alloc_ _) (r1.alloc _) (r2.alloc _) (r3.alloc _) (r4.alloc _) (Blk.made wz _ _) (b2.alloc_ _) (b3.alloc_ _)⟩
          refine List.forall_mem_cons.2 ⟨wpOp_step rfl (fun K hK => ?_), ?_⟩
          ·
            (try rw [if_pos (by rfl)])
            go_simp
            exact hK _ _ ⟨fun _ => hd.alloc_ _, .s0_2_3_4 _ _ _ (by rfl) (by kernel_rfl) _ _ _ (hd.alloc_ _) (r1.alloc _) (r2.alloc _) (r3.alloc _) (r4.alloc _) (b2.alloc_ _) (b3.alloc_ _) (Blk.made wz _ _)⟩
          exact fun _ h => by cases h
        case s0_2_4 hf hl g2 g4 hd r1 r2 r3 r4 b2 b4 =>
          subst hf hl
          refine out_each (f' := 17) (rs := [9, 21]) (by rfl) (by kernel_rfl) (by simp) ?_
          have hbs : w.heap.size + 1 ≤ wz.heap.size := hd.hd.size
          refine List.forall_mem_cons.2 ⟨wpOp_step rfl (fun K hK => ?_), ?_⟩
          ·
            (try rw [if_pos (by rfl)])
            go_simp
            exact hK _ _ ⟨fun _ => hd.alloc_ _, .s0_1_2_4 _ _ _ (by rfl) (by kernel_rfl) _ _ _ (hd.alloc_ _) (r1.alloc _) (r2.alloc _) (r3.alloc _) (r4.alloc _) (Blk.made wz _ _) (b2.alloc_ _) (b4.alloc_ _)⟩
          refine List.forall_mem_cons.2 ⟨wpOp_step rfl (fun K hK => ?_), ?_⟩
          ·
            (try rw [if_pos (by rfl)])
            go_simp
            exact hK _ _ ⟨fun _ => hd.alloc_ _, .s0_2_3_4 _ _ _ (by rfl) (by kernel_rfl) _ _ _ (hd.alloc_ _) (r1.alloc _) (r2.alloc _) (r3.alloc _) (r4.alloc _) (b2.alloc_ _) (Blk.made wz _ _) (b4.alloc_ _)⟩
          exact fun _ h => by cases h
        case s0_3_4 hf hl g3 g4 hd r1 r2 r3 r4 b3 b4 =>
          subst hf hl
          refine out_each (f' := 17) (rs := [9, 15]) (by rfl) (by kernel_rfl) (by simp) ?_
          have hbs : w.heap.size + 1 ≤ wz.heap.size := hd.hd.size
          refine List.forall_mem_cons.2 ⟨wpOp_step rfl (fun K hK => ?_), ?_⟩
          ·
            (try rw [if_pos (by rfl)])
            go_simp
            exact hK _ _ ⟨fun _ => hd.alloc_ _, .s0_1_3_4 _ _ _ (by rfl) (by kernel_rfl) _ _ _ (hd.alloc_ _) (r1.alloc _) (r2.alloc _) (r3.alloc _) (r4.alloc _) (Blk.made wz _ _) (b3.alloc_ _) (b4.alloc_ _)⟩
          refine List.forall_mem_cons.2 ⟨wpOp_step rfl (fun K hK => ?_), ?_⟩
          ·
            (try rw [if_pos (by rfl)])
            go_simp
            exact hK _ _ ⟨fun _ => hd.alloc_ _, .s0_2_3_4 _ _ _ (by rfl) (by kernel_rfl) _ _ _ (hd.alloc_ _) (r1.alloc _) (r2.alloc _) (r3.alloc _) (r4.alloc _) (Blk.made wz _ _) (b3.alloc_ _) (b4.alloc_ _)⟩
          exact fun _ h => by cases h
        case s0_1_2_3 hf hl g1 g2 g3 hd r1 r2 r3 r4 b1 b2 b3 =>
          subst hf hl
          refine out_each (f' := 16) (rs := [10, 28]) (by rfl) (by kernel_rfl) (by simp) ?_
          have hbs : w.heap.size + 1 ≤ wz.heap.size := hd.hd.size
          refine List.forall_mem_cons.2 ⟨wpOp_step rfl (fun K hK => ?_), ?_⟩
          ·
            (try rw [if_pos (by rfl)])
            refine app1 (.tmp 19) (.tmp 21) rfl rfl rfl r1 b1 (by omega) hbs ?_
            intro v' w' hr' hg'
            exact hK _ _ ⟨fun _ => hd.grown hg' r1 (by decide), .s1_2_3 _ _ _ (by rfl) (by kernel_rfl) _ _ _ _ (hd.grown hg' r1 (by decide)) hr' (r2.kept hg' (own_othr r2 r1 (by decide))) (r3.kept hg' (own_othr r3 r1 (by decide))) (r4.kept hg' (own_othr r4 r1 (by decide))) (b2.grown_ hg' r1 (by decide)) (b3.grown_ hg' r1 (by decide))⟩
          refine List.forall_mem_cons.2 ⟨wpOp_step rfl (fun K hK => ?_), ?_⟩
          ·
            (try rw [if_pos (by rfl)])
            go_simp
            exact hK _ _ ⟨fun _ => hd.alloc_ _, .s0_1_2_3_4 _ _ _ (by rfl) (by kernel_rfl) _ _ _ _ (hd.alloc_ _) (r1.alloc _) (r2.alloc _) (r3.alloc _) (r4.alloc _) (b1.alloc_ _) (b2.alloc_ _) (b3.alloc_ _) (Blk.made wz _ _)⟩
          exact fun _ h => by cases h
        case s0_1_2_4 hf hl g1 g2 g4 hd r1 r2 r3 r4 b1 b2 b4 =>
          subst hf hl
          refine out_each (f' := 16) (rs := [10, 21]) (by rfl) (by kernel_rfl) (by simp) ?_
          have hbs : w.heap.size + 1 ≤ wz.heap.size := hd.hd.size
          refine List.forall_mem_cons.2 ⟨wpOp_step rfl (fun K hK => ?_), ?_⟩
          ·
            (try rw [if_pos (by rfl)])
            refine app1 (.tmp 19) (.tmp 21) rfl rfl rfl r1 b1 (by omega) hbs ?_
            intro v' w' hr' hg'
            exact hK _ _ ⟨fun _ => hd.grown hg' r1 (by decide), .s1_2_4 _ _ _ (by rfl) (by kernel_rfl) _ _ _ _ (hd.grown hg' r1 (by decide)) hr' (r2.kept hg' (own_othr r2 r1 (by decide))) (r3.kept hg' (own_othr r3 r1 (by decide))) (r4.kept hg' (own_othr r4 r1 (by decide))) (b2.grown_ hg' r1 (by decide)) (b4.grown_ hg' r1 (by decide))⟩
          refine List.forall_mem_cons.2 ⟨wpOp_step rfl (fun K hK => ?_), ?_⟩
          ·
            (try rw [if_pos (by rfl)])
            go_simp
            exact hK _ _ ⟨fun _ => hd.alloc_ _, .s0_1_2_3_4 _ _ _ (by rfl) (by kernel_rfl) _ _ _ _ (hd.alloc_ _) (r1.alloc _) (r2.alloc _) (r3.alloc _) (r4.alloc _) (b1.alloc_ _) (b2.alloc_ _) (Blk.made wz _ _) (b4.alloc_ _)⟩
          exact fun _ h => by cases h
        case s0_1_3_4 hf hl g1 g3 g4 hd r1 r2 r3 r4 b1 b3 b4 =>
          subst hf hl
          refine out_each (f' := 16) (rs := [10, 15]) (by rfl) (by kernel_rfl) (by simp) ?_
          have hbs : w.heap.size + 1 ≤ wz.heap.size := hd.hd.size
          refine List.forall_mem_cons.2 ⟨wpOp_step rfl (fun K hK => ?_), ?_⟩
          ·
            (try rw [if_pos (by rfl)])
            refine app1 (.tmp 19) (.tmp 21) rfl rfl rfl r1 b1 (by omega) hbs ?_
            intro v' w' hr' hg'
            exact hK _ _ ⟨fun _ => hd.grown hg' r1 (by decide), .s1_3_4 _ _ _ (by rfl) (by kernel_rfl) _ _ _ _ (hd.grown hg' r1 (by decide)) hr' (r2.kept hg' (own_othr r2 r1 (by decide))) (r3.kept hg' (own_othr r3 r1 (by decide))) (r4.kept hg' (own_othr r4 r1 (by decide))) (b3.grown_ hg' r1 (by decide)) (b4.grown_ hg' r1 (by decide))⟩
          refine List.forall_mem_cons.2 ⟨wpOp_step rfl (fun K hK => ?_), ?_⟩
          ·
            (try rw [if_pos (by rfl)])
            go_simp
            exact hK _ _ ⟨fun _ => hd.alloc_ _, .s0_1_2_3_4 _ _ _ (by rfl) (by kernel_rfl) _ _ _ _ (hd.alloc_ _) (r1.alloc _) (r2.alloc _) (r3.alloc _) (r4.alloc _) (b1.alloc_ _) (Blk.made wz _ _) (b3.alloc_ _) (b4.alloc_ _)⟩
          exact fun _ h => by cases h
        case s0_2_3_4 hf hl g2 g3 g4 hd r1 r2 r3 r4 b2 b3 b4 =>
          subst hf hl
          refine out_each (f' := 16) (rs := [9]) (by rfl) (by kernel_rfl) (by simp) ?_
          have hbs : w.heap.size + 1 ≤ wz.heap.size := hd.hd.size
          refine List.forall_mem_cons.2 ⟨wpOp_step rfl (fun K hK => ?_), ?_⟩
          ·
            (try rw [if_pos (by rfl)])
            go_simp
            exact hK _ _ ⟨fun _ => hd.alloc_ _, .s0_1_2_3_4 _ _ _ (by rfl) (by kernel_rfl) _ _ _ _ (hd.alloc_ _) (r1.alloc _) (r2.alloc _) (r3.alloc _) (r4.alloc _) (Blk.made wz _ _) (b2.alloc_ _) (b3.alloc_ _) (b4.alloc_ _)⟩
          exact fun _ h => by cases h
        case s0_1_2_3_4 hf hl g1 g2 g3 g4 hd r1 r2 r3 r4 b1 b2 b3 b4 =>
          subst hf hl
          refine out_each (f' := 15) (rs := [10]) (by rfl) (by kernel_rfl) (by simp) ?_
          have hbs : w.heap.size + 1 ≤ wz.heap.size := hd.hd.size
          refine List.forall_mem_cons.2 ⟨wpOp_step rfl (fun K hK => ?_), ?_⟩
          ·
            (try rw [if_pos (by rfl)])
            refine app1 (.tmp 19) (.tmp 21) rfl rfl rfl r1 b1 (by omega) hbs ?_
            intro v' w' hr' hg'
            exact hK _ _ ⟨fun _ => hd.grown hg' r1 (by decide), .s1_2_3_4 _ _ _ (by rfl) (by kernel_rfl) _ _ _ _ _ (hd.grown hg' r1 (by decide)) hr' (r2.kept hg' (own_othr r2 r1 (by decide))) (r3.kept hg' (own_othr r3 r1 (by decide))) (r4.kept hg' (own_othr r4 r1 (by decide))) (b2.grown_ hg' r1 (by decide)) (b3.grown_ hg' r1 (by decide)) (b4.grown_ hg' r1 (by decide))⟩
          exact fun _ h => by cases h
        case s1 hf hl g1 y1 hd r1 r2 r3 r4 =>
          subst hf hl
          refine out_each (f' := 17) (rs := [15, 21, 28]) (by rfl) (by kernel_rfl) (by simp) ?_
          have hbs : w.heap.size + 1 ≤ wz.heap.size := hd.hd.size
          refine List.forall_mem_cons.2 ⟨wpOp_step rfl (fun K hK => ?_), ?_⟩
          ·
            (try rw [if_pos (by rfl)])
            go_simp
            exact hK _ _ ⟨fun _ => hd.alloc_ _, .s1_2 _ _ _ (by rfl) (by kernel_rfl) _ _ _ (hd.alloc_ _) (r1.alloc _) (r2.alloc _) (r3.alloc _) (r4.alloc _) (Blk.made wz _ _)⟩
          refine List.forall_mem_cons.2 ⟨wpOp_step rfl (fun K hK => ?_), ?_⟩
          ·
            (try rw [if_pos (by rfl)])
            go_simp
            exact hK _ _ ⟨fun _ => hd.alloc_ _, .s1_3 _ _ _ (by rfl) (by kernel_rfl) _ _ _ (hd.alloc_ _) (r1.alloc _) (r2.alloc _) (r3.alloc _) (r4.alloc _) (Blk.made wz _ _)⟩
          refine List.forall_mem_cons.2 ⟨wpOp_step rfl (fun K hK => ?_), ?_⟩
          ·
            (try rw [if_pos (by rfl)])
            go_simp
            exact hK _ _ ⟨fun _ => hd.alloc_ _, .s1_4 _ _ _ (by rfl) (by kernel_rfl) _ _ _ (hd.alloc_ _) (r1.alloc _) (r2.alloc _) (r3.alloc _) (r4.alloc _) (Blk.made wz _ _)⟩
          exact fun _ h => by cases h
        case s1_2 hf hl g1 y1 g2 hd r1 r2 r3 r4 b2 =>
          subst hf hl
          refine out_each (f' := 16) (rs := [16, 21, 28]) (by rfl) (by kernel_rfl) (by simp) ?_
          have hbs : w.heap.size + 1 ≤ wz.heap.size := hd.hd.size
          refine List.forall_mem_cons.2 ⟨wpOp_step rfl (fun K hK => ?_), ?_⟩
          ·
            (try rw [if_pos (by rfl)])
            refine app2 (.tmp 26) (.tmp 27) rfl rfl rfl r2 b2 (by omega) hbs ?_
            intro v' w' hr' hg'
            exact hK _ _ ⟨fun _ => hd.grown hg' r2 (by decide), .s2 _ _ _ (by rfl) (by kernel_rfl) _ _ _ _ (hd.grown hg' r2 (by decide)) (r1.kept hg' (own_othr r1 r2 (by decide))) hr' (r3.kept hg' (own_othr r3 r2 (by decide))) (r4.kept hg' (own_othr r4 r2 (by decide))) ⟩
          refine List.forall_mem_cons.2 ⟨wpOp_step rfl (fun K hK => ?_), ?_⟩
          ·
            (try rw [if_pos (by rfl)])
            go_simp
            exact hK _ _ ⟨fun _ => hd.alloc_ _, .s1_2_3 _ _ _ (by rfl) (by kernel_rfl) _ _ _ _ (hd.alloc_ _) (r1.alloc _) (r2.alloc _) (r3.alloc _) (r4.alloc _) (b2.alloc_ _) (Blk.made wz _ _)⟩
          refine List.forall_mem_cons.2 ⟨wpOp_step rfl (fun K hK => ?_), ?_⟩
          ·
            (try rw [if_pos (by rfl)])
            go_simp
            exact hK _ _ ⟨fun _ => hd.alloc_ _, .s1_2_4 _ _ _ (by rfl) (by kernel_rfl) _ _ _ _ (hd.alloc_ _) (r1.alloc _) (r2.alloc _) (r3.alloc _) (r4.alloc _) (b2.alloc_ _) (Blk.made wz _ _)⟩
          exact fun _ h => by cases h
        case s1_3 hf hl g1 y1 g3 hd r1 r2 r3 r4 b3 =>
          subst hf hl
          refine out_each (f' := 16) (rs := [15, 28]) (by rfl) (by kernel_rfl) (by simp) ?_
          have hbs : w.heap.size + 1 ≤ wz.heap.size := hd.hd.size
          refine List.forall_mem_cons.2 ⟨wpOp_step rfl (fun K hK => ?_), ?_⟩
          ·
            (try rw [if_pos (by rfl)])
            go_simp
            exact hK _ _ ⟨fun _ => hd.alloc_ _, .s1_2_3 _ _ _ (by rfl) (by kernel_rfl) _ _ _ _ (hd.alloc_ _) (r1.alloc _) (r2.alloc _) (r3.alloc _) (r4.alloc _) (Blk.made wz _ _) (b3.alloc_ _)⟩
          refine List.forall_mem_cons.2 ⟨wpOp_step rfl (fun K hK => ?_), ?_⟩
          ·
            (try rw [if_pos (by rfl)])
            go_simp
            exact hK _ _ ⟨fun _ => hd.alloc_ _, .s1_3_4 _ _ _ (by rfl) (by kernel_rfl) _ _ _ _ (hd.alloc_ _) (r1.alloc _) (r2.alloc _) (r3.alloc _) (r4.alloc _) (b3.alloc_ _) (Blk.made wz _ _)⟩
          exact fun _ h => by cases h
        case s1_4 hf hl g1 y1 g4 hd r1 r2 r3 r4 b4 =>
          subst hf hl
          refine out_each (f' := 16) (rs := [15, 21]) (by rfl) (by kernel_rfl) (by simp) ?_
          have hbs : w.heap.size + 1 ≤ wz.heap.size := hd.hd.size
          refine List.forall_mem_cons.2 ⟨wpOp_step rfl (fun K hK => ?_), ?_⟩
          ·
            (try rw [if_pos (by rfl)])
            go_simp
            exact hK _ _ ⟨fun _ => hd.alloc_ _, .s1_2_4 _ _ _ (by rfl) (by kernel_rfl) _ _ _ _ (hd.alloc_ _) (r1.alloc _) (r2.alloc _) (r3.alloc _) (r4.alloc _) (Blk.made wz _ _) (b4.alloc_ _)⟩
          refine List.forall_mem_cons.2 ⟨wpOp_step rfl (fun K hK => ?_), ?_⟩
          ·
            (try rw [if_pos (by rfl)])
            go_simp
            exact hK _ _ ⟨fun _ => hd.alloc_ _, .s1_3_4 _ _ _ (by rfl) (by kernel_rfl) _ _ _ _ (hd.alloc_ _) (r1.alloc _) (r2.alloc _) (r3.alloc _) (r4.alloc _) (Blk.made wz _ _) (b4.alloc_ _)⟩
          exact fun _ h => by cases h
        case s1_2_3 hf hl g1 y1 g2 g3 hd r1 r2 r3 r4 b2 b3 =>
          subst hf hl
          refine out_each (f' := 15) (rs := [16, 28]) (by rfl) (by kernel_rfl) (by simp) ?_
          have hbs : w.heap.size + 1 ≤ wz.heap.size := hd.hd.size
          refine List.forall_mem_cons.2 ⟨wpOp_step rfl (fun K hK => ?_), ?_⟩
          ·
            (try rw [if_pos (by rfl)])
            refine app2 (.tmp 26) (.tmp 27) rfl rfl rfl r2 b2 (by omega) hbs ?_
            intro v' w' hr' hg'
            exact hK _ _ ⟨fun _ => hd.grown hg' r2 (by decide), .s2_3 _ _ _ (by rfl) (by kernel_rfl) _ _ _ _ _ (hd.grown hg' r2 (by decide)) (r1.kept hg' (own_othr r1 r2 (by decide))) hr' (r3.kept hg' (own_othr r3 r2 (by decide))) (r4.kept hg' (own_othr r4 r2 (by decide))) (b3.grown_ hg' r2 (by decide))⟩
          refine List.forall_mem_cons.2 ⟨wpOp_step rfl (fun K hK => ?_), ?_⟩
          ·
            (try rw [if_pos (by rfl)])
            go_simp
            exact hK _ _ ⟨fun _ => hd.alloc_ _, .s1_2_3_4 _ _ _ (by rfl) (by kernel_rfl) _ _ _ _ _ (hd.alloc_ _) (r1.alloc _) (r2.alloc _) (r3.alloc _) (r4.alloc _) (b2.alloc_ _) (b3.alloc_ _) (Blk.made wz _ _)⟩
          exact fun _ h => by cases h
        case s1_2_4 hf hl g1 y1 g2 g4 hd r1 r2 r3 r4 b2 b4 =>
          subst hf hl
          refine out_each (f' := 15) (rs := [16, 21]) (by rfl) (by kernel_rfl) (by simp) ?_
          have hbs : w.heap.size + 1 ≤ wz.heap.size := hd.hd.size
          refine List.forall_mem_cons.2 ⟨wpOp_step rfl (fun K hK => ?_), ?_⟩
          ·
            (try rw [if_pos (by rfl)])
            refine app2 (.tmp 26) (.tmp 27) rfl rfl rfl r2 b2 (by omega) hbs ?_
            intro v' w' hr' hg'
            exact hK _ _ ⟨fun _ => hd.grown hg' r2 (by decide), .s2_4 _ _ _ (by rfl) (by kernel_rfl) _ _ _ _ _ (hd.grown hg' r2 (by decide)) (r1.kept hg' (own_othr r1 r2 (by decide))) hr' (r3.kept hg' (own_othr r3 r2 (by decide))) (r4.kept hg' (own_othr r4 r2 (by decide))) (b4.grown_ hg' r2 (by decide))⟩
          refine List.forall_mem_cons.2 ⟨wpOp_step rfl (fun K hK => ?_), ?_⟩
          ·
            (try rw [if_pos (by rfl)])
            go_simp
            exact hK _ _ ⟨fun _ => hd.alloc_ _, .s1_2_3_4 _ _ _ (by rfl) (by kernel_rfl) _ _ _ _ _ (hd.alloc_ _) (r1.alloc _) (r2.alloc _) (r3.alloc _) (r4.alloc _) (b2.alloc_ _) (Blk.made wz _ _) (b4.alloc_ _)⟩
          exact fun _ h => by cases h
        case s1_3_4 hf hl g1 y1 g3 g4 hd r1 r2 r3 r4 b3 b4 =>
          subst hf hl
          refine out_each (f' := 15) (rs := [15]) (by rfl) (by kernel_rfl) (by simp) ?_
          have hbs : w.heap.size + 1 ≤ wz.heap.size := hd.hd.size
          refine List.forall_mem_cons.2 ⟨wpOp_step rfl (fun K hK => ?_), ?_⟩
          ·
            (try rw [if_pos (by rfl)])
            go_simp
            exact hK _ _ ⟨fun _ => hd.alloc_ _, .s1_2_3_4 _ _ _ (by rfl) (by kernel_rfl) _ _ _ _ _ (hd.alloc_ _) (r1.alloc _) (r2.alloc _) (r3.alloc _) (r4.alloc _) (Blk.made wz _ _) (b3.alloc_ _) (b4.alloc_ _)⟩
          exact fun _ h => by cases h
        case s1_2_3_4 hf hl g1 y1 g2 g3 g4 hd r1 r2 r3 r4 b2 b3 b4 =>
          subst hf hl
          refine out_each (f' := 14) (rs := [16]) (by rfl) (by kernel_rfl) (by simp) ?_
          have hbs : w.heap.size + 1 ≤ wz.heap.size := hd.hd.size
          refine List.forall_mem_cons.2 ⟨wpOp_step rfl (fun K hK => ?_), ?_⟩
          ·
            (try rw [if_pos (by rfl)])
            refine app2 (.tmp 26) (.tmp 27) rfl rfl rfl r2 b2 (by omega) hbs ?_
            intro v' w' hr' hg'
            exact hK _ _ ⟨fun _ => hd.grown hg' r2 (by decide), .s2_3_4 _ _ _ (by rfl) (by kernel_rfl) _ _ _ _ _ _ (hd.grown hg' r2 (by decide)) (r1.kept hg' (own_othr r1 r2 (by decide))) hr' (r3.kept hg' (own_othr r3 r2 (by decide))) (r4.kept hg' (own_othr r4 r2 (by decide))) (b3.grown_ hg' r2 (by decide)) (b4.grown_ hg' r2 (by decide))⟩
          exact fun _ h => by cases h
        case s2 hf hl g1 y1 g2 y2 hd r1 r2 r3 r4 =>
          subst hf hl
          refine out_each (f' := 15) (rs := [21, 28]) (by rfl) (by kernel_rfl) (by simp) ?_
          have hbs : w.heap.size + 1 ≤ wz.heap.size := hd.hd.size
          refine List.forall_mem_cons.2 ⟨wpOp_step rfl (fun K hK => ?_), ?_⟩
          ·
            (try rw [if_pos (by rfl)])
            go_simp
            exact hK _ _ ⟨fun _ => hd.alloc_ _, .s2_3 _ _ _ (by rfl) (by kernel_rfl) _ _ _ _ _ (hd.alloc_ _) (r1.alloc _) (r2.alloc _) (r3.alloc _) (r4.alloc _) (Blk.made wz _ _)⟩
          refine List.forall_mem_cons.2 ⟨wpOp_step rfl (fun K hK => ?_), ?_⟩
          ·
            (try rw [if_pos (by rfl)])
            go_simp
            exact hK _ _ ⟨fun _ => hd.alloc_ _, .s2_4 _ _ _ (by rfl) (by kernel_rfl) _ _ _ _ _ (hd.alloc_ _) (r1.alloc _) (r2.alloc _) (r3.alloc _) (r4.alloc _) (Blk.made wz _ _)⟩
          exact fun _ h => by cases h
        case s2_3 hf hl g1 y1 g2 y2 g3 hd r1 r2 r3 r4 b3 =>
          subst hf hl
          refine out_each (f' := 14) (rs := [22, 28]) (by rfl) (by kernel_rfl) (by simp) ?_
          have hbs : w.heap.size + 1 ≤ wz.heap.size := hd.hd.size
          refine List.forall_mem_cons.2 ⟨wpOp_step rfl (fun K hK => ?_), ?_⟩
          ·
            (try rw [if_pos (by rfl)])
            refine app3 (.tmp 32) (.tmp 33) rfl rfl rfl r3 b3 (by omega) hbs ?_
            intro v' w' hr' hg'
            exact hK _ _ ⟨fun _ => hd.grown hg' r3 (by decide), .s3 _ _ _ (by rfl) (by kernel_rfl) _ _ _ _ _ _ (hd.grown hg' r3 (by decide)) (r1.kept hg' (own_othr r1 r3 (by decide))) (r2.kept hg' (own_othr r2 r3 (by decide))) hr' (r4.kept hg' (own_othr r4 r3 (by decide))) ⟩
          refine List.forall_mem_cons.2 ⟨wpOp_step rfl (fun K hK => ?_), ?_⟩
          ·
            (try rw [if_pos (by rfl)])
            go_simp
            exact hK _ _ ⟨fun _ => hd.alloc_ _, .s2_3_4 _ _ _ (by rfl) (by kernel_rfl) _ _ _ _ _ _ (hd.alloc_ _) (r1.alloc _) (r2.alloc _) (r3.alloc _) (r4.alloc _) (b3.alloc_ _) (Blk.made wz _ _)⟩
          exact fun _ h => by cases h
        case s2_4 hf hl g1 y1 g2 y2 g4 hd r1 r2 r3 r4 b4 =>
          subst hf hl
          refine out_each (f' := 14) (rs := [21]) (by rfl) (by kernel_rfl) (by simp) ?_
          have hbs : w.heap.size + 1 ≤ wz.heap.size := hd.hd.size
          refine List.forall_mem_cons.2 ⟨wpOp_step rfl (fun K hK => ?_), ?_⟩
          ·
            (try rw [if_pos (by rfl)])
            go_simp
            exact hK _ _ ⟨fun _ => hd.alloc_ _, .s2_3_4 _ _ _ (by rfl) (by kernel_rfl) _ _ _ _ _ _ (hd.alloc_ _) (r1.alloc _) (r2.alloc _) (r3.alloc _) (r4.alloc _) (Blk.made wz _ _) (b4.alloc_ _)⟩
          exact fun _ h => by cases h
        case s2_3_4 hf hl g1 y1 g2 y2 g3 g4 hd r1 r2 r3 r4 b3 b4 =>
          subst hf hl
          refine out_each (f' := 13) (rs := [22]) (by rfl) (by kernel_rfl) (by simp) ?_
          have hbs : w.heap.size + 1 ≤ wz.heap.size := hd.hd.size
          refine List.forall_mem_cons.2 ⟨wpOp_step rfl (fun K hK => ?_), ?_⟩
          ·
            (try rw [if_pos (by rfl)])
            refine app3 (.tmp 32) (.tmp 33) rfl rfl rfl r3 b3 (by omega) hbs ?_
            intro v' w' hr' hg'
            exact hK _ _ ⟨fun _ => hd.grown hg' r3 (by decide), .s3_4 _ _ _ (by rfl) (by kernel_rfl) _ _ _ _ _ _ _ (hd.grown hg' r3 (by decide)) (r1.kept hg' (own_othr r1 r3 (by decide))) (r2.kept hg' (own_othr r2 r3 (by decide))) hr' (r4.kept hg' (own_othr r4 r3 (by decide))) (b4.grown_ hg' r3 (by decide))⟩
          exact fun _ h => by cases h
        case s3 hf hl g1 y1 g2 y2 g3 y3 hd r1 r2 r3 r4 =>
          subst hf hl
          refine out_each (f' := 13) (rs := [28]) (by rfl) (by kernel_rfl) (by simp) ?_
          have hbs : w.heap.size + 1 ≤ wz.heap.size := hd.hd.size
          refine List.forall_mem_cons.2 ⟨wpOp_step rfl (fun K hK => ?_), ?_⟩
          ·
            (try rw [if_pos (by rfl)])
            go_simp
            exact hK _ _ ⟨fun _ => hd.alloc_ _, .s3_4 _ _ _ (by rfl) (by kernel_rfl) _ _ _ _ _ _ _ (hd.alloc_ _) (r1.alloc _) (r2.alloc _) (r3.alloc _) (r4.alloc _) (Blk.made wz _ _)⟩
          exact fun _ h => by cases h
        case s3_4 hf hl g1 y1 g2 y2 g3 y3 g4 hd r1 r2 r3 r4 b4 =>
          subst hf hl
          refine out_each (f' := 12) (rs := [29]) (by rfl) (by kernel_rfl) (by simp) ?_
          have hbs : w.heap.size + 1 ≤ wz.heap.size := hd.hd.size
          refine List.forall_mem_cons.2 ⟨wpOp_step rfl (fun K hK => ?_), ?_⟩
          ·
            (try rw [if_pos (by rfl)])
            refine app4 (.tmp 38) (.tmp 40) rfl rfl rfl r4 b4 (by omega) hbs ?_
            intro v' w' hr' hg'
            exact hK _ _ ⟨fun _ => hd.grown hg' r4 (by decide), .s4 _ _ _ (by rfl) (by kernel_rfl) _ _ _ _ _ _ _ _ (hd.grown hg' r4 (by decide)) (r1.kept hg' (own_othr r1 r4 (by decide))) (r2.kept hg' (own_othr r2 r4 (by decide))) (r3.kept hg' (own_othr r3 r4 (by decide))) hr' ⟩
          exact fun _ h => by cases h
        case s4 hf hl g1 y1 g2 y2 g3 y3 g4 y4 hd r1 r2 r3 r4 =>
          subst hf hl
          obtain ⟨A1, C1, rfl⟩ := own_form r1
          obtain ⟨A2, C2, rfl⟩ := own_form r2
          obtain ⟨A3, C3, rfl⟩ := own_form r3
          obtain ⟨A4, C4, rfl⟩ := own_form r4
          refine .inl (fun hShut => ?_)
          have hHeld := hd
          have c0 := hd.hd.val (i := 0) rfl
          have c1 := hd.hd.val (i := 1) rfl
          have c2 := hd.hd.val (i := 2) rfl
          have c3 := hd.hd.val (i := 3) rfl
          have zf := hd.hd.free
          have zs := hd.hd.size
          refine anyB_takeW (i := 30) (v := ?_) rfl (by kernel_rfl) (by kernel_rfl) (by kernel_rfl) (by kernel_rfl) (fun _ _ _ h => h) hShut (fun _ => hHeld) (Or.inl ⟨by rfl, ?_⟩) (fun hShut => ?_)
          case refine_2 => (rintro wz -; go_simp; try with_reducible rfl)
          try simp only [Act.put, List.getElem_toArray, List.getElem_cons_zero, List.getElem_cons_succ, List.setIfInBounds_toArray, List.set_cons_zero, List.set_cons_succ]
          refine anyB_takeW (i := 31) (v := ?_) rfl (by kernel_rfl) (by kernel_rfl) (by kernel_rfl) (by kernel_rfl) (fun _ _ _ h => h) hShut (fun _ => hHeld) (Or.inl ⟨by rfl, ?_⟩) (fun hShut => ?_)
          case refine_2 => (rintro wz -; go_simp; try with_reducible rfl)
          try simp only [Act.put, List.getElem_toArray, List.getElem_cons_zero, List.getElem_cons_succ, List.setIfInBounds_toArray, List.set_cons_zero, List.set_cons_succ]
          refine anyB_each (rs := [32]) hShut (by kernel_rfl) (by simp) ?_
          refine List.forall_mem_cons.2 ⟨fun hShut => wpOp_step rfl (fun K hK => ?_), fun _ h => by cases h⟩
          (try rw [if_pos (by rfl)])
          go_simp
          refine unheld hK (by kernel_rfl) ?_
          clear hK K
          refine anyB_takeW (i := 33) (v := ?_) rfl (by kernel_rfl) (by kernel_rfl) (by kernel_rfl) (by kernel_rfl) (fun _ _ _ h => h) hShut (fun c => absurd c (by decide +kernel)) (Or.inl ⟨by rfl, ?_⟩) (fun hShut => ?_)
          case refine_2 => (rintro wz -; go_simp; try with_reducible rfl)
          try simp only [Act.put, List.getElem_toArray, List.getElem_cons_zero, List.getElem_cons_succ, List.setIfInBounds_toArray, List.set_cons_zero, List.set_cons_succ]
          refine anyB_takeW (i := 34) (v := ?_) rfl (by kernel_rfl) (by kernel_rfl) (by kernel_rfl) (by kernel_rfl) (fun _ _ _ h => h) hShut (fun c => absurd c (by decide +kernel)) (Or.inl ⟨by rfl, ?_⟩) (fun hShut => ?_)
          case refine_2 => (rintro wz -; go_simp; try with_reducible rfl)
          try simp only [Act.put, List.getElem_toArray, List.getElem_cons_zero, List.getElem_cons_succ, List.setIfInBounds_toArray, List.set_cons_zero, List.set_cons_succ]
          refine anyB_each (rs := [35]) hShut (by kernel_rfl) (by simp) ?_
          refine List.forall_mem_cons.2 ⟨fun hShut => wpOp_step rfl (fun K hK => ?_), fun _ h => by cases h⟩
          (try rw [if_pos (by rfl)])
          go_simp
          refine unheld hK (by kernel_rfl) ?_
          clear hK K
          refine anyB_takeW (i := 36) (v := ?_) rfl (by kernel_rfl) (by kernel_rfl) (by kernel_rfl) (by kernel_rfl) (fun _ _ _ h => h) hShut (fun c => absurd c (by decide +kernel)) (Or.inl ⟨by rfl, ?_⟩) (fun hShut => ?_)
          case refine_2 => (rintro wz -; go_simp; try with_reducible rfl)
          try simp only [Act.put, List.getElem_toArray, List.getElem_cons_zero, List.getElem_cons_succ, List.setIfInBounds_toArray, List.set_cons_zero, List.set_cons_succ]
          refine anyB_takeW (i := 37) (v := ?_) rfl (by kernel_rfl) (by kernel_rfl) (by kernel_rfl) (by kernel_rfl) (fun _ _ _ h => h) hShut (fun c => absurd c (by decide +kernel)) (Or.inl ⟨by rfl, ?_⟩) (fun hShut => ?_)
          case refine_2 => (rintro wz -; go_simp; try with_reducible rfl)
          try simp only [Act.put, List.getElem_toArray, List.getElem_cons_zero, List.getElem_cons_succ, List.setIfInBounds_toArray, List.set_cons_zero, List.set_cons_succ]
          refine anyB_each (rs := [38]) hShut (by kernel_rfl) (by simp) ?_
          refine List.forall_mem_cons.2 ⟨fun hShut => wpOp_step rfl (fun K hK => ?_), fun _ h => by cases h⟩
          (try rw [if_pos (by rfl)])
          go_simp
          refine unheld hK (by kernel_rfl) ?_
          clear hK K
          refine anyB_takeW (i := 39) (v := ?_) rfl (by kernel_rfl) (by kernel_rfl) (by kernel_rfl) (by kernel_rfl) (fun _ _ _ h => h) hShut (fun c => absurd c (by decide +kernel)) (Or.inl ⟨by rfl, ?_⟩) (fun hShut => ?_)
          case refine_2 => (rintro wz -; go_simp; try with_reducible rfl)
          try simp only [Act.put, List.getElem_toArray, List.getElem_cons_zero, List.getElem_cons_succ, List.setIfInBounds_toArray, List.set_cons_zero, List.set_cons_succ]
          refine anyB_takeW (i := 40) (v := ?_) rfl (by kernel_rfl) (by kernel_rfl) (by kernel_rfl) (by kernel_rfl) (fun _ _ _ h => h) hShut (fun c => absurd c (by decide +kernel)) (Or.inl ⟨by rfl, ?_⟩) (fun hShut => ?_)
          case refine_2 => (rintro wz -; go_simp; try with_reducible rfl)
          try simp only [Act.put, List.getElem_toArray, List.getElem_cons_zero, List.getElem_cons_succ, List.setIfInBounds_toArray, List.set_cons_zero, List.set_cons_succ]
          refine anyB_each (rs := [41]) hShut (by kernel_rfl) (by simp) ?_
          refine List.forall_mem_cons.2 ⟨fun hShut => wpOp_step rfl (fun K hK => ?_), fun _ h => by cases h⟩
          (try rw [if_pos (by rfl)])
          go_simp
          refine unheld hK (by kernel_rfl) ?_
          clear hK K
          refine anyB_done (by kernel_rfl) ?_ _
          have HD := Lib.hid ((((hd.hd.set_ 0 (.slice A1 (k + 1) C1)).set_ 1 (.slice A2 (k + 1) C2)).set_ 2 (.slice A3 (k + 1) C3)).set_ 3 (.slice A4 (k + 1) C4))
          have HB := Lib.hid ((((hd.be.setCell (p := ⟨w.heap.size, 0, none⟩) (Nat.le_refl _) (.slice A1 (k + 1) C1)).setCell (p := ⟨w.heap.size, 1, none⟩) (Nat.le_refl _) (.slice A2 (k + 1) C2)).setCell (p := ⟨w.heap.size, 2, none⟩) (Nat.le_refl _) (.slice A3 (k + 1) C3)).setCell (p := ⟨w.heap.size, 3, none⟩) (Nat.le_refl _) (.slice A4 (k + 1) C4))
          have R1 := Lib.hid (rows_set_ (i := 3) (u := (.slice A4 (k + 1) C4)) (rows_set_ (i := 2) (u := (.slice A3 (k + 1) C3)) (rows_set_ (i := 1) (u := (.slice A2 (k + 1) C2)) (rows_set_ (i := 0) (u := (.slice A1 (k + 1) C1)) r1 (Nat.lt_succ_self _)) (Nat.lt_succ_self _)) (Nat.lt_succ_self _)) (Nat.lt_succ_self _))
          have R2 := Lib.hid (rows_set_ (i := 3) (u := (.slice A4 (k + 1) C4)) (rows_set_ (i := 2) (u := (.slice A3 (k + 1) C3)) (rows_set_ (i := 1) (u := (.slice A2 (k + 1) C2)) (rows_set_ (i := 0) (u := (.slice A1 (k + 1) C1)) r2 (Nat.lt_succ_self _)) (Nat.lt_succ_self _)) (Nat.lt_succ_self _)) (Nat.lt_succ_self _))
          have R3 := Lib.hid (rows_set_ (i := 3) (u := (.slice A4 (k + 1) C4)) (rows_set_ (i := 2) (u := (.slice A3 (k + 1) C3)) (rows_set_ (i := 1) (u := (.slice A2 (k + 1) C2)) (rows_set_ (i := 0) (u := (.slice A1 (k + 1) C1)) r3 (Nat.lt_succ_self _)) (Nat.lt_succ_self _)) (Nat.lt_succ_self _)) (Nat.lt_succ_self _))
          have R4 := Lib.hid (rows_set_ (i := 3) (u := (.slice A4 (k + 1) C4)) (rows_set_ (i := 2) (u := (.slice A3 (k + 1) C3)) (rows_set_ (i := 1) (u := (.slice A2 (k + 1) C2)) (rows_set_ (i := 0) (u := (.slice A1 (k + 1) C1)) r4 (Nat.lt_succ_self _)) (Nat.lt_succ_self _)) (Nat.lt_succ_self _)) (Nat.lt_succ_self _))
          clear c0 c1 c2 c3 zf zs hd hHeld r1 r2 r3 r4
          go_wp2
          go_roundw
          case rel => exact ⟨k + 1, _, _, _, _, by omega, by go_num, ⟨HD.out, R1.out, R2.out, R3.out, R4.out⟩, HB.out⟩
          case measure => simp [intOf]; omega
    · obtain rfl : k = n := by omega
      have H := Lib.hid hs
      have HB := Lib.hid hbr
      clear hs hbr
      go_wp2
      go_ret
      exact ⟨_, _, _, _, _, rfl, Nat.le_refl _, H.out, HB.out⟩
end Go.Proofs.Ytjhcppiamkkdbaa
