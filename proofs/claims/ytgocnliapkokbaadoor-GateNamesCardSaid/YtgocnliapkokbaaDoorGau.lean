/- The names of answers; a config with a few tiers; the example of the document. -/
import Derived.Test.YtgocnliapkokbaaDoorGat
import Derived.LoopTactic
import Derived.Deep.LoopGhost
namespace Go.Proofs.YtgocnliapkokbaaDoor
open Go.ChangeShapes Go.WideShapes Go.ChangeAt Go.RowKit Kn
set_option linter.unusedVariables false
set_option linter.unusedSimpArgs false
def nmL : List (List UInt8) := [[97, 100, 109, 105, 116, 116, 101, 100], [105, 110, 118, 97, 108, 105, 100], [101, 120, 112, 105, 114, 101, 100], [99, 117, 116, 111, 102, 102], [102, 117, 108, 108], [100, 114, 97, 105, 110, 105, 110, 103], [100, 105, 115, 112, 97, 116, 99, 104, 101, 100], [101, 109, 112, 116, 121], [99, 108, 111, 115, 101, 100], [100, 111, 110, 101], [98, 117, 115, 121]]
def nmB (k : Nat) : ByteArray := ⟨(nmL.getD k []).toArray⟩
/-- The table of names lies there. -/
def NamesAt (w : World) : Prop := ∀ k, k < 11 → w.cell? ⟨0, k, none⟩ = some (.string (nmB k))
theorem cell_in {w : World} {g k : Nat} {v : Value} (h : w.cell? ⟨g, k, none⟩ = some v) : g < w.heap.size := klt h
theorem NamesAt.below {w w' : World} (h : NamesAt w) (hb : Below w.heap.size w w') : NamesAt w' := fun k hk => (hb.cell (cell_in (h k hk))).trans (h k hk)
theorem gname_yes (m : Int) (k : Nat) (hk : k < 11) (hm : m = (k : Int) + 1) (w : World) (hN : NamesAt w) :
    Calls Tryd.prog 23 #[.int .u8 m] w fun e w' => e = .returned (.string (nmB k)) ∧ w = w' := by
  have x0 := hN k hk
  have x1 : IntKind.u8.wrap (m - 1) = (k : Int) := by simp [IntKind.wrap, IntKind.signed, IntKind.bits]; omega
  have x2 : ¬ m < 1 := by omega
  have x3 : ¬ 11 < m := by omega
  have x4 : (0 : Int) ≤ (k : Int) := by omega
  have x5 : (k : Int) < 11 := by omega
  obtain ⟨s, hs⟩ : ∃ s, nmB k = s := ⟨_, rfl⟩
  rw [hs] at x0 ⊢
  clear hm hN hs
  go_enter Tryd.func23, Tryd.ntmps23
  go_wp2_with fail
  go_ret
  exact ⟨rfl, rfl⟩
theorem gname_no (m : Int) (h : m < 1 ∨ 11 < m) (w : World) :
    Calls Tryd.prog 23 #[.int .u8 m] w fun e w' => e = .returned (.string ⟨#[]⟩) ∧ w = w' := by
  rcases h with h | h
  · have h2 : ¬ 11 < m := by omega
    go_enter Tryd.func23, Tryd.ntmps23
    go_wp2_with fail
    go_ret
    exact ⟨rfl, rfl⟩
  · have h2 : ¬ m < 1 := by omega
    go_enter Tryd.func23, Tryd.ntmps23
    go_wp2_with fail
    go_ret
    exact ⟨rfl, rfl⟩
set_option maxHeartbeats 2000000 in
theorem few_any (t d h : Int) (t0 : 0 ≤ t) (hd : t % 8 = d) (w : World) :
    Calls Tryd.prog 9 #[.int .u8 t, .int .i64 h] w fun e w' => e = .returned (.agg #[.int .i64 (1 + d), .int .i64 64, .int .i64 5, .int .i64 100, .int .i64 50, .int .i64 10, .int .i64 20, .int .i64 h, .int .i64 2147483648, .int .i64 4294967296, .int .i64 1073741824, .int .i64 0, .int .i64 1099511627776, .int .i64 64, .int .i64 4, .int .i64 4]) ∧ Below w.heap.size w w' := by
  have f1 : t.tmod 8 = d := by rw [Int.tmod_eq_emod_of_nonneg t0]; exact hd
  have f2 : IntKind.u8.wrap d = d := by
    have : IntKind.u8.wrap d = d % 256 := by simp [IntKind.wrap, IntKind.signed, IntKind.bits]
    rw [this]; omega
  have f3 : IntKind.i64.wrap d = d := by rw [IntKind.wrap_i64]; omega
  have f4 : IntKind.i64.wrap (1 + d) = 1 + d := by rw [IntKind.wrap_i64]; omega
  clear hd
  go_enter Tryd.func9, Tryd.ntmps9
  go_upto_region 1 with fail
  refine wp_worldx (fun wx => Bxs w wx [(w.heap.size, 25, [.int .i64 0, .int .i64 0, .int .i64 0, .int .i64 0, .int .i64 0, .int .i64 0, .int .i64 0, .int .i64 0, .int .i64 0, .int .i64 0, .int .i64 0, .int .i64 0, .int .i64 0, .int .i64 0, .int .i64 0, .int .i64 0])]) ((Bxs.nil_ w).alloc_ _ _ (by simp)) ?_
  rintro x1 bx
  have BX := Lib.hid bx
  clear bx
  have p0_0 : x1.cell? ⟨w.heap.size, 0, none⟩ = some (.int .i64 0) := (BX.out.bl 0 _ _ _ rfl).val rfl
  have p0_1 : x1.cell? ⟨w.heap.size, 1, none⟩ = some (.int .i64 0) := (BX.out.bl 0 _ _ _ rfl).val rfl
  have p0_2 : x1.cell? ⟨w.heap.size, 2, none⟩ = some (.int .i64 0) := (BX.out.bl 0 _ _ _ rfl).val rfl
  have p0_3 : x1.cell? ⟨w.heap.size, 3, none⟩ = some (.int .i64 0) := (BX.out.bl 0 _ _ _ rfl).val rfl
  have p0_4 : x1.cell? ⟨w.heap.size, 4, none⟩ = some (.int .i64 0) := (BX.out.bl 0 _ _ _ rfl).val rfl
  have p0_5 : x1.cell? ⟨w.heap.size, 5, none⟩ = some (.int .i64 0) := (BX.out.bl 0 _ _ _ rfl).val rfl
  have p0_6 : x1.cell? ⟨w.heap.size, 6, none⟩ = some (.int .i64 0) := (BX.out.bl 0 _ _ _ rfl).val rfl
  have p0_7 : x1.cell? ⟨w.heap.size, 7, none⟩ = some (.int .i64 0) := (BX.out.bl 0 _ _ _ rfl).val rfl
  have p0_8 : x1.cell? ⟨w.heap.size, 8, none⟩ = some (.int .i64 0) := (BX.out.bl 0 _ _ _ rfl).val rfl
  have p0_9 : x1.cell? ⟨w.heap.size, 9, none⟩ = some (.int .i64 0) := (BX.out.bl 0 _ _ _ rfl).val rfl
  have p0_10 : x1.cell? ⟨w.heap.size, 10, none⟩ = some (.int .i64 0) := (BX.out.bl 0 _ _ _ rfl).val rfl
  have p0_11 : x1.cell? ⟨w.heap.size, 11, none⟩ = some (.int .i64 0) := (BX.out.bl 0 _ _ _ rfl).val rfl
  have p0_12 : x1.cell? ⟨w.heap.size, 12, none⟩ = some (.int .i64 0) := (BX.out.bl 0 _ _ _ rfl).val rfl
  have p0_13 : x1.cell? ⟨w.heap.size, 13, none⟩ = some (.int .i64 0) := (BX.out.bl 0 _ _ _ rfl).val rfl
  have p0_14 : x1.cell? ⟨w.heap.size, 14, none⟩ = some (.int .i64 0) := (BX.out.bl 0 _ _ _ rfl).val rfl
  have p0_15 : x1.cell? ⟨w.heap.size, 15, none⟩ = some (.int .i64 0) := (BX.out.bl 0 _ _ _ rfl).val rfl
  have z0 : ∀ k, x1.frozen? ⟨w.heap.size, k, none⟩ = false := (BX.out.bl 0 _ _ _ rfl).free
  have y0 : w.heap.size < x1.heap.size := (BX.out.bl 0 _ _ _ rfl).size
  go_wp2_with fail
  refine (cdef_any _).mono ?_
  rintro e x2 ⟨rfl, hb⟩
  have bx : Bxs w x2 [(w.heap.size, 25, [.int .i64 0, .int .i64 0, .int .i64 0, .int .i64 0, .int .i64 0, .int .i64 0, .int .i64 0, .int .i64 0, .int .i64 0, .int .i64 0, .int .i64 0, .int .i64 0, .int .i64 0, .int .i64 0, .int .i64 0, .int .i64 0])] := (BX.out).below hb
  clear p0_0 p0_1 p0_2 p0_3 p0_4 p0_5 p0_6 p0_7 p0_8 p0_9 p0_10 p0_11 p0_12 p0_13 p0_14 p0_15 z0 y0
  clear hb BX
  have BX := Lib.hid bx
  clear bx
  have p0_0 : x2.cell? ⟨w.heap.size, 0, none⟩ = some (.int .i64 0) := (BX.out.bl 0 _ _ _ rfl).val rfl
  have p0_1 : x2.cell? ⟨w.heap.size, 1, none⟩ = some (.int .i64 0) := (BX.out.bl 0 _ _ _ rfl).val rfl
  have p0_2 : x2.cell? ⟨w.heap.size, 2, none⟩ = some (.int .i64 0) := (BX.out.bl 0 _ _ _ rfl).val rfl
  have p0_3 : x2.cell? ⟨w.heap.size, 3, none⟩ = some (.int .i64 0) := (BX.out.bl 0 _ _ _ rfl).val rfl
  have p0_4 : x2.cell? ⟨w.heap.size, 4, none⟩ = some (.int .i64 0) := (BX.out.bl 0 _ _ _ rfl).val rfl
  have p0_5 : x2.cell? ⟨w.heap.size, 5, none⟩ = some (.int .i64 0) := (BX.out.bl 0 _ _ _ rfl).val rfl
  have p0_6 : x2.cell? ⟨w.heap.size, 6, none⟩ = some (.int .i64 0) := (BX.out.bl 0 _ _ _ rfl).val rfl
  have p0_7 : x2.cell? ⟨w.heap.size, 7, none⟩ = some (.int .i64 0) := (BX.out.bl 0 _ _ _ rfl).val rfl
  have p0_8 : x2.cell? ⟨w.heap.size, 8, none⟩ = some (.int .i64 0) := (BX.out.bl 0 _ _ _ rfl).val rfl
  have p0_9 : x2.cell? ⟨w.heap.size, 9, none⟩ = some (.int .i64 0) := (BX.out.bl 0 _ _ _ rfl).val rfl
  have p0_10 : x2.cell? ⟨w.heap.size, 10, none⟩ = some (.int .i64 0) := (BX.out.bl 0 _ _ _ rfl).val rfl
  have p0_11 : x2.cell? ⟨w.heap.size, 11, none⟩ = some (.int .i64 0) := (BX.out.bl 0 _ _ _ rfl).val rfl
  have p0_12 : x2.cell? ⟨w.heap.size, 12, none⟩ = some (.int .i64 0) := (BX.out.bl 0 _ _ _ rfl).val rfl
  have p0_13 : x2.cell? ⟨w.heap.size, 13, none⟩ = some (.int .i64 0) := (BX.out.bl 0 _ _ _ rfl).val rfl
  have p0_14 : x2.cell? ⟨w.heap.size, 14, none⟩ = some (.int .i64 0) := (BX.out.bl 0 _ _ _ rfl).val rfl
  have p0_15 : x2.cell? ⟨w.heap.size, 15, none⟩ = some (.int .i64 0) := (BX.out.bl 0 _ _ _ rfl).val rfl
  have z0 : ∀ k, x2.frozen? ⟨w.heap.size, k, none⟩ = false := (BX.out.bl 0 _ _ _ rfl).free
  have y0 : w.heap.size < x2.heap.size := (BX.out.bl 0 _ _ _ rfl).size
  go_upto_region 2 with fail
  clear p0_0 p0_1 p0_2 p0_3 p0_4 p0_5 p0_6 p0_7 p0_8 p0_9 p0_10 p0_11 p0_12 p0_13 p0_14 p0_15 z0 y0
  refine wp_worldx (fun wx => Bxs w wx [(w.heap.size, 25, [.int .i64 0, .int .i64 0, .int .i64 0, .int .i64 0, .int .i64 0, .int .i64 0, .int .i64 0, .int .i64 0, .int .i64 0, .int .i64 0, .int .i64 0, .int .i64 0, .int .i64 0, .int .i64 0, .int .i64 0, .int .i64 0]), (x2.heap.size, 25, [.int .i64 4, .int .i64 64, .int .i64 5, .int .i64 100, .int .i64 50, .int .i64 10, .int .i64 20, .int .i64 1000, .int .i64 2147483648, .int .i64 4294967296, .int .i64 1073741824, .int .i64 0, .int .i64 1099511627776, .int .i64 64, .int .i64 4, .int .i64 4])]) ((BX.out).alloc_ _ _ (by simp)) ?_
  clear BX
  rintro x3 bx
  have BX := Lib.hid bx
  clear bx
  have p0_0 : x3.cell? ⟨w.heap.size, 0, none⟩ = some (.int .i64 0) := (BX.out.bl 0 _ _ _ rfl).val rfl
  have p0_1 : x3.cell? ⟨w.heap.size, 1, none⟩ = some (.int .i64 0) := (BX.out.bl 0 _ _ _ rfl).val rfl
  have p0_2 : x3.cell? ⟨w.heap.size, 2, none⟩ = some (.int .i64 0) := (BX.out.bl 0 _ _ _ rfl).val rfl
  have p0_3 : x3.cell? ⟨w.heap.size, 3, none⟩ = some (.int .i64 0) := (BX.out.bl 0 _ _ _ rfl).val rfl
  have p0_4 : x3.cell? ⟨w.heap.size, 4, none⟩ = some (.int .i64 0) := (BX.out.bl 0 _ _ _ rfl).val rfl
  have p0_5 : x3.cell? ⟨w.heap.size, 5, none⟩ = some (.int .i64 0) := (BX.out.bl 0 _ _ _ rfl).val rfl
  have p0_6 : x3.cell? ⟨w.heap.size, 6, none⟩ = some (.int .i64 0) := (BX.out.bl 0 _ _ _ rfl).val rfl
  have p0_7 : x3.cell? ⟨w.heap.size, 7, none⟩ = some (.int .i64 0) := (BX.out.bl 0 _ _ _ rfl).val rfl
  have p0_8 : x3.cell? ⟨w.heap.size, 8, none⟩ = some (.int .i64 0) := (BX.out.bl 0 _ _ _ rfl).val rfl
  have p0_9 : x3.cell? ⟨w.heap.size, 9, none⟩ = some (.int .i64 0) := (BX.out.bl 0 _ _ _ rfl).val rfl
  have p0_10 : x3.cell? ⟨w.heap.size, 10, none⟩ = some (.int .i64 0) := (BX.out.bl 0 _ _ _ rfl).val rfl
  have p0_11 : x3.cell? ⟨w.heap.size, 11, none⟩ = some (.int .i64 0) := (BX.out.bl 0 _ _ _ rfl).val rfl
  have p0_12 : x3.cell? ⟨w.heap.size, 12, none⟩ = some (.int .i64 0) := (BX.out.bl 0 _ _ _ rfl).val rfl
  have p0_13 : x3.cell? ⟨w.heap.size, 13, none⟩ = some (.int .i64 0) := (BX.out.bl 0 _ _ _ rfl).val rfl
  have p0_14 : x3.cell? ⟨w.heap.size, 14, none⟩ = some (.int .i64 0) := (BX.out.bl 0 _ _ _ rfl).val rfl
  have p0_15 : x3.cell? ⟨w.heap.size, 15, none⟩ = some (.int .i64 0) := (BX.out.bl 0 _ _ _ rfl).val rfl
  have z0 : ∀ k, x3.frozen? ⟨w.heap.size, k, none⟩ = false := (BX.out.bl 0 _ _ _ rfl).free
  have y0 : w.heap.size < x3.heap.size := (BX.out.bl 0 _ _ _ rfl).size
  have p1_0 : x3.cell? ⟨x2.heap.size, 0, none⟩ = some (.int .i64 4) := (BX.out.bl 1 _ _ _ rfl).val rfl
  have p1_1 : x3.cell? ⟨x2.heap.size, 1, none⟩ = some (.int .i64 64) := (BX.out.bl 1 _ _ _ rfl).val rfl
  have p1_2 : x3.cell? ⟨x2.heap.size, 2, none⟩ = some (.int .i64 5) := (BX.out.bl 1 _ _ _ rfl).val rfl
  have p1_3 : x3.cell? ⟨x2.heap.size, 3, none⟩ = some (.int .i64 100) := (BX.out.bl 1 _ _ _ rfl).val rfl
  have p1_4 : x3.cell? ⟨x2.heap.size, 4, none⟩ = some (.int .i64 50) := (BX.out.bl 1 _ _ _ rfl).val rfl
  have p1_5 : x3.cell? ⟨x2.heap.size, 5, none⟩ = some (.int .i64 10) := (BX.out.bl 1 _ _ _ rfl).val rfl
  have p1_6 : x3.cell? ⟨x2.heap.size, 6, none⟩ = some (.int .i64 20) := (BX.out.bl 1 _ _ _ rfl).val rfl
  have p1_7 : x3.cell? ⟨x2.heap.size, 7, none⟩ = some (.int .i64 1000) := (BX.out.bl 1 _ _ _ rfl).val rfl
  have p1_8 : x3.cell? ⟨x2.heap.size, 8, none⟩ = some (.int .i64 2147483648) := (BX.out.bl 1 _ _ _ rfl).val rfl
  have p1_9 : x3.cell? ⟨x2.heap.size, 9, none⟩ = some (.int .i64 4294967296) := (BX.out.bl 1 _ _ _ rfl).val rfl
  have p1_10 : x3.cell? ⟨x2.heap.size, 10, none⟩ = some (.int .i64 1073741824) := (BX.out.bl 1 _ _ _ rfl).val rfl
  have p1_11 : x3.cell? ⟨x2.heap.size, 11, none⟩ = some (.int .i64 0) := (BX.out.bl 1 _ _ _ rfl).val rfl
  have p1_12 : x3.cell? ⟨x2.heap.size, 12, none⟩ = some (.int .i64 1099511627776) := (BX.out.bl 1 _ _ _ rfl).val rfl
  have p1_13 : x3.cell? ⟨x2.heap.size, 13, none⟩ = some (.int .i64 64) := (BX.out.bl 1 _ _ _ rfl).val rfl
  have p1_14 : x3.cell? ⟨x2.heap.size, 14, none⟩ = some (.int .i64 4) := (BX.out.bl 1 _ _ _ rfl).val rfl
  have p1_15 : x3.cell? ⟨x2.heap.size, 15, none⟩ = some (.int .i64 4) := (BX.out.bl 1 _ _ _ rfl).val rfl
  have z1 : ∀ k, x3.frozen? ⟨x2.heap.size, k, none⟩ = false := (BX.out.bl 1 _ _ _ rfl).free
  have y1 : x2.heap.size < x3.heap.size := (BX.out.bl 1 _ _ _ rfl).size
  go_upto_region 3 with fail
  clear p0_0 p0_1 p0_2 p0_3 p0_4 p0_5 p0_6 p0_7 p0_8 p0_9 p0_10 p0_11 p0_12 p0_13 p0_14 p0_15 z0 y0 p1_0 p1_1 p1_2 p1_3 p1_4 p1_5 p1_6 p1_7 p1_8 p1_9 p1_10 p1_11 p1_12 p1_13 p1_14 p1_15 z1 y1
  refine wp_worldx (fun wx => Bxs w wx [(w.heap.size, 25, [.int .i64 0, .int .i64 0, .int .i64 0, .int .i64 0, .int .i64 0, .int .i64 0, .int .i64 0, .int .i64 0, .int .i64 0, .int .i64 0, .int .i64 0, .int .i64 0, .int .i64 0, .int .i64 0, .int .i64 0, .int .i64 0]), (x2.heap.size, 25, [.int .i64 (1 + d), .int .i64 64, .int .i64 5, .int .i64 100, .int .i64 50, .int .i64 10, .int .i64 20, .int .i64 h, .int .i64 2147483648, .int .i64 4294967296, .int .i64 1073741824, .int .i64 0, .int .i64 1099511627776, .int .i64 64, .int .i64 4, .int .i64 4])]) (((BX.out).set_ 1 0 rfl _).set_ 1 7 rfl _) ?_
  clear BX
  rintro x4 bx
  have BX := Lib.hid bx
  clear bx
  have p0_0 : x4.cell? ⟨w.heap.size, 0, none⟩ = some (.int .i64 0) := (BX.out.bl 0 _ _ _ rfl).val rfl
  have p0_1 : x4.cell? ⟨w.heap.size, 1, none⟩ = some (.int .i64 0) := (BX.out.bl 0 _ _ _ rfl).val rfl
  have p0_2 : x4.cell? ⟨w.heap.size, 2, none⟩ = some (.int .i64 0) := (BX.out.bl 0 _ _ _ rfl).val rfl
  have p0_3 : x4.cell? ⟨w.heap.size, 3, none⟩ = some (.int .i64 0) := (BX.out.bl 0 _ _ _ rfl).val rfl
  have p0_4 : x4.cell? ⟨w.heap.size, 4, none⟩ = some (.int .i64 0) := (BX.out.bl 0 _ _ _ rfl).val rfl
  have p0_5 : x4.cell? ⟨w.heap.size, 5, none⟩ = some (.int .i64 0) := (BX.out.bl 0 _ _ _ rfl).val rfl
  have p0_6 : x4.cell? ⟨w.heap.size, 6, none⟩ = some (.int .i64 0) := (BX.out.bl 0 _ _ _ rfl).val rfl
  have p0_7 : x4.cell? ⟨w.heap.size, 7, none⟩ = some (.int .i64 0) := (BX.out.bl 0 _ _ _ rfl).val rfl
  have p0_8 : x4.cell? ⟨w.heap.size, 8, none⟩ = some (.int .i64 0) := (BX.out.bl 0 _ _ _ rfl).val rfl
  have p0_9 : x4.cell? ⟨w.heap.size, 9, none⟩ = some (.int .i64 0) := (BX.out.bl 0 _ _ _ rfl).val rfl
  have p0_10 : x4.cell? ⟨w.heap.size, 10, none⟩ = some (.int .i64 0) := (BX.out.bl 0 _ _ _ rfl).val rfl
  have p0_11 : x4.cell? ⟨w.heap.size, 11, none⟩ = some (.int .i64 0) := (BX.out.bl 0 _ _ _ rfl).val rfl
  have p0_12 : x4.cell? ⟨w.heap.size, 12, none⟩ = some (.int .i64 0) := (BX.out.bl 0 _ _ _ rfl).val rfl
  have p0_13 : x4.cell? ⟨w.heap.size, 13, none⟩ = some (.int .i64 0) := (BX.out.bl 0 _ _ _ rfl).val rfl
  have p0_14 : x4.cell? ⟨w.heap.size, 14, none⟩ = some (.int .i64 0) := (BX.out.bl 0 _ _ _ rfl).val rfl
  have p0_15 : x4.cell? ⟨w.heap.size, 15, none⟩ = some (.int .i64 0) := (BX.out.bl 0 _ _ _ rfl).val rfl
  have z0 : ∀ k, x4.frozen? ⟨w.heap.size, k, none⟩ = false := (BX.out.bl 0 _ _ _ rfl).free
  have y0 : w.heap.size < x4.heap.size := (BX.out.bl 0 _ _ _ rfl).size
  have p1_0 : x4.cell? ⟨x2.heap.size, 0, none⟩ = some (.int .i64 (1 + d)) := (BX.out.bl 1 _ _ _ rfl).val rfl
  have p1_1 : x4.cell? ⟨x2.heap.size, 1, none⟩ = some (.int .i64 64) := (BX.out.bl 1 _ _ _ rfl).val rfl
  have p1_2 : x4.cell? ⟨x2.heap.size, 2, none⟩ = some (.int .i64 5) := (BX.out.bl 1 _ _ _ rfl).val rfl
  have p1_3 : x4.cell? ⟨x2.heap.size, 3, none⟩ = some (.int .i64 100) := (BX.out.bl 1 _ _ _ rfl).val rfl
  have p1_4 : x4.cell? ⟨x2.heap.size, 4, none⟩ = some (.int .i64 50) := (BX.out.bl 1 _ _ _ rfl).val rfl
  have p1_5 : x4.cell? ⟨x2.heap.size, 5, none⟩ = some (.int .i64 10) := (BX.out.bl 1 _ _ _ rfl).val rfl
  have p1_6 : x4.cell? ⟨x2.heap.size, 6, none⟩ = some (.int .i64 20) := (BX.out.bl 1 _ _ _ rfl).val rfl
  have p1_7 : x4.cell? ⟨x2.heap.size, 7, none⟩ = some (.int .i64 h) := (BX.out.bl 1 _ _ _ rfl).val rfl
  have p1_8 : x4.cell? ⟨x2.heap.size, 8, none⟩ = some (.int .i64 2147483648) := (BX.out.bl 1 _ _ _ rfl).val rfl
  have p1_9 : x4.cell? ⟨x2.heap.size, 9, none⟩ = some (.int .i64 4294967296) := (BX.out.bl 1 _ _ _ rfl).val rfl
  have p1_10 : x4.cell? ⟨x2.heap.size, 10, none⟩ = some (.int .i64 1073741824) := (BX.out.bl 1 _ _ _ rfl).val rfl
  have p1_11 : x4.cell? ⟨x2.heap.size, 11, none⟩ = some (.int .i64 0) := (BX.out.bl 1 _ _ _ rfl).val rfl
  have p1_12 : x4.cell? ⟨x2.heap.size, 12, none⟩ = some (.int .i64 1099511627776) := (BX.out.bl 1 _ _ _ rfl).val rfl
  have p1_13 : x4.cell? ⟨x2.heap.size, 13, none⟩ = some (.int .i64 64) := (BX.out.bl 1 _ _ _ rfl).val rfl
  have p1_14 : x4.cell? ⟨x2.heap.size, 14, none⟩ = some (.int .i64 4) := (BX.out.bl 1 _ _ _ rfl).val rfl
  have p1_15 : x4.cell? ⟨x2.heap.size, 15, none⟩ = some (.int .i64 4) := (BX.out.bl 1 _ _ _ rfl).val rfl
  have z1 : ∀ k, x4.frozen? ⟨x2.heap.size, k, none⟩ = false := (BX.out.bl 1 _ _ _ rfl).free
  have y1 : x2.heap.size < x4.heap.size := (BX.out.bl 1 _ _ _ rfl).size
  go_wp2_with fail
  refine bodyPost_ret (v := .agg #[.int .i64 (1 + d), .int .i64 64, .int .i64 5, .int .i64 100, .int .i64 50, .int .i64 10, .int .i64 20, .int .i64 h, .int .i64 2147483648, .int .i64 4294967296, .int .i64 1073741824, .int .i64 0, .int .i64 1099511627776, .int .i64 64, .int .i64 4, .int .i64 4]) (by simp [results, Tryd.results9, go_sem, *]) rfl ⟨rfl, ?_⟩
  exact (((((((((((((((((BX.out).set_ 0 0 rfl _).set_ 0 1 rfl _).set_ 0 2 rfl _).set_ 0 3 rfl _).set_ 0 4 rfl _).set_ 0 5 rfl _).set_ 0 6 rfl _).set_ 0 7 rfl _).set_ 0 8 rfl _).set_ 0 9 rfl _).set_ 0 10 rfl _).set_ 0 11 rfl _).set_ 0 12 rfl _).set_ 0 13 rfl _).set_ 0 14 rfl _).set_ 0 15 rfl _).be
theorem judge_few (n h l now t k d : Int) (h1 : n ≤ 1000) (l0 : -9223372036854775808 ≤ l) (l1 : l ≤ 9223372036854775807) (w : World) :
    Calls Tryd.prog 16 #[.agg #[.int .i64 n, .int .i64 64, .int .i64 5, .int .i64 100, .int .i64 50, .int .i64 10, .int .i64 20, .int .i64 h, .int .i64 2147483648, .int .i64 4294967296, .int .i64 1073741824, .int .i64 0, .int .i64 1099511627776, .int .i64 64, .int .i64 4, .int .i64 4], .int .i64 l, .int .i64 now, .int .i64 t, .int .i64 k, .int .i64 d] w fun e w' => e = .returned (.int .u8 (judgeG n l now t k d)) ∧ Below w.heap.size w w' := gjudge_any ⟨n, 64, 5, 100, 50, 10, 20, h, 2147483648, 4294967296, 1073741824, 0, 1099511627776, 64, 4, 4⟩ l now t k d h1 l0 l1 w
theorem right_few (n h t k : Int) (w : World) :
    Calls Tryd.prog 10 #[.agg #[.int .i64 n, .int .i64 64, .int .i64 5, .int .i64 100, .int .i64 50, .int .i64 10, .int .i64 20, .int .i64 h, .int .i64 2147483648, .int .i64 4294967296, .int .i64 1073741824, .int .i64 0, .int .i64 1099511627776, .int .i64 64, .int .i64 4, .int .i64 4], .int .i64 t, .int .i64 k] w fun e w' => e = .returned (.bool (rightG n t k)) ∧ Below w.heap.size w w' := gright_any ⟨n, 64, 5, 100, 50, 10, 20, h, 2147483648, 4294967296, 1073741824, 0, 1099511627776, 64, 4, 4⟩ t k w
theorem edge_few (n h l : Int) (h0 : 0 ≤ n) (h1 : n ≤ 1000) (l0 : -9223372036854775808 ≤ l) (l1 : l ≤ 9223372036854775807) (w : World) :
    Calls Tryd.prog 12 #[.agg #[.int .i64 n, .int .i64 64, .int .i64 5, .int .i64 100, .int .i64 50, .int .i64 10, .int .i64 20, .int .i64 h, .int .i64 2147483648, .int .i64 4294967296, .int .i64 1073741824, .int .i64 0, .int .i64 1099511627776, .int .i64 64, .int .i64 4, .int .i64 4], .int .i64 l] w fun e w' => e = .returned (.int .i64 (edgeG n l)) ∧ Below w.heap.size w w' := gedge_any ⟨n, 64, 5, 100, 50, 10, 20, h, 2147483648, 4294967296, 1073741824, 0, 1099511627776, 64, 4, 4⟩ l h0 h1 l0 l1 w
theorem most_few (n h : Int) (h0 : 0 ≤ n) (h1 : n ≤ 1000) (w : World) :
    Calls Tryd.prog 20 #[.agg #[.int .i64 n, .int .i64 64, .int .i64 5, .int .i64 100, .int .i64 50, .int .i64 10, .int .i64 20, .int .i64 h, .int .i64 2147483648, .int .i64 4294967296, .int .i64 1073741824, .int .i64 0, .int .i64 1099511627776, .int .i64 64, .int .i64 4, .int .i64 4]] w fun e w' => e = .returned (.int .i64 (n * 128)) ∧ Below w.heap.size w w' := cmost_any ⟨n, 64, 5, 100, 50, 10, 20, h, 2147483648, 4294967296, 1073741824, 0, 1099511627776, 64, 4, 4⟩ h0 h1 w
theorem dead_few (n h now d : Int) (n0 : -9223372036854775808 ≤ now) (n1 : now ≤ 9223372036854775807) (h0 : -9223372036854775808 ≤ h) (h1 : h ≤ 9223372036854775807) (w : World) :
    Calls Tryd.prog 14 #[.agg #[.int .i64 n, .int .i64 64, .int .i64 5, .int .i64 100, .int .i64 50, .int .i64 10, .int .i64 20, .int .i64 h, .int .i64 2147483648, .int .i64 4294967296, .int .i64 1073741824, .int .i64 0, .int .i64 1099511627776, .int .i64 64, .int .i64 4, .int .i64 4], .int .i64 now, .int .i64 d] w fun e w' => e = .returned (.int .i64 (deadG h now d)) ∧ Below w.heap.size w w' := gdead_any ⟨n, 64, 5, 100, 50, 10, 20, h, 2147483648, 4294967296, 1073741824, 0, 1099511627776, 64, 4, 4⟩ now d n0 n1 h0 h1 w
set_option maxRecDepth 10000 in
set_option maxHeartbeats 2000000 in
theorem awake14 (w : World) (hN : NamesAt w) :
    Calls Tryd.prog 8 #[] w fun e w' => e = .returned (.bool true) ∧ Below w.heap.size w w' := by
  have j1 : judgeG 4 128 0 3 0 9 = 4 := by decide
  have j2 : judgeG 4 128 0 2 127 9 = 0 := by decide
  have HJ := Lib.hid (And.intro j1 j2)
  have HN := Lib.hid hN
  clear hN j1 j2
  go_enter Tryd.func8, Tryd.ntmps8
  go_wp2_with fail
  refine (cdef_any _).mono ?_
  rintro e x1 ⟨rfl, hb⟩
  have bx : Bxs w x1 [] := (Bxs.nil_ w).below hb
  clear hb
  have BX := Lib.hid bx
  clear bx
  go_upto_region 2 with fail
  refine wp_worldx (fun wx => Bxs w wx [(x1.heap.size, 25, [.int .i64 4, .int .i64 64, .int .i64 5, .int .i64 100, .int .i64 50, .int .i64 10, .int .i64 20, .int .i64 1000, .int .i64 2147483648, .int .i64 4294967296, .int .i64 1073741824, .int .i64 0, .int .i64 1099511627776, .int .i64 64, .int .i64 4, .int .i64 4])]) ((BX.out).alloc_ _ _ (by simp)) ?_
  clear BX
  rintro x2 bx
  have BX := Lib.hid bx
  clear bx
  have p0_0 : x2.cell? ⟨x1.heap.size, 0, none⟩ = some (.int .i64 4) := (BX.out.bl 0 _ _ _ rfl).val rfl
  have p0_1 : x2.cell? ⟨x1.heap.size, 1, none⟩ = some (.int .i64 64) := (BX.out.bl 0 _ _ _ rfl).val rfl
  have p0_2 : x2.cell? ⟨x1.heap.size, 2, none⟩ = some (.int .i64 5) := (BX.out.bl 0 _ _ _ rfl).val rfl
  have p0_3 : x2.cell? ⟨x1.heap.size, 3, none⟩ = some (.int .i64 100) := (BX.out.bl 0 _ _ _ rfl).val rfl
  have p0_4 : x2.cell? ⟨x1.heap.size, 4, none⟩ = some (.int .i64 50) := (BX.out.bl 0 _ _ _ rfl).val rfl
  have p0_5 : x2.cell? ⟨x1.heap.size, 5, none⟩ = some (.int .i64 10) := (BX.out.bl 0 _ _ _ rfl).val rfl
  have p0_6 : x2.cell? ⟨x1.heap.size, 6, none⟩ = some (.int .i64 20) := (BX.out.bl 0 _ _ _ rfl).val rfl
  have p0_7 : x2.cell? ⟨x1.heap.size, 7, none⟩ = some (.int .i64 1000) := (BX.out.bl 0 _ _ _ rfl).val rfl
  have p0_8 : x2.cell? ⟨x1.heap.size, 8, none⟩ = some (.int .i64 2147483648) := (BX.out.bl 0 _ _ _ rfl).val rfl
  have p0_9 : x2.cell? ⟨x1.heap.size, 9, none⟩ = some (.int .i64 4294967296) := (BX.out.bl 0 _ _ _ rfl).val rfl
  have p0_10 : x2.cell? ⟨x1.heap.size, 10, none⟩ = some (.int .i64 1073741824) := (BX.out.bl 0 _ _ _ rfl).val rfl
  have p0_11 : x2.cell? ⟨x1.heap.size, 11, none⟩ = some (.int .i64 0) := (BX.out.bl 0 _ _ _ rfl).val rfl
  have p0_12 : x2.cell? ⟨x1.heap.size, 12, none⟩ = some (.int .i64 1099511627776) := (BX.out.bl 0 _ _ _ rfl).val rfl
  have p0_13 : x2.cell? ⟨x1.heap.size, 13, none⟩ = some (.int .i64 64) := (BX.out.bl 0 _ _ _ rfl).val rfl
  have p0_14 : x2.cell? ⟨x1.heap.size, 14, none⟩ = some (.int .i64 4) := (BX.out.bl 0 _ _ _ rfl).val rfl
  have p0_15 : x2.cell? ⟨x1.heap.size, 15, none⟩ = some (.int .i64 4) := (BX.out.bl 0 _ _ _ rfl).val rfl
  have z0 : ∀ k, x2.frozen? ⟨x1.heap.size, k, none⟩ = false := (BX.out.bl 0 _ _ _ rfl).free
  have y0 : x1.heap.size < x2.heap.size := (BX.out.bl 0 _ _ _ rfl).size
  go_wp2_with fail
  refine (judge_few 4 1000 128 0 3 0 9 (by omega) (by omega) (by omega) _).mono ?_
  rw [HJ.out.1]
  rintro e x3 ⟨rfl, hb⟩
  have bx : Bxs w x3 [(x1.heap.size, 25, [.int .i64 4, .int .i64 64, .int .i64 5, .int .i64 100, .int .i64 50, .int .i64 10, .int .i64 20, .int .i64 1000, .int .i64 2147483648, .int .i64 4294967296, .int .i64 1073741824, .int .i64 0, .int .i64 1099511627776, .int .i64 64, .int .i64 4, .int .i64 4])] := (BX.out).below hb
  clear p0_0 p0_1 p0_2 p0_3 p0_4 p0_5 p0_6 p0_7 p0_8 p0_9 p0_10 p0_11 p0_12 p0_13 p0_14 p0_15 z0 y0
  clear hb BX
  have BX := Lib.hid bx
  clear bx
  have p0_0 : x3.cell? ⟨x1.heap.size, 0, none⟩ = some (.int .i64 4) := (BX.out.bl 0 _ _ _ rfl).val rfl
  have p0_1 : x3.cell? ⟨x1.heap.size, 1, none⟩ = some (.int .i64 64) := (BX.out.bl 0 _ _ _ rfl).val rfl
  have p0_2 : x3.cell? ⟨x1.heap.size, 2, none⟩ = some (.int .i64 5) := (BX.out.bl 0 _ _ _ rfl).val rfl
  have p0_3 : x3.cell? ⟨x1.heap.size, 3, none⟩ = some (.int .i64 100) := (BX.out.bl 0 _ _ _ rfl).val rfl
  have p0_4 : x3.cell? ⟨x1.heap.size, 4, none⟩ = some (.int .i64 50) := (BX.out.bl 0 _ _ _ rfl).val rfl
  have p0_5 : x3.cell? ⟨x1.heap.size, 5, none⟩ = some (.int .i64 10) := (BX.out.bl 0 _ _ _ rfl).val rfl
  have p0_6 : x3.cell? ⟨x1.heap.size, 6, none⟩ = some (.int .i64 20) := (BX.out.bl 0 _ _ _ rfl).val rfl
  have p0_7 : x3.cell? ⟨x1.heap.size, 7, none⟩ = some (.int .i64 1000) := (BX.out.bl 0 _ _ _ rfl).val rfl
  have p0_8 : x3.cell? ⟨x1.heap.size, 8, none⟩ = some (.int .i64 2147483648) := (BX.out.bl 0 _ _ _ rfl).val rfl
  have p0_9 : x3.cell? ⟨x1.heap.size, 9, none⟩ = some (.int .i64 4294967296) := (BX.out.bl 0 _ _ _ rfl).val rfl
  have p0_10 : x3.cell? ⟨x1.heap.size, 10, none⟩ = some (.int .i64 1073741824) := (BX.out.bl 0 _ _ _ rfl).val rfl
  have p0_11 : x3.cell? ⟨x1.heap.size, 11, none⟩ = some (.int .i64 0) := (BX.out.bl 0 _ _ _ rfl).val rfl
  have p0_12 : x3.cell? ⟨x1.heap.size, 12, none⟩ = some (.int .i64 1099511627776) := (BX.out.bl 0 _ _ _ rfl).val rfl
  have p0_13 : x3.cell? ⟨x1.heap.size, 13, none⟩ = some (.int .i64 64) := (BX.out.bl 0 _ _ _ rfl).val rfl
  have p0_14 : x3.cell? ⟨x1.heap.size, 14, none⟩ = some (.int .i64 4) := (BX.out.bl 0 _ _ _ rfl).val rfl
  have p0_15 : x3.cell? ⟨x1.heap.size, 15, none⟩ = some (.int .i64 4) := (BX.out.bl 0 _ _ _ rfl).val rfl
  have z0 : ∀ k, x3.frozen? ⟨x1.heap.size, k, none⟩ = false := (BX.out.bl 0 _ _ _ rfl).free
  have y0 : x1.heap.size < x3.heap.size := (BX.out.bl 0 _ _ _ rfl).size
  go_wp2_with fail
  refine (judge_few 4 1000 128 0 2 127 9 (by omega) (by omega) (by omega) _).mono ?_
  rw [HJ.out.2]
  rintro e x4 ⟨rfl, hb⟩
  have bx : Bxs w x4 [(x1.heap.size, 25, [.int .i64 4, .int .i64 64, .int .i64 5, .int .i64 100, .int .i64 50, .int .i64 10, .int .i64 20, .int .i64 1000, .int .i64 2147483648, .int .i64 4294967296, .int .i64 1073741824, .int .i64 0, .int .i64 1099511627776, .int .i64 64, .int .i64 4, .int .i64 4])] := (BX.out).below hb
  clear p0_0 p0_1 p0_2 p0_3 p0_4 p0_5 p0_6 p0_7 p0_8 p0_9 p0_10 p0_11 p0_12 p0_13 p0_14 p0_15 z0 y0
  clear hb BX
  have BX := Lib.hid bx
  clear bx
  have p0_0 : x4.cell? ⟨x1.heap.size, 0, none⟩ = some (.int .i64 4) := (BX.out.bl 0 _ _ _ rfl).val rfl
  have p0_1 : x4.cell? ⟨x1.heap.size, 1, none⟩ = some (.int .i64 64) := (BX.out.bl 0 _ _ _ rfl).val rfl
  have p0_2 : x4.cell? ⟨x1.heap.size, 2, none⟩ = some (.int .i64 5) := (BX.out.bl 0 _ _ _ rfl).val rfl
  have p0_3 : x4.cell? ⟨x1.heap.size, 3, none⟩ = some (.int .i64 100) := (BX.out.bl 0 _ _ _ rfl).val rfl
  have p0_4 : x4.cell? ⟨x1.heap.size, 4, none⟩ = some (.int .i64 50) := (BX.out.bl 0 _ _ _ rfl).val rfl
  have p0_5 : x4.cell? ⟨x1.heap.size, 5, none⟩ = some (.int .i64 10) := (BX.out.bl 0 _ _ _ rfl).val rfl
  have p0_6 : x4.cell? ⟨x1.heap.size, 6, none⟩ = some (.int .i64 20) := (BX.out.bl 0 _ _ _ rfl).val rfl
  have p0_7 : x4.cell? ⟨x1.heap.size, 7, none⟩ = some (.int .i64 1000) := (BX.out.bl 0 _ _ _ rfl).val rfl
  have p0_8 : x4.cell? ⟨x1.heap.size, 8, none⟩ = some (.int .i64 2147483648) := (BX.out.bl 0 _ _ _ rfl).val rfl
  have p0_9 : x4.cell? ⟨x1.heap.size, 9, none⟩ = some (.int .i64 4294967296) := (BX.out.bl 0 _ _ _ rfl).val rfl
  have p0_10 : x4.cell? ⟨x1.heap.size, 10, none⟩ = some (.int .i64 1073741824) := (BX.out.bl 0 _ _ _ rfl).val rfl
  have p0_11 : x4.cell? ⟨x1.heap.size, 11, none⟩ = some (.int .i64 0) := (BX.out.bl 0 _ _ _ rfl).val rfl
  have p0_12 : x4.cell? ⟨x1.heap.size, 12, none⟩ = some (.int .i64 1099511627776) := (BX.out.bl 0 _ _ _ rfl).val rfl
  have p0_13 : x4.cell? ⟨x1.heap.size, 13, none⟩ = some (.int .i64 64) := (BX.out.bl 0 _ _ _ rfl).val rfl
  have p0_14 : x4.cell? ⟨x1.heap.size, 14, none⟩ = some (.int .i64 4) := (BX.out.bl 0 _ _ _ rfl).val rfl
  have p0_15 : x4.cell? ⟨x1.heap.size, 15, none⟩ = some (.int .i64 4) := (BX.out.bl 0 _ _ _ rfl).val rfl
  have z0 : ∀ k, x4.frozen? ⟨x1.heap.size, k, none⟩ = false := (BX.out.bl 0 _ _ _ rfl).free
  have y0 : x1.heap.size < x4.heap.size := (BX.out.bl 0 _ _ _ rfl).size
  go_wp2_with fail
  refine (gname_yes 4 3 (by omega) (by omega) _ (HN.out.below BX.out.be)).mono ?_
  rintro e x5 ⟨rfl, rfl⟩
  have hnm : nmB 3 = ⟨#[99, 117, 116, 111, 102, 102]⟩ := rfl
  rw [hnm]
  clear hnm
  go_wp2_with fail
  refine bodyPost_ret (v := .bool true) (by simp [results, Tryd.results8, go_sem, *]) rfl ⟨rfl, ?_⟩
  exact (BX.out).be
end Go.Proofs.YtgocnliapkokbaaDoor
