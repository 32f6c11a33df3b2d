/- A text is parsed. -/
import Derived.Test.YtbajmmgdnegoiaaDoorCnn
import Derived.Test.YtbajmmgdnegoiaaDoorCnj
import Derived.ScopeJumps
namespace Go.Proofs.YtbajmmgdnegoiaaDoor
open Go.ChangeShapes Go.WideShapes Go.ChangeAt Go.RowKit Kn
set_option linter.unusedVariables false
set_option linter.unusedSimpArgs false
def zer16 : List Value := [.int .i64 0, .int .i64 0, .int .i64 0, .int .i64 0, .int .i64 0, .int .i64 0, .int .i64 0, .int .i64 0, .int .i64 0, .int .i64 0, .int .i64 0, .int .i64 0, .int .i64 0, .int .i64 0, .int .i64 0, .int .i64 0]
/-- Where the result lies, the fields, the config under way. -/
structure PInv (w0 w : World) (gr gf gc : Nat) (bx : Nat → Nat) (sn : Nat → Bool) (v : Nat → Int) : Prop where
  p : PAt w gf gc bx sn v
  r : Blk w gr 24 zer16.toArray
  ne : gr ≠ gc
  lo : w0.heap.size ≤ gr ∧ w0.heap.size ≤ gf ∧ w0.heap.size ≤ gc
  b : Below w0.heap.size w0 w
theorem blk16 {W : World} {g : Nat} {t : TypeId} {v0 v1 v2 v3 v4 v5 v6 v7 v8 v9 v10 v11 v12 v13 v14 v15 : Value} (h : Blk W g t zer16.toArray) : Blk ((((((((((((((((W.setCell ⟨g, 0, none⟩ v0).setCell ⟨g, 1, none⟩ v1).setCell ⟨g, 2, none⟩ v2).setCell ⟨g, 3, none⟩ v3).setCell ⟨g, 4, none⟩ v4).setCell ⟨g, 5, none⟩ v5).setCell ⟨g, 6, none⟩ v6).setCell ⟨g, 7, none⟩ v7).setCell ⟨g, 8, none⟩ v8).setCell ⟨g, 9, none⟩ v9).setCell ⟨g, 10, none⟩ v10).setCell ⟨g, 11, none⟩ v11).setCell ⟨g, 12, none⟩ v12).setCell ⟨g, 13, none⟩ v13).setCell ⟨g, 14, none⟩ v14).setCell ⟨g, 15, none⟩ v15) g t #[v0, v1, v2, v3, v4, v5, v6, v7, v8, v9, v10, v11, v12, v13, v14, v15] := by
  have z := ((((((((((((((((h.set_ 0 v0).set_ 1 v1).set_ 2 v2).set_ 3 v3).set_ 4 v4).set_ 5 v5).set_ 6 v6).set_ 7 v7).set_ 8 v8).set_ 9 v9).set_ 10 v10).set_ 11 v11).set_ 12 v12).set_ 13 v13).set_ 14 v14).set_ 15 v15)
  unfold zer16 at z
  simpa using z
set_option maxHeartbeats 4000000 in
theorem res_cells {W : World} {g : Nat} {x0 x1 : Value} {rest : List Value} {er : Int} {v0 v1 v2 v3 v4 v5 v6 v7 v8 v9 v10 v11 v12 v13 v14 v15 : Value} (h : Blk W g 24 #[v0, v1, v2, v3, v4, v5, v6, v7, v8, v9, v10, v11, v12, v13, v14, v15]) :
    (results Tryd.f21 (x0 :: x1 :: .pointer (some ⟨g, 0, none⟩) :: .int .i64 er :: rest).toArray).run Tryd.prog W = .ok (.tuple #[.agg #[v0, v1, v2, v3, v4, v5, v6, v7, v8, v9, v10, v11, v12, v13, v14, v15], .int .i64 er]) W := by
  have r0 : W.cell? ⟨g, 0, none⟩ = some v0 := h.val (i := 0) rfl
  have r1 : W.cell? ⟨g, 1, none⟩ = some v1 := h.val (i := 1) rfl
  have r2 : W.cell? ⟨g, 2, none⟩ = some v2 := h.val (i := 2) rfl
  have r3 : W.cell? ⟨g, 3, none⟩ = some v3 := h.val (i := 3) rfl
  have r4 : W.cell? ⟨g, 4, none⟩ = some v4 := h.val (i := 4) rfl
  have r5 : W.cell? ⟨g, 5, none⟩ = some v5 := h.val (i := 5) rfl
  have r6 : W.cell? ⟨g, 6, none⟩ = some v6 := h.val (i := 6) rfl
  have r7 : W.cell? ⟨g, 7, none⟩ = some v7 := h.val (i := 7) rfl
  have r8 : W.cell? ⟨g, 8, none⟩ = some v8 := h.val (i := 8) rfl
  have r9 : W.cell? ⟨g, 9, none⟩ = some v9 := h.val (i := 9) rfl
  have r10 : W.cell? ⟨g, 10, none⟩ = some v10 := h.val (i := 10) rfl
  have r11 : W.cell? ⟨g, 11, none⟩ = some v11 := h.val (i := 11) rfl
  have r12 : W.cell? ⟨g, 12, none⟩ = some v12 := h.val (i := 12) rfl
  have r13 : W.cell? ⟨g, 13, none⟩ = some v13 := h.val (i := 13) rfl
  have r14 : W.cell? ⟨g, 14, none⟩ = some v14 := h.val (i := 14) rfl
  have r15 : W.cell? ⟨g, 15, none⟩ = some v15 := h.val (i := 15) rfl
  clear h
  simp [results, Tryd.results21, go_sem, *]
theorem PInv.below {w0 w w' : World} {gr gf gc : Nat} {bx : Nat → Nat} {sn : Nat → Bool} {v : Nat → Int} (h : PInv w0 w gr gf gc bx sn v) (hb : Below w.heap.size w w') : PInv w0 w' gr gf gc bx sn v :=
  ⟨h.p.below hb, h.r.below_ hb h.r.size, h.ne, h.lo, h.b.trans (hb.mono h.b.size)⟩
theorem PInv.line {w0 w w' : World} {gr gf gc : Nat} {bx : Nat → Nat} {sn sn' : Nat → Bool} {v v' : Nat → Int} (h : PInv w0 w gr gf gc bx sn v) (hp : PAt w' gf gc bx sn' v') (hk : Kept (fun g => g = gf ∨ g = gc) w w') : PInv w0 w' gr gf gc bx sn' v' := by
  obtain ⟨cs, hr, -⟩ := h.p.f.rows
  have h1 : gr ≠ gf := h.r.other hr (by decide)
  have h2 := h.ne
  exact ⟨hp, h.r.kept hk (by rintro (e | e); exact h1 e; exact h2 e), h.ne, h.lo, h.b.trans (hk.below (by rintro k (e | e) <;> (have := h.lo; omega)) h.b.size)⟩
theorem cfgL_cf (v : Nat → Int) : cfgL v = [.int .i64 (v 0), .int .i64 (v 1), .int .i64 (v 2), .int .i64 (v 3), .int .i64 (v 4), .int .i64 (v 5), .int .i64 (v 6), .int .i64 (v 7), .int .i64 (v 8), .int .i64 (v 9), .int .i64 (v 10), .int .i64 (v 11), .int .i64 (v 12), .int .i64 (v 13), .int .i64 (v 14), .int .i64 (v 15)] := rfl
def endE (R : Int × (Nat → Int)) : Int := if R.1 = 0 then validE (cfOf R.2) else R.1
def endV (R : Int × (Nat → Int)) : Cf := if endE R = 0 then cfOf R.2 else ⟨0, 0, 0, 0, 0, 0, 0, 0, 0, 0, 0, 0, 0, 0, 0, 0⟩
def lenOf (a : Act) : Nat := match a.tmps.getD 0 undef with
  | .string s => s.size
  | _ => 0
def ParR (w0 : World) (R : Int × (Nat → Int)) (gr gf gc : Nat) (bx : Nat → Nat) (a' : Act) (w' : World) : Prop :=
  ∃ (s' : ByteArray) (sn : Nat → Bool) (v : Nat → Int) (u1 u6 u7 u8 u9 u10 u11 u12 u13 u14 u15 u16 u17 u18 u19 u20 u21 u22 u23 u24 u25 u26 u27 u28 u29 u30 u31 u32 u33 u34 u35 u36 u37 u38 : Value), a' = { tmps := #[.string s', u1, .pointer (some ⟨gr, 0, none⟩), .int .i64 0, .pointer (some ⟨gc, 0, none⟩), .slice (some ⟨gf, 0, none⟩) 16 16, u6, u7, u8, u9, u10, u11, u12, u13, u14, u15, u16, u17, u18, u19, u20, u21, u22, u23, u24, u25, u26, u27, u28, u29, u30, u31, u32, u33, u34, u35, u36, u37, u38], defers := [] } ∧ s'.size ≤ 20000 ∧ linesE (s'.size + 1) s' sn v = R ∧ PInv w0 w' gr gf gc bx sn v
set_option maxHeartbeats 4000000 in
theorem parse_long (s : ByteArray) (h : 20000 < s.size) (w : World) :
    Calls Tryd.prog 21 #[.string s] w fun e w' => e = .returned (.tuple #[.agg #[.int .i64 0, .int .i64 0, .int .i64 0, .int .i64 0, .int .i64 0, .int .i64 0, .int .i64 0, .int .i64 0, .int .i64 0, .int .i64 0, .int .i64 0, .int .i64 0, .int .i64 0, .int .i64 0, .int .i64 0, .int .i64 0], .int .i64 7]) ∧ Below w.heap.size w w' := by
  have h1 : 20000 < (s.size : Int) := by omega
  go_enter Tryd.func21, Tryd.ntmps21
  go_upto_region 1 with fail
  refine wp_worldx (fun wx => Bxs w wx [(w.heap.size, 24, [.int .i64 0, .int .i64 0, .int .i64 0, .int .i64 0, .int .i64 0, .int .i64 0, .int .i64 0, .int .i64 0, .int .i64 0, .int .i64 0, .int .i64 0, .int .i64 0, .int .i64 0, .int .i64 0, .int .i64 0, .int .i64 0])]) ((Bxs.nil_ w).alloc_ _ _ (by simp)) ?_
  rintro x1 bx
  have BX := Lib.hid bx
  clear bx
  have p0_0 : x1.cell? ⟨w.heap.size, 0, none⟩ = some (.int .i64 0) := (BX.out.bl 0 _ _ _ rfl).val rfl
  have p0_1 : x1.cell? ⟨w.heap.size, 1, none⟩ = some (.int .i64 0) := (BX.out.bl 0 _ _ _ rfl).val rfl
  have p0_2 : x1.cell? ⟨w.heap.size, 2, none⟩ = some (.int .i64 0) := (BX.out.bl 0 _ _ _ rfl).val rfl
  have p0_3 : x1.cell? ⟨w.heap.size, 3, none⟩ = some (.int .i64 0) := (BX.out.bl 0 _ _ _ rfl).val rfl
  have p0_4 : x1.cell? ⟨w.heap.size, 4, none⟩ = some (.int .i64 0) := (BX.out.bl 0 _ _ _ rfl).val rfl
  have p0_5 : x1.cell? ⟨w.heap.size, 5, none⟩ = some (.int .i64 0) := (BX.out.bl 0 _ _ _ rfl).val rfl
  have p0_6 : x1.cell? ⟨w.heap.size, 6, none⟩ = some (.int .i64 0) := (BX.out.bl 0 _ _ _ rfl).val rfl
  have p0_7 : x1.cell? ⟨w.heap.size, 7, none⟩ = some (.int .i64 0) := (BX.out.bl 0 _ _ _ rfl).val rfl
  have p0_8 : x1.cell? ⟨w.heap.size, 8, none⟩ = some (.int .i64 0) := (BX.out.bl 0 _ _ _ rfl).val rfl
  have p0_9 : x1.cell? ⟨w.heap.size, 9, none⟩ = some (.int .i64 0) := (BX.out.bl 0 _ _ _ rfl).val rfl
  have p0_10 : x1.cell? ⟨w.heap.size, 10, none⟩ = some (.int .i64 0) := (BX.out.bl 0 _ _ _ rfl).val rfl
  have p0_11 : x1.cell? ⟨w.heap.size, 11, none⟩ = some (.int .i64 0) := (BX.out.bl 0 _ _ _ rfl).val rfl
  have p0_12 : x1.cell? ⟨w.heap.size, 12, none⟩ = some (.int .i64 0) := (BX.out.bl 0 _ _ _ rfl).val rfl
  have p0_13 : x1.cell? ⟨w.heap.size, 13, none⟩ = some (.int .i64 0) := (BX.out.bl 0 _ _ _ rfl).val rfl
  have p0_14 : x1.cell? ⟨w.heap.size, 14, none⟩ = some (.int .i64 0) := (BX.out.bl 0 _ _ _ rfl).val rfl
  have p0_15 : x1.cell? ⟨w.heap.size, 15, none⟩ = some (.int .i64 0) := (BX.out.bl 0 _ _ _ rfl).val rfl
  have z0 : ∀ k, x1.frozen? ⟨w.heap.size, k, none⟩ = false := (BX.out.bl 0 _ _ _ rfl).free
  have y0 : w.heap.size < x1.heap.size := (BX.out.bl 0 _ _ _ rfl).size
  refine wp_scope_jumps 0 (fun _ _ => False) (fun _ _ => 0) rfl ?_ ?_
  · go_wp2_with fail
    show bodyPost Tryd.prog Tryd.f21 (fun e w' => e = .returned (.tuple #[.agg #[.int .i64 0, .int .i64 0, .int .i64 0, .int .i64 0, .int .i64 0, .int .i64 0, .int .i64 0, .int .i64 0, .int .i64 0, .int .i64 0, .int .i64 0, .int .i64 0, .int .i64 0, .int .i64 0, .int .i64 0, .int .i64 0], .int .i64 7]) ∧ Below w.heap.size w w') Exit.ret _ _
    refine bodyPost_ret (v := .tuple #[.agg #[.int .i64 0, .int .i64 0, .int .i64 0, .int .i64 0, .int .i64 0, .int .i64 0, .int .i64 0, .int .i64 0, .int .i64 0, .int .i64 0, .int .i64 0, .int .i64 0, .int .i64 0, .int .i64 0, .int .i64 0, .int .i64 0], .int .i64 7]) (by simp [results, Tryd.results21, go_sem, *]) rfl ⟨rfl, ?_⟩
    exact (((((((((((((((((BX.out).set_ 0 0 rfl (.int .i64 0)).set_ 0 1 rfl (.int .i64 0)).set_ 0 2 rfl (.int .i64 0)).set_ 0 3 rfl (.int .i64 0)).set_ 0 4 rfl (.int .i64 0)).set_ 0 5 rfl (.int .i64 0)).set_ 0 6 rfl (.int .i64 0)).set_ 0 7 rfl (.int .i64 0)).set_ 0 8 rfl (.int .i64 0)).set_ 0 9 rfl (.int .i64 0)).set_ 0 10 rfl (.int .i64 0)).set_ 0 11 rfl (.int .i64 0)).set_ 0 12 rfl (.int .i64 0)).set_ 0 13 rfl (.int .i64 0)).set_ 0 14 rfl (.int .i64 0)).set_ 0 15 rfl (.int .i64 0)).be
  · rintro a' w' ⟨⟩
theorem jump_mono {l : Nat} {J J' : Act → World → Prop} {Q : Exit → Act → World → Prop} (h : ∀ a w, J' a w → J a w) {e : Exit} {a : Act} {w : World} (hq : Exit.jump l J' Q e a w) : Exit.jump l J Q e a w := by
  cases e <;> first | exact hq | exact ⟨hq.1, h _ _ hq.2⟩
def findScope : Code → Option Code
  | .scope c => some c
  | .seq a b => match findScope a with
    | some c => some c
    | none => findScope b
  | .block _ c => findScope c
  | .loop c => findScope c
  | _ => none
end Go.Proofs.YtbajmmgdnegoiaaDoor
