/- What comes in: rows of small numbers, of calls, of answers, of deeds; a call by value. -/
import Derived.Test.YtocgflhecnkcfaaOu8
import Derived.Test.YtocgflhecnkcfaaSeq
import Derived.Test.YtocgflhecnkcfaaRow
import Derived.Test.YtocgflhecnkcfaaLka
import Derived.ChangeArms
namespace Go.Proofs.Ytocgflhecnkcfaa
open Go.RowKit Go.ChangeShapes Go.WideShapes Go.Deep
set_option linter.unusedVariables false
section
variable {H : Type} {enc : TypeId × Value → H} {P : Program} {w : World} {base : Nat} {spare : Nat → Bool} {held : Bool}
/-- A struct of four fields of one cell each, by value. -/
theorem open_four {r : Reach} {b0 : Nat} {t : TypeId} {f0 f1 f2 f3 : Field} {v : Value} {d : DataW H} {p : List MemPlace} (hs : P.underlying t = some (.struct #[f0, f1, f2, f3])) (hone : oneCellFields P #[f0, f1, f2, f3] = true) (hC : P.cellsOf t = 4)
    (hv : Value.okWide P w r b0 t v) (h : DataW.Trod enc P w base spare held t v d p) :
    ∃ (v0 v1 v2 v3 : Value) (y0 y1 y2 y3 : DataW H × List MemPlace) (n : Nat), v = .agg #[v0, v1, v2, v3] ∧
      DataW.trod enc P w base spare held n f0.type [v0] = some y0 ∧ DataW.trod enc P w base spare held n f1.type [v1] = some y1 ∧ DataW.trod enc P w base spare held n f2.type [v2] = some y2 ∧ DataW.trod enc P w base spare held n f3.type [v3] = some y3 := by
  obtain ⟨cs, rfl, hsz⟩ := okWide_struct hs hv
  obtain ⟨l⟩ := cs
  match l, hsz.trans hC with
  | [c0, c1, c2, c3], _ =>
    obtain ⟨fuel, hf⟩ := h
    obtain ⟨xs, n, _, hx, _, hlen, hg⟩ := DataW.trod_struct hs hf
    obtain ⟨o0, k0⟩ := Go.Deep.hone_of hone 0 f0 rfl
    obtain ⟨o1, k1⟩ := Go.Deep.hone_of hone 1 f1 rfl
    obtain ⟨o2, k2⟩ := Go.Deep.hone_of hone 2 f2 rfl
    obtain ⟨o3, k3⟩ := Go.Deep.hone_of hone 3 f3 rfl
    match xs, hlen with
    | [y0, y1, y2, y3], _ =>
      exact ⟨c0, c1, c2, c3, y0, y1, y2, y3, n, rfl, by simpa [Value.cells, o0, k0] using hg 0 f0 rfl, by simpa [Value.cells, o1, k1] using hg 1 f1 rfl, by simpa [Value.cells, o2, k2] using hg 2 f2 rfl, by simpa [Value.cells, o3, k3] using hg 3 f3 rfl⟩
end
def opRow (o : OpV) : List Value := [.int .u8 o.k, .int .i64 o.t, .int .i64 o.c, .int .i64 o.n]
section
variable {H : Type} {enc : TypeId × Value → H} {w : World}
theorem op_row {spare : Nat → Bool} {held : Bool} {fuel : Nat} {cs : List Value} {x : DataW H × List MemPlace} (h : DataW.trod enc Try.prog w 0 spare held fuel 46 cs = some x) :
    ∃ q : OpV, ∀ k, k < 4 → cs[k]? = (opRow q)[k]? := by
  have hs := Try.underlying46
  obtain ⟨xs, n, _, rfl, hl, hlen, hf⟩ := DataW.trod_struct hs h
  have cut1 : ∀ {cs : List Value} {o : Nat} {v : Value}, (cs.drop o).take 1 = [v] → cs[o]? = some v := by
    intro cs o v h
    have := congrArg (·[0]?) h
    simpa using this
  have hone := (show oneCellFields Try.prog _ = true from by kernel_rfl : oneCellFields Try.prog (match Try.prog.underlying 46 with | some (.struct fs) => fs | _ => #[]) = true)
  rw [hs] at hone
  match xs, hlen with
  | [y0, y1, y2, y3], _ =>
    obtain ⟨o0, k0⟩ := hone_of hone 0 _ rfl
    obtain ⟨a, ea, -, wa⟩ := DataW.trod_int Try.underlying5 (hf 0 _ rfl)
    rw [o0, k0] at ea
    obtain ⟨o1, k1⟩ := hone_of hone 1 _ rfl
    obtain ⟨b, eb, -, wb⟩ := DataW.trod_int Try.underlying3 (hf 1 _ rfl)
    rw [o1, k1] at eb
    obtain ⟨o2, k2⟩ := hone_of hone 2 _ rfl
    obtain ⟨c, ec, -, wc⟩ := DataW.trod_int Try.underlying3 (hf 2 _ rfl)
    rw [o2, k2] at ec
    obtain ⟨o3, k3⟩ := hone_of hone 3 _ rfl
    obtain ⟨d, ed, -, wd⟩ := DataW.trod_int Try.underlying2 (hf 3 _ rfl)
    rw [o3, k3] at ed
    refine ⟨⟨a, b, c, d⟩, fun k hk => ?_⟩
    match k, hk with
    | 0, _ => exact cut1 ea
    | 1, _ => exact cut1 eb
    | 2, _ => exact cut1 ec
    | 3, _ => exact cut1 ed
theorem op_cells : Try.prog.cellsOf 46 = 4 := by kernel_rfl
def reRow (o : ReV) : List Value := [.int .u8 o.a, .int .u64 o.k, .int .i64 o.t, .int .i64 o.c, .int .i64 o.s]
theorem re_row {spare : Nat → Bool} {held : Bool} {fuel : Nat} {cs : List Value} {x : DataW H × List MemPlace} (h : DataW.trod enc Try.prog w 0 spare held fuel 47 cs = some x) :
    ∃ q : ReV, ∀ k, k < 5 → cs[k]? = (reRow q)[k]? := by
  have hs := Try.underlying47
  obtain ⟨xs, n, _, rfl, hl, hlen, hf⟩ := DataW.trod_struct hs h
  have cut1 : ∀ {cs : List Value} {o : Nat} {v : Value}, (cs.drop o).take 1 = [v] → cs[o]? = some v := by
    intro cs o v h
    have := congrArg (·[0]?) h
    simpa using this
  have hone := (show oneCellFields Try.prog _ = true from by kernel_rfl : oneCellFields Try.prog (match Try.prog.underlying 47 with | some (.struct fs) => fs | _ => #[]) = true)
  rw [hs] at hone
  match xs, hlen with
  | [y0, y1, y2, y3, y4], _ =>
    obtain ⟨o0, k0⟩ := hone_of hone 0 _ rfl
    obtain ⟨a, ea, -, wa⟩ := DataW.trod_int Try.underlying5 (hf 0 _ rfl)
    rw [o0, k0] at ea
    obtain ⟨o1, k1⟩ := hone_of hone 1 _ rfl
    obtain ⟨b, eb, -, wb⟩ := DataW.trod_int Try.underlying41 (hf 1 _ rfl)
    rw [o1, k1] at eb
    obtain ⟨o2, k2⟩ := hone_of hone 2 _ rfl
    obtain ⟨c, ec, -, wc⟩ := DataW.trod_int Try.underlying3 (hf 2 _ rfl)
    rw [o2, k2] at ec
    obtain ⟨o3, k3⟩ := hone_of hone 3 _ rfl
    obtain ⟨d, ed, -, wd⟩ := DataW.trod_int Try.underlying3 (hf 3 _ rfl)
    rw [o3, k3] at ed
    obtain ⟨o4, k4⟩ := hone_of hone 4 _ rfl
    obtain ⟨f, ef, -, wf⟩ := DataW.trod_int Try.underlying2 (hf 4 _ rfl)
    rw [o4, k4] at ef
    refine ⟨⟨a, b, c, d, f⟩, fun k hk => ?_⟩
    match k, hk with
    | 0, _ => exact cut1 ea
    | 1, _ => exact cut1 eb
    | 2, _ => exact cut1 ec
    | 3, _ => exact cut1 ed
    | 4, _ => exact cut1 ef
theorem re_cells : Try.prog.cellsOf 47 = 5 := by kernel_rfl
/-- A deed: what is done, and with what. -/
structure DeV where
  d : Int
  o : OpV
  r : ReV
def deRow (q : DeV) : List Value := [.int .u8 q.d, .int .u8 q.o.k, .int .i64 q.o.t, .int .i64 q.o.c, .int .i64 q.o.n, .int .u8 q.r.a, .int .u64 q.r.k, .int .i64 q.r.t, .int .i64 q.r.c, .int .i64 q.r.s]
theorem de_cells : Try.prog.cellsOf 49 = 10 := by kernel_rfl
theorem de_row {spare : Nat → Bool} {held : Bool} {fuel : Nat} {cs : List Value} {x : DataW H × List MemPlace} (h : DataW.trod enc Try.prog w 0 spare held fuel 49 cs = some x) :
    ∃ q : DeV, (0 ≤ q.d ∧ q.d ≤ 255) ∧ ∀ k, k < 10 → cs[k]? = (deRow q)[k]? := by
  have hs := Try.underlying49
  obtain ⟨xs, n, _, rfl, hl, hlen, hf⟩ := DataW.trod_struct hs h
  match xs, hlen with
  | [y0, y1, y2], _ =>
    obtain ⟨a, ea, -, wa⟩ := DataW.trod_int Try.underlying5 (hf 0 _ rfl)
    obtain ⟨o, ho⟩ := op_row (hf 1 _ rfl)
    obtain ⟨r, hr⟩ := re_row (hf 2 _ rfl)
    refine ⟨⟨a, o, r⟩, wf_u8 wa, fun k hk => ?_⟩
    have e0 : cs[0]? = some (.int .u8 a) := by have this : ((cs.drop 0).take (Try.prog.cellsOf 5))[0]? = [Value.int .u8 a][0]? := congrArg (·[0]?) ea; rw [show Try.prog.cellsOf 5 = 1 from by kernel_rfl] at this; simpa using this
    have eo : ∀ j, j < 4 → cs[1 + j]? = (opRow o)[j]? := fun j hj => by
      have this : ((cs.drop 1).take (Try.prog.cellsOf 46))[j]? = _ := ho j hj
      rw [op_cells] at this
      rw [← this, List.getElem?_take, if_pos hj, List.getElem?_drop]
    have er : ∀ j, j < 5 → cs[5 + j]? = (reRow r)[j]? := fun j hj => by
      have this : ((cs.drop 5).take (Try.prog.cellsOf 47))[j]? = _ := hr j hj
      rw [re_cells] at this
      rw [← this, List.getElem?_take, if_pos hj, List.getElem?_drop]
    match k, hk with
    | 0, _ => exact e0
    | 1, _ => exact eo 0 (by omega)
    | 2, _ => exact eo 1 (by omega)
    | 3, _ => exact eo 2 (by omega)
    | 4, _ => exact eo 3 (by omega)
    | 5, _ => exact er 0 (by omega)
    | 6, _ => exact er 1 (by omega)
    | 7, _ => exact er 2 (by omega)
    | 8, _ => exact er 3 (by omega)
    | 9, _ => exact er 4 (by omega)
theorem open_i8s {fuel : Nat} {A : Option Addr} {len cap : Nat} {x : DataW H × List MemPlace} (h : DataW.trod enc Try.prog w 0 (fun _ => true) true fuel 22 [.slice A len cap] = some x) :
    len ≤ cap ∧ cap ≤ maxLen ∧ ∃ K : Nat → Int, SeqAt w w.heap.size A len 1 (fun i => [.int .i8 (K i)]) ∧ ∀ i, -128 ≤ K i ∧ K i ≤ 127 :=
  open_ints_ (by decide) Try.underlying22 Try.underlying29 (by kernel_rfl) (fun a ha => by have := (Lit.wf_int_iff _ _).1 ha; simpa [IntKind.min, IntKind.max, IntKind.signed, IntKind.bits] using this) h
theorem open_ops {fuel : Nat} {A : Option Addr} {len cap : Nat} {x : DataW H × List MemPlace} (h : DataW.trod enc Try.prog w 0 (fun _ => true) true fuel 62 [.slice A len cap] = some x) :
    len ≤ cap ∧ cap ≤ maxLen ∧ ∃ Q : Nat → OpV, SeqAt w w.heap.size A len 4 (fun i => opRow (Q i)) ∧ True := by
  obtain ⟨h1, h2, row, hs, hr⟩ := open_seq Try.underlying62 op_cells (by omega) h
  have hq : ∀ i, ∃ q : OpV, i < len → ∀ k, k < 4 → (row i)[k]? = (opRow q)[k]? := by
    intro i
    by_cases hi : i < len
    · obtain ⟨_, n, y, hy⟩ := hr i hi
      obtain ⟨q, hq⟩ := op_row hy
      exact ⟨q, fun _ => hq⟩
    · exact ⟨⟨0, 0, 0, 0⟩, fun h => absurd h hi⟩
  refine ⟨h1, h2, fun i => (hq i).choose, fun h0 => ?_, trivial⟩
  obtain ⟨b, off, e, hb, hc⟩ := hs h0
  exact ⟨b, off, e, hb, fun i hi k hk => (hc i hi k hk).trans (((hq i).choose_spec hi) k hk)⟩
theorem open_res {fuel : Nat} {A : Option Addr} {len cap : Nat} {x : DataW H × List MemPlace} (h : DataW.trod enc Try.prog w 0 (fun _ => true) true fuel 63 [.slice A len cap] = some x) :
    len ≤ cap ∧ cap ≤ maxLen ∧ ∃ Q : Nat → ReV, SeqAt w w.heap.size A len 5 (fun i => reRow (Q i)) ∧ True := by
  obtain ⟨h1, h2, row, hs, hr⟩ := open_seq Try.underlying63 re_cells (by omega) h
  have hq : ∀ i, ∃ q : ReV, i < len → ∀ k, k < 5 → (row i)[k]? = (reRow q)[k]? := by
    intro i
    by_cases hi : i < len
    · obtain ⟨_, n, y, hy⟩ := hr i hi
      obtain ⟨q, hq⟩ := re_row hy
      exact ⟨q, fun _ => hq⟩
    · exact ⟨⟨0, 0, 0, 0, 0⟩, fun h => absurd h hi⟩
  refine ⟨h1, h2, fun i => (hq i).choose, fun h0 => ?_, trivial⟩
  obtain ⟨b, off, e, hb, hc⟩ := hs h0
  exact ⟨b, off, e, hb, fun i hi k hk => (hc i hi k hk).trans (((hq i).choose_spec hi) k hk)⟩
theorem open_des {fuel : Nat} {A : Option Addr} {len cap : Nat} {x : DataW H × List MemPlace} (h : DataW.trod enc Try.prog w 0 (fun _ => true) true fuel 35 [.slice A len cap] = some x) :
    len ≤ cap ∧ cap ≤ maxLen ∧ ∃ Q : Nat → DeV, SeqAt w w.heap.size A len 10 (fun i => deRow (Q i)) ∧ ∀ i, i < len → (0 ≤ (Q i).d ∧ (Q i).d ≤ 255) := by
  obtain ⟨h1, h2, row, hs, hr⟩ := open_seq Try.underlying35 de_cells (by omega) h
  have hq : ∀ i, ∃ q : DeV, i < len → (0 ≤ q.d ∧ q.d ≤ 255) ∧ ∀ k, k < 10 → (row i)[k]? = (deRow q)[k]? := by
    intro i
    by_cases hi : i < len
    · obtain ⟨_, n, y, hy⟩ := hr i hi
      obtain ⟨q, hq⟩ := de_row hy
      exact ⟨q, fun _ => hq⟩
    · exact ⟨⟨0, ⟨0, 0, 0, 0⟩, ⟨0, 0, 0, 0, 0⟩⟩, fun h => absurd h hi⟩
  refine ⟨h1, h2, fun i => (hq i).choose, fun h0 => ?_, fun i hi => ((hq i).choose_spec hi).1⟩
  obtain ⟨b, off, e, hb, hc⟩ := hs h0
  exact ⟨b, off, e, hb, fun i hi k hk => (hc i hi k hk).trans (((hq i).choose_spec hi).2 k hk)⟩
end
end Go.Proofs.Ytocgflhecnkcfaa
