/- Acts of the slab that come in. -/
import Derived.Test.YtjhcppiamkkdbaaSlt
namespace Go.Proofs.Ytjhcppiamkkdbaa
open Go.RowKit Go.ChangeShapes Go.WideShapes Go.Deep
set_option linter.unusedVariables false
/-- An act: what is done, the request, which handle, any handle. -/
structure Sa where
  d : Int
  q : Rq
  i : Int
  h : Int
def saRow (a : Sa) : List Value := [.int .u8 a.d, .int .u64 a.q.a, .int .i64 a.q.b, .int .i64 a.q.c, .int .i64 a.q.d, .int .i64 a.q.e, .int .u16 a.i, .int .u64 a.h]
def Sa.ok (a : Sa) : Prop := (0 ≤ a.d ∧ a.d ≤ 255) ∧ a.q.ok ∧ (0 ≤ a.i ∧ a.i ≤ 65535) ∧ (0 ≤ a.h ∧ a.h ≤ 18446744073709551615)
section
variable {H : Type} {enc : TypeId × Value → H} {w : World}
theorem sa_row_ {t : TypeId} {f0 f1 f2 f3 : Field} {spare : Nat → Bool} {held : Bool} {fuel : Nat} {cs : List Value} {x : DataW H × List MemPlace} (hs : Try.prog.underlying t = some (.struct #[f0, f1, f2, f3]))
    (o0 : f0.offset = 0) (o1 : f1.offset = 1) (o2 : f2.offset = 6) (o3 : f3.offset = 7) (k0 : Try.prog.cellsOf f0.type = 1) (k2 : Try.prog.cellsOf f2.type = 1) (k3 : Try.prog.cellsOf f3.type = 1)
    (hu : Try.prog.underlying f0.type = some (.int .u8)) (hq : f1.type = 34) (hi : Try.prog.underlying f2.type = some (.int .u16)) (hj : Try.prog.underlying f3.type = some (.int .u64)) (h : DataW.trod enc Try.prog w 0 spare held fuel t cs = some x) :
    ∃ a : Sa, a.ok ∧ ∀ k, k < 8 → cs[k]? = (saRow a)[k]? := by
  obtain ⟨xs, n, _, rfl, hl, hlen, hf⟩ := DataW.trod_struct hs h
  match xs, hlen with
  | [y0, y1, y2, y3], _ =>
    obtain ⟨a, ea, -, wa⟩ := DataW.trod_int hu (hf 0 _ rfl)
    rw [o0, k0] at ea
    have h1 : DataW.trod enc Try.prog w 0 spare held n f1.type (List.take (Try.prog.cellsOf f1.type) (List.drop f1.offset cs)) = some y1 := hf 1 _ rfl
    rw [o1, hq, rq_cells] at h1
    obtain ⟨q, qok, hqc⟩ := req_row h1
    obtain ⟨b, eb, -, wb⟩ := DataW.trod_int hi (hf 2 _ rfl)
    rw [o2, k2] at eb
    obtain ⟨c, ec, -, wc⟩ := DataW.trod_int hj (hf 3 _ rfl)
    rw [o3, k3] at ec
    have hin : ∀ k, k < 5 → cs[1 + k]? = (reqRow q)[k]? := fun k hk => by
      rw [← hqc k hk, List.getElem?_take_of_lt hk, List.getElem?_drop]
    refine ⟨⟨a, q, b, c⟩, ⟨wf_u8 wa, qok, wf_u16 wb, wf_u64 wc⟩, fun k hk => ?_⟩
    match k, hk with
    | 0, _ => exact cut1 ea
    | 1, _ => exact hin 0 (by omega)
    | 2, _ => exact hin 1 (by omega)
    | 3, _ => exact hin 2 (by omega)
    | 4, _ => exact hin 3 (by omega)
    | 5, _ => exact hin 4 (by omega)
    | 6, _ => exact cut1 eb
    | 7, _ => exact cut1 ec
theorem sa_row {spare : Nat → Bool} {held : Bool} {fuel : Nat} {cs : List Value} {x : DataW H × List MemPlace} (h : DataW.trod enc Try.prog w 0 spare held fuel 36 cs = some x) :
    ∃ a : Sa, a.ok ∧ ∀ k, k < 8 → cs[k]? = (saRow a)[k]? :=
  sa_row_ Try.underlying36 rfl rfl rfl rfl (by kernel_rfl) (by kernel_rfl) (by kernel_rfl) Try.underlying5 rfl Try.underlying22 Try.underlying31 h
theorem sa_cells : Try.prog.cellsOf 36 = 8 := by kernel_rfl
theorem open_sas {fuel : Nat} {A : Option Addr} {len cap : Nat} {x : DataW H × List MemPlace} (h : DataW.trod enc Try.prog w 0 (fun _ => true) true fuel 23 [.slice A len cap] = some x) :
    len ≤ cap ∧ cap ≤ maxLen ∧ ∃ Q : Nat → Sa, SeqAt w w.heap.size A len 8 (fun i => saRow (Q i)) ∧ ∀ i, i < len → (Q i).ok := by
  obtain ⟨h1, h2, row, hs, hr⟩ := open_seq Try.underlying23 sa_cells (by omega) h
  have hq : ∀ i, ∃ q : Sa, i < len → q.ok ∧ ∀ k, k < 8 → (row i)[k]? = (saRow q)[k]? := by
    intro i
    by_cases hi : i < len
    · obtain ⟨_, n, y, hy⟩ := hr i hi
      obtain ⟨q, hq⟩ := sa_row hy
      exact ⟨q, fun _ => hq⟩
    · exact ⟨⟨0, ⟨0, 0, 0, 0, 0⟩, 0, 0⟩, fun h => absurd h hi⟩
  refine ⟨h1, h2, fun i => (hq i).choose, fun h0 => ?_, fun i hi => ((hq i).choose_spec hi).1⟩
  obtain ⟨b, off, e, hb, hc⟩ := hs h0
  exact ⟨b, off, e, hb, fun i hi k hk => (hc i hi k hk).trans (((hq i).choose_spec hi).2 k hk)⟩
end
end Go.Proofs.Ytjhcppiamkkdbaa
