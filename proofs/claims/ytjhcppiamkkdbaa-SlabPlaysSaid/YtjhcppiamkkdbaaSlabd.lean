/- Requests that come in, as rows of numbers. -/
import Derived.Test.YtjhcppiamkkdbaaSlabc
import Derived.Test.YtjhcppiamkkdbaaSeq
import Derived.Test.YtjhcppiamkkdbaaRow
import Derived.ChangeArms
namespace Go.Proofs.Ytjhcppiamkkdbaa
open Go.RowKit Go.ChangeShapes Go.WideShapes Go.Deep
set_option linter.unusedVariables false
/-- A request's cells. -/
def reqRow (q : Rq) : List Value := [.int .u64 q.a, .int .i64 q.b, .int .i64 q.c, .int .i64 q.d, .int .i64 q.e]
/-- A request of numbers that fit. -/
def Rq.ok (q : Rq) : Prop := (0 ≤ q.a ∧ q.a ≤ 18446744073709551615) ∧ (-9223372036854775808 ≤ q.b ∧ q.b ≤ 9223372036854775807) ∧ (-9223372036854775808 ≤ q.c ∧ q.c ≤ 9223372036854775807) ∧ (-9223372036854775808 ≤ q.d ∧ q.d ≤ 9223372036854775807) ∧ (-9223372036854775808 ≤ q.e ∧ q.e ≤ 9223372036854775807)
section
variable {H : Type} {enc : TypeId × Value → H} {w : World}
theorem cut1 {cs : List Value} {o : Nat} {v : Value} (h : (cs.drop o).take 1 = [v]) : cs[o]? = some v := by
  have := congrArg (·[0]?) h
  simpa using this
theorem req_row_ {P : Program} {t : TypeId} {f0 f1 f2 f3 f4 : Field} {spare : Nat → Bool} {held : Bool} {fuel : Nat} {cs : List Value} {x : DataW H × List MemPlace} (hs : P.underlying t = some (.struct #[f0, f1, f2, f3, f4])) (hone : oneCellFields P #[f0, f1, f2, f3, f4] = true)
    (hu : P.underlying f0.type = some (.int .u64)) (hi : P.underlying f1.type = some (.int .i64)) (hi' : P.underlying f2.type = some (.int .i64)) (hj : P.underlying f3.type = some (.int .i64)) (hj' : P.underlying f4.type = some (.int .i64)) (h : DataW.trod enc P w 0 spare held fuel t cs = some x) :
    ∃ q : Rq, q.ok ∧ ∀ k, k < 5 → cs[k]? = (reqRow q)[k]? := by
  obtain ⟨xs, n, _, rfl, hl, hlen, hf⟩ := DataW.trod_struct hs h
  match xs, hlen with
  | [y0, y1, y2, y3, y4], _ =>
    obtain ⟨o0, k0⟩ := hone_of hone 0 f0 rfl
    obtain ⟨a, ea, -, wa⟩ := DataW.trod_int hu (hf 0 _ rfl)
    rw [o0, k0] at ea
    obtain ⟨o1, k1⟩ := hone_of hone 1 f1 rfl
    obtain ⟨b, eb, -, wb⟩ := DataW.trod_int hi (hf 1 _ rfl)
    rw [o1, k1] at eb
    obtain ⟨o2, k2⟩ := hone_of hone 2 f2 rfl
    obtain ⟨c, ec, -, wc⟩ := DataW.trod_int hi' (hf 2 _ rfl)
    rw [o2, k2] at ec
    obtain ⟨o3, k3⟩ := hone_of hone 3 f3 rfl
    obtain ⟨d, ed, -, wd⟩ := DataW.trod_int hj (hf 3 _ rfl)
    rw [o3, k3] at ed
    obtain ⟨o4, k4⟩ := hone_of hone 4 f4 rfl
    obtain ⟨e, ee, -, we⟩ := DataW.trod_int hj' (hf 4 _ rfl)
    rw [o4, k4] at ee
    refine ⟨⟨a, b, c, d, e⟩, ⟨wf_u64 wa, wf_i64 wb, wf_i64 wc, wf_i64 wd, wf_i64 we⟩, fun k hk => ?_⟩
    match k, hk with
    | 0, _ => exact cut1 ea
    | 1, _ => exact cut1 eb
    | 2, _ => exact cut1 ec
    | 3, _ => exact cut1 ed
    | 4, _ => exact cut1 ee
theorem req_row {spare : Nat → Bool} {held : Bool} {fuel : Nat} {cs : List Value} {x : DataW H × List MemPlace} (h : DataW.trod enc Try.prog w 0 spare held fuel 34 cs = some x) :
    ∃ q : Rq, q.ok ∧ ∀ k, k < 5 → cs[k]? = (reqRow q)[k]? := by
  exact req_row_ Try.underlying34 (by kernel_rfl) Try.underlying31 Try.underlying3 Try.underlying3 Try.underlying2 Try.underlying2 h
theorem rq_cells : Try.prog.cellsOf 34 = 5 := by kernel_rfl
end
theorem sdinfo : (Try.prog.info? 37).map (fun i => (i.zero, i.size, i.bytes)) = some (some (.int .u64 0), 1, 8) := by kernel_rfl
theorem slcell_is (h : Int) (k : Nat) (w : World) (h0 : 0 ≤ h) (h1 : h ≤ 18446744073709551615) (hk : h % 4294967296 = k) :
    Calls Try.prog 17 #[.int .u64 h] w fun e w' => e = .returned (.int .i64 (k : Int)) ∧ w = w' :=
  (slcell_any h w h0 h1).mono fun _ _ ⟨e, hw⟩ => ⟨by rw [e, hk], hw⟩
end Go.Proofs.Ytjhcppiamkkdbaa
