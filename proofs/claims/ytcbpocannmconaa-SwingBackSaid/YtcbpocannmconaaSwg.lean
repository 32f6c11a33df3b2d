/- Package swing: the document's example; rows of whole numbers that come in. -/
import Derived.Test.YtcbpocannmconaaSwe
import Derived.Test.YtcbpocannmconaaRow
import Derived.ChangeArms
namespace Go.Proofs.Ytcbpocannmconaa
open Go.RowKit Go.ChangeShapes Go.WideShapes Go.Deep
set_option linter.unusedVariables false
set_option linter.unusedSimpArgs false
theorem SeqAt.up {w w' : World} {B B' : Nat} {A : Option Addr} {len sz : Nat} {row : Nat → List Value} (h : SeqAt w B A len sz row) (hb : Below B w w') (hB : B ≤ B') : SeqAt w' B' A len sz row := by
  intro hl
  obtain ⟨b, off, e, hk, hc⟩ := h.below hb hl
  exact ⟨b, off, e, Nat.lt_of_lt_of_le hk hB, hc⟩
def a4 : Nat → Int
  | 1 => 2
  | 2 => 2
  | _ => 0
def b4 : Nat → Int
  | 2 => 2
  | 3 => 2
  | _ => 0
def x4 : Nat → Nat
  | 1 => 4611686018427387904
  | 2 => 4611686018427387904
  | _ => 0
def y4 : Nat → Nat
  | 2 => 4611686018427387904
  | 3 => 4611686018427387904
  | _ => 0
theorem four_pts {w : World} {g B : Nat} (hb : Blk w g 28 #[.complex .f64 0 0, .complex .f64 4611686018427387904 0, .complex .f64 4611686018427387904 4611686018427387904, .complex .f64 0 4611686018427387904]) (hg : g < B) : Pts w B (some ⟨g, 0, none⟩) 4 a4 b4 := by
  intro _
  refine ⟨g, 0, x4, y4, rfl, hg, fun i hi => ?_⟩
  match i, hi with
  | 0, _ => exact ⟨hb.val rfl, Fl.zero, Fl.zero, by decide, by decide⟩
  | 1, _ => exact ⟨hb.val rfl, Fl.two, Fl.zero, by decide, by decide⟩
  | 2, _ => exact ⟨hb.val rfl, Fl.two, Fl.two, by decide, by decide⟩
  | 3, _ => exact ⟨hb.val rfl, Fl.zero, Fl.two, by decide, by decide⟩
set_option maxHeartbeats 2000000 in
theorem awake12 (w : World) : Calls Try.prog 7 #[] w fun e w' => e = .returned (.bool true) ∧ Below w.heap.size w w' := by
  have e8 : areaS a4 b4 4 4 = 8 := by decide +kernel
  have e1 : turnS a4 b4 1 1 4 4 = 1 := by decide +kernel
  go_enter Try.func7, Try.ntmps7
  go_wp2_with fail
  refine (area_any (w := w.alloc _) (B := w.heap.size + 1) (four_pts (Blk.made w _ _) (by omega)) (by simp) (by omega)).mono ?_
  rw [e8]
  rintro e x2 ⟨rfl, hb2⟩
  have HB2 := Lib.hid (((Below.refl w.heap.size w).alloc (Nat.le_refl _) (.cells #[.complex .f64 0 0, .complex .f64 4611686018427387904 0, .complex .f64 4611686018427387904 4611686018427387904, .complex .f64 0 4611686018427387904] 28)).trans (hb2.mono (by simp)))
  have HP := Lib.hid ((four_pts (Blk.made w 28 #[.complex .f64 0 0, .complex .f64 4611686018427387904 0, .complex .f64 4611686018427387904 4611686018427387904, .complex .f64 0 4611686018427387904]) (B := w.heap.size + 1) (by omega)).below (hb2.mono (by simp)))
  have hs : w.heap.size + 1 ≤ x2.heap.size := by have := hb2.size; simp at this; omega
  clear hb2
  go_wp2_with fail
  refine (turns_any HP.out hs Fl.one Fl.one (by decide) (by decide) (by omega)).mono ?_
  rw [e1]
  rintro e x3 ⟨rfl, hb3⟩
  have HB3 := Lib.hid (HB2.out.trans (hb3.mono (by omega)))
  clear hb3
  go_wp2_with fail
  go_ret
  exact ⟨rfl, HB3.out⟩
section
variable {H : Type} {enc : TypeId × Value → H} {w : World}
theorem open_ints_ {P : Program} {k : IntKind} {lo hi : Int} (hlh : lo ≤ 0 ∧ 0 ≤ hi) {t e : TypeId} {fuel : Nat} {A : Option Addr} {len cap : Nat} {x : DataW H × List MemPlace} (ht : P.underlying t = some (.slice e)) (he : P.underlying e = some (.int k)) (hC : P.cellsOf e = 1) (hw : ∀ a : Int, (Lit.int k a).wf = true → lo ≤ a ∧ a ≤ hi) (h : DataW.trod enc P w 0 (fun _ => true) true fuel t [.slice A len cap] = some x) :
    len ≤ cap ∧ cap ≤ maxLen ∧ ∃ K : Nat → Int, SeqAt w w.heap.size A len 1 (fun i => [.int k (K i)]) ∧ ∀ i, lo ≤ K i ∧ K i ≤ hi := by
  obtain ⟨h1, h2, row, hs, hr⟩ := open_seq ht hC (by omega) h
  have hq : ∀ i, ∃ b : Int, (lo ≤ b ∧ b ≤ hi) ∧ (i < len → row i = [.int k b]) := by
    intro i
    by_cases hi : i < len
    · obtain ⟨_, n, y, hy⟩ := hr i hi
      obtain ⟨c, hc, _, wc⟩ := DataW.trod_int he hy
      exact ⟨c, hw c wc, fun _ => hc⟩
    · exact ⟨0, hlh, fun h => absurd h hi⟩
  refine ⟨h1, h2, fun i => (hq i).choose, fun h0 => ?_, fun i => (hq i).choose_spec.1⟩
  obtain ⟨b, off, e, hb, hc⟩ := hs h0
  exact ⟨b, off, e, hb, fun i hi k hk => (hc i hi k hk).trans (by rw [(hq i).choose_spec.2 hi])⟩
theorem open_i64s {fuel : Nat} {A : Option Addr} {len cap : Nat} {x : DataW H × List MemPlace} (h : DataW.trod enc Try.prog w 0 (fun _ => true) true fuel 22 [.slice A len cap] = some x) :
    len ≤ cap ∧ cap ≤ maxLen ∧ ∃ K : Nat → Int, SeqAt w w.heap.size A len 1 (fun i => [.int .i64 (K i)]) ∧ ∀ i, -9223372036854775808 ≤ K i ∧ K i ≤ 9223372036854775807 :=
  open_ints_ (by decide) Try.underlying22 Try.underlying2 (by kernel_rfl) (fun a ha => wf_i64 ha) h
end
end Go.Proofs.Ytcbpocannmconaa
