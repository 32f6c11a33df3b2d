/- RingPlays is true of every capacity's number and every list of picks, and changes nothing that it was given. -/
import Derived.Test.YtbenpnecjmpcbaaTi
import Derived.Test.YtbenpnecjmpcbaaRact
import Derived.Test.YtbenpnecjmpcbaaRowb
import Derived.Test.YtbenpnecjmpcbaaRows
import Derived.WalkKit
import Derived.ProofKit
import Derived.OpenShut
import Derived.Deep.DeepCutAuto
namespace Go.Proofs.Ytbenpnecjmpcbaa.ringPlays
open Go.ChangeShapes Go.WideShapes Go.ChangeAt Go.RowKit
set_option linter.unusedVariables false
theorem own : ownKnob Try.prog.godebug = none := by kernel_rfl
theorem laidOut : laidOutB Try.prog = true := by kernel_rfl
theorem reads : (Try.f3.params.toList.all fun t => Try.prog.readableRec t && decide (t < Try.prog.types.size)) = true := by kernel_rfl
theorem ts_rs {n : Nat} {s : Ts} (h : TsOk n 200 s) : RsOk n 200 s.K ⟨s.g, s.ac, [], []⟩ := ⟨h.inv, h.bd, h.ne, fun j c hc => (h.kd j c hc).2, ⟨Nat.zero_le _, Nat.zero_le _⟩⟩
theorem seq_up {w : World} {B B' : Nat} {A : Option Addr} {len sz : Nat} {row : Nat → List Value} (h : SeqAt w B A len sz row) (hb : B ≤ B') : SeqAt w B' A len sz row := fun h0 => by
  obtain ⟨b, off, e, h1, h2⟩ := h h0
  exact ⟨b, off, e, Nat.lt_of_lt_of_le h1 hb, h2⟩
set_option maxRecDepth 100000 in
set_option maxHeartbeats 4000000 in
theorem walk (x : Int) (A : Option Addr) (len cap : Nat) (Q : Nat → Pk) (w : World) (hl : len ≤ cap) (hc : cap ≤ maxLen) (hQ : SeqAt w w.heap.size A len 3 (fun i => pkRow (Q i))) (hok : ∀ i, i < len → (Q i).ok) (x0 : 0 ≤ x) (x1 : x ≤ 255) :
    Calls Try.prog 3 #[.int .u8 x, .slice A len cap] w fun e w' => e = .returned (.bool true) ∧ Below w.heap.size w w' := by
  have n2 : 2 ≤ capE x := by have := capE_cases x; omega
  have HQ := Lib.hid hQ
  have HOK := Lib.hid hok
  clear hQ hok
  go_enter Try.func3, Try.ntmps3
  go_wp2_with (first
    | (go_at_call 7; refine (awaker _).mono ?_; rintro e w0 ⟨rfl, hb0⟩)
    | (go_at_call 8; refine (topen _ x0 x1).mono ?_; rintro e w1 ⟨T, rfl, hT, hb1⟩; have hz0 := hb0.size; have hz1 := hb1.size)
    | (go_at_call 9; refine (trun (B := w0.heap.size) w1 n2 hz1 hT (ts0_ok (by omega) _) ((seq_up (HQ.out.below hb0) hz0).below hb1) HOK.out hl hc).mono ?_; rintro e w2 ⟨v2, T2, rfl, et2, hT2, ok2, -, hb2⟩; have hz2 := hb2.size)
    | (go_at_call 10; rw [← et2]; refine (trest (B := w0.heap.size) (s0 := ⟨_, _, [], []⟩) w2 n2 (by omega) hT2 (ts_rs ok2) (by omega) rfl rfl).mono ?_; rintro e w3 ⟨v5, v6, rfl, hR⟩))
  go_ret
  exact ⟨rfl, (hb0.trans (hb1.mono hz0)).trans ((hb2.mono hz0).trans (hR.bl.mono hz0))⟩
set_option maxRecDepth 100000 in
theorem lifted (os : Os) (started : os.Started) (H : Type) (enc : TypeId × Value → H) :
    ReturnsInHanded {} Try.checked os 3 .any (Rows.ringPlaysSpec.pre6 enc Try.prog Try.f3 Rows.ringPlaysRow.domain false) (Rows.ringPlaysSpec.post enc Try.prog Try.f3 false true false false) := by
  refine returnsInHanded_of_change (C := Try.checked) own started (by kernel_rfl) Try.func3
    (ChangeSpec.witness6 (enc := enc) (C := Try.checked) false ⟨#[], #[.int .u8 0, .slice none 0 0], []⟩ 8 (by kernel_rfl) (by kernel_rfl) (by kernel_rfl) (by kernel_rfl)) ?_
  intro W base args ds gs before hval0 hW hcnd _
  have hval : ∀ (j : Nat) t v, Try.f3.params[j]? = some t → args[j]? = some v → Value.okWide Try.prog W .any base t v := hval0
  have hW' := hW
  obtain ⟨p, q, hA0, hV, rfl, hfz, hnd⟩ := hW
  have hA : DataW.TrodAll enc Try.prog W 0 (fun _ => true) true Try.f3.params.toList args.toList ds p := hA0
  rw [Try.params3] at hA hval
  obtain ⟨v0, vs0, d0, ds0, p0, q0, hargs, rfl, rfl, h0, r0⟩ := trodAll_cons hA
  obtain ⟨v1, vs1, d1, ds1, p1, q1, rfl, rfl, rfl, h1, r1⟩ := trodAll_cons r0
  obtain ⟨rfl, rfl, rfl⟩ := trodAll_nil r1
  obtain rfl : args = #[v0, v1] := by cases args; simp_all
  obtain ⟨rfl, rfl⟩ := trodVars_none hV
  obtain ⟨a0, rfl, rfl, rfl, w0⟩ := open_int Try.underlying5 (hval 0 _ v0 rfl rfl) h0
  obtain ⟨A1, len1, cap1, rfl⟩ := okWide_slice Try.underlying22 (hval 1 _ v1 rfl rfl)
  obtain ⟨fu1, g1⟩ := h1
  obtain ⟨s1, t1, Q1, u1, o1⟩ := open_pks g1
  clear hA0 hval0
  obtain ⟨l0, m0⟩ := wf_u8 w0
  refine (walk a0 A1 len1 cap1 Q1 W s1 t1 u1 o1 l0 m0).mono fun e W' ⟨he, hg⟩ => ?_
  subst he
  exact ⟨_, rfl, post_of_law hW' rfl laidOut reads rfl Try.underlying4 rfl rfl rfl hg⟩
theorem over : Rows.ringPlaysRow.holds Try.pinned (OpenSpec.ofChange Rows.ringPlaysSpec) :=
  OpenClaim.holds_of_wide 3 Try.f3 rfl rfl rfl rfl rfl rfl rfl ⟨rfl, rfl, rfl, rfl, rfl⟩ rfl rfl rfl rfl rfl (by kernel_rfl) Try.func3 (by kernel_rfl)
    (of_decide_eq_true (by kernel_rfl)) (by unfold Func.isWrapper; first | (rw [if_pos (by decide +kernel)]; kernel_rfl) | (rw [if_neg (by decide +kernel)]; exact ⟨rfl, rfl⟩))
    (fun os started H enc _ => lifted os started H enc)
theorem proved : Rows.RingPlaysSaid := over
end Go.Proofs.Ytbenpnecjmpcbaa.ringPlays
