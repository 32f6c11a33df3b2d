/- An act is done to its end; a ring is made. -/
import Derived.Test.YtbenpnecjmpcbaaRngf
import Derived.Laws.MakeOwn
import Derived.WalkMore
import Derived.ScopeJumps
namespace Go.Proofs.Ytbenpnecjmpcbaa
open Go.RowKit
set_option linter.unusedVariables false
/-- How far an act is, read off its cell. -/
def farE (a : Nat) (w : World) : Nat := match w.cell? ⟨a, 1, none⟩ with
  | some (.int _ x) => (11 - x).toNat
  | _ => 0
set_option maxRecDepth 20000 in
set_option maxHeartbeats 1000000 in
theorem rfinish {a : Nat} (P : Int → World → Prop) (Q : World → Prop) (hn : ∀ x w, P x w → w.cell? ⟨a, 1, none⟩ = some (.int .i64 x))
    (hs : ∀ x w, P x w → Calls Try.prog 29 #[.pointer (some ⟨a, 0, none⟩)] w fun e w' => (e = .returned (.bool true) ∧ Q w') ∨ (e = .returned (.bool false) ∧ w'.cell? ⟨a, 7, none⟩ = some (.bool false) ∧ ∃ y, x < y ∧ y ≤ 10 ∧ P y w'))
    (x : Int) (w : World) (h : P x w) :
    Calls Try.prog 24 #[.pointer (some ⟨a, 0, none⟩)] w fun e w' => (∃ v, e = .returned v) ∧ Q w' := by
  go_enter Try.func24, Try.ntmps24
  go_wp2_with fail
  have hfar : ∀ y W, P y W → farE a W = (11 - y).toNat := fun y W hp => by unfold farE; rw [hn y W hp]
  have HF := Lib.hid hfar
  have HP := Lib.hid h
  clear hfar h hn
  refine wp_scope_jumps 0 (fun a' w' => ∃ (y : Int) (u2 u3 u4 u5 u6 u7 u8 u9 u10 u11 : Value), a' = { tmps := #[.pointer (some ⟨a, 0, none⟩), undef, u2, u3, u4, u5, u6, u7, u8, u9, u10, u11], defers := [] } ∧ P y w') (fun _ w' => farE a w') rfl ?_ ?_
  · go_wp2_with fail
    go_step3
    go_wp2_with fail
    refine (hs _ _ HP.out).mono ?_
    rintro e w1 (⟨rfl, hq⟩ | ⟨rfl, hc, y, hy1, hy2, hp1⟩)
    · go_wp2
      show bodyPost Try.prog Try.f24 (fun e w' => (∃ v, e = Ending.returned v) ∧ Q w') Exit.normal _ _
      refine bodyPost_end (results_none rfl _ _ _) rfl ?_
      exact ⟨⟨_, rfl⟩, hq⟩
    · have H1 := Lib.hid hp1
      clear hp1
      go_wp2
      go_step3
      exact ⟨rfl, y, _, _, _, _, _, _, _, _, _, _, rfl, H1.out⟩
  · rintro a' w' ⟨y0, u2, u3, u4, u5, u6, u7, u8, u9, u10, u11, rfl, hp0⟩
    have H0 := Lib.hid hp0
    clear hp0
    go_wp2_with fail
    refine (hs _ _ H0.out).mono ?_
    rintro e w1 (⟨rfl, hq⟩ | ⟨rfl, hc, y, hy1, hy2, hp1⟩)
    · go_wp2
      show bodyPost Try.prog Try.f24 (fun e w' => (∃ v, e = Ending.returned v) ∧ Q w') Exit.normal _ _
      refine bodyPost_end (results_none rfl _ _ _) rfl ?_
      exact ⟨⟨_, rfl⟩, hq⟩
    · have H1 := Lib.hid hp1
      clear hp1
      go_wp2
      go_step3
      exact ⟨rfl, ⟨y, _, _, _, _, _, _, _, _, _, _, rfl, H1.out⟩, by rw [HF.out _ _ H1.out, HF.out _ _ H0.out]; omega⟩
end Go.Proofs.Ytbenpnecjmpcbaa
