/- A step of an act, whichever comes next. -/
import Derived.Test.YtbenpnecjmpcbaaFnq
import Derived.Test.YtbenpnecjmpcbaaRngf
namespace Go.Proofs.Ytbenpnecjmpcbaa
open Go.RowKit
set_option linter.unusedVariables false
set_option linter.unusedSimpArgs false
section
variable {r s n : Nat} {g : Rg}
set_option maxRecDepth 100000 in
theorem rstep_end {a : Nat} {cn : Int} {cp cl : Nat} {cu cq : Int} {cr cs : Bool} (w : World) (h : RingAt w r s n g) (ha : ActAt w a r ⟨cn, cp, cl, cu, cq, cr, cs⟩) (he : endE cn = true) :
    Calls Try.prog 29 #[.pointer (some ⟨a, 0, none⟩)] w fun e w' => e = .returned (.bool true) ∧ w = w' := by
  have hc := rended w ha
  rw [he] at hc
  have HC := Lib.hid hc
  clear h ha he hc
  go_enter Try.func29, Try.ntmps29
  go_wp2_with (go_at_call 20; refine HC.out.mono ?_; rintro e w1 ⟨rfl, rfl⟩)
  go_ret
  exact ⟨rfl, rfl⟩
theorem rstep_any {a : Nat} {c : Ac} (w : World) (h : RingAt w r s n g) (ha : ActAt w a r c) (h0 : 0 ≤ c.nx ∧ c.nx ≤ 10) (hp : c.po ≤ 900000) (hl : c.pl ≤ 900000) (hT : g.T ≤ 900000) (hS : ∀ j, g.S j ≤ 1000000) :
    Calls Try.prog 29 #[.pointer (some ⟨a, 0, none⟩)] w fun e w' => e = .returned (.bool (endE (acS n g c).nx)) ∧ RingAt w' r s n (rgS n g c) ∧ ActAt w' a r (acS n g c) ∧ Kept (Mine a r s) w w' := by
  obtain ⟨nx, po, pl, pu, pp, rd, st⟩ := c
  obtain ⟨h1, h2⟩ := h0
  have hq : nx = 0 ∨ nx = 1 ∨ nx = 2 ∨ nx = 3 ∨ nx = 4 ∨ nx = 5 ∨ nx = 6 ∨ nx = 7 ∨ nx = 8 ∨ nx = 9 ∨ nx = 10 := by
    have h1' : 0 ≤ nx := h1
    have h2' : nx ≤ 10 := h2
    omega
  rcases hq with rfl | rfl | rfl | rfl | rfl | rfl | rfl | rfl | rfl | rfl | rfl
  · rw [show acS n g ⟨0, po, pl, pu, pp, rd, st⟩ = ⟨0, po, pl, pu, pp, rd, st⟩ by simp [acS], show rgS n g ⟨0, po, pl, pu, pp, rd, st⟩ = g by simp [rgS]]
    refine (rstep_end w h ha (by decide)).mono ?_
    rintro e w' ⟨rfl, rfl⟩
    exact ⟨rfl, h, ha, Kept.refl _ _⟩
  · rw [show acS n g ⟨1, po, pl, pu, pp, rd, st⟩ = ⟨1, po, pl, pu, pp, rd, st⟩ by simp [acS], show rgS n g ⟨1, po, pl, pu, pp, rd, st⟩ = g by simp [rgS]]
    refine (rstep_end w h ha (by decide)).mono ?_
    rintro e w' ⟨rfl, rfl⟩
    exact ⟨rfl, h, ha, Kept.refl _ _⟩
  · rw [show acS n g ⟨2, po, pl, pu, pp, rd, st⟩ = ⟨3, g.T, pl, pu, pp, true, rd && decide (g.T = po)⟩ by simp [acS], show rgS n g ⟨2, po, pl, pu, pp, rd, st⟩ = g by simp [rgS]]
    exact rstep2 w h ha
  · rw [show acS n g ⟨3, po, pl, pu, pp, rd, st⟩ = ⟨lookE (g.S (po % n)) po 4 2, po, pl, pu, pp, rd, st⟩ by simp [acS], show rgS n g ⟨3, po, pl, pu, pp, rd, st⟩ = g by simp [rgS]]
    exact rstep3 w h ha rfl hp (hS _)
  · by_cases hx : g.T = po
    · rw [show acS n g ⟨4, po, pl, pu, pp, rd, st⟩ = ⟨6, po, po, pu, pp, rd, st⟩ by simp [acS, hx], show rgS n g ⟨4, po, pl, pu, pp, rd, st⟩ = { g with T := po + 1 } by simp [rgS, hx]]
      exact rstep4h w h ha hp hx
    · rw [show acS n g ⟨4, po, pl, pu, pp, rd, st⟩ = ⟨2, po, pl, pu, pp, rd, st⟩ by simp [acS, hx], show rgS n g ⟨4, po, pl, pu, pp, rd, st⟩ = g by simp [rgS, hx]]
      exact rstep4m w h ha hp hx
  · rw [show acS n g ⟨5, po, pl, pu, pp, rd, st⟩ = ⟨6, po, g.T, pu, pp, rd, st⟩ by simp [acS], show rgS n g ⟨5, po, pl, pu, pp, rd, st⟩ = { g with T := g.T + 1 } by simp [rgS]]
    exact rstep5 w h ha hT
  · rw [show acS n g ⟨6, po, pl, pu, pp, rd, st⟩ = ⟨1, po, pl, pu, pp, rd, st⟩ by simp [acS], show rgS n g ⟨6, po, pl, pu, pp, rd, st⟩ = { g with S := fun i => if i = pl % n then pl + 1 else g.S i, V := fun i => if i = pl % n then pu else g.V i } by simp [rgS]]
    exact rstep6 w h ha rfl hl
  · rw [show acS n g ⟨7, po, pl, pu, pp, rd, st⟩ = ⟨8, g.H, pl, pu, pp, true, rd && decide (g.H = po)⟩ by simp [acS], show rgS n g ⟨7, po, pl, pu, pp, rd, st⟩ = g by simp [rgS]]
    exact rstep7 w h ha
  · rw [show acS n g ⟨8, po, pl, pu, pp, rd, st⟩ = ⟨lookE (g.S (po % n)) (po + 1) 9 7, po, pl, pu, pp, rd, st⟩ by simp [acS], show rgS n g ⟨8, po, pl, pu, pp, rd, st⟩ = g by simp [rgS]]
    exact rstep8 w h ha rfl hp (hS _)
  · by_cases hx : g.H = po
    · rw [show acS n g ⟨9, po, pl, pu, pp, rd, st⟩ = ⟨10, po, po, pu, pp, rd, st⟩ by simp [acS, hx], show rgS n g ⟨9, po, pl, pu, pp, rd, st⟩ = { g with H := po + 1 } by simp [rgS, hx]]
      exact rstep9h w h ha hp hx
    · rw [show acS n g ⟨9, po, pl, pu, pp, rd, st⟩ = ⟨7, po, pl, pu, pp, rd, st⟩ by simp [acS, hx], show rgS n g ⟨9, po, pl, pu, pp, rd, st⟩ = g by simp [rgS, hx]]
      exact rstep9m w h ha hp hx
  · rw [show acS n g ⟨10, po, pl, pu, pp, rd, st⟩ = ⟨1, po, pl, pu, g.V (pl % n), rd, st⟩ by simp [acS], show rgS n g ⟨10, po, pl, pu, pp, rd, st⟩ = { g with S := fun i => if i = pl % n then pl + n else g.S i } by simp [rgS]]
    exact rstep10 w h ha rfl hl
end
end Go.Proofs.Ytbenpnecjmpcbaa
