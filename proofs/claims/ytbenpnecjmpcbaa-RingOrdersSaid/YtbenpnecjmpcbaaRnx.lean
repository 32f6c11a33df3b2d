/- The document's act beside the program's: the same step. -/
import Derived.Test.YtbenpnecjmpcbaaRnw
import Derived.Test.YtbenpnecjmpcbaaRefz
import Derived.Test.YtbenpnecjmpcbaaRefw
namespace Go.Proofs.Ytbenpnecjmpcbaa
open Go.RowKit
set_option linter.unusedVariables false
set_option linter.unusedSimpArgs false
/-- Which of the document's steps is next. -/
def dnx (x : Int) : Int := if x = 2 ∨ x = 7 then 1 else if x = 3 ∨ x = 8 then 2 else if x = 4 ∨ x = 9 then 3 else if x = 6 ∨ x = 10 then 4 else 0
/-- A push (K = 0) or a pop (K = 2), and where its steps lie. -/
def AcK (K : Int) (c : Ac) : Prop :=
  (K = 0 ∧ c.pp = 0 ∧ (c.nx = 0 ∨ c.nx = 1 ∨ c.nx = 2 ∨ c.nx = 3 ∨ c.nx = 4 ∨ c.nx = 6)) ∨ (K = 2 ∧ (c.nx ≠ 1 → c.pp = 0) ∧ (c.nx = 0 ∨ c.nx = 1 ∨ c.nx = 7 ∨ c.nx = 8 ∨ c.nx = 9 ∨ c.nx = 10))
def dv (K : Int) (c : Ac) : Int := if K = 0 then c.pu else c.pp
/-- The document's act as the program's numbers tell it. -/
def YOf (w : World) (y : Nat) (K : Int) (c : Ac) : Prop := YAt w y K (dnx c.nx) c.po c.pl (dv K c) (decide (c.nx = 1))
section
variable {q b d n cb cd : Nat} {g : Rg}
theorem yvalue_any {y : Nat} {K : Int} {c : Ac} (w : World) (hy : YOf w y K c) (hk : AcK K c) :
    Calls Try.prog 31 #[.pointer (some ⟨y, 0, none⟩)] w fun e w' => e = .returned (.int .u64 c.pp) ∧ w = w' := by
  rcases hk with ⟨rfl, hp, -⟩ | ⟨rfl, hp, -⟩
  · rw [hp]
    exact yvalue0 w hy
  · by_cases h1 : c.nx = 1
    · have hy' : YAt w y 2 (dnx c.nx) c.po c.pl c.pp true := by
        have := hy
        unfold YOf at this
        rw [show (decide (c.nx = 1)) = true by simp [h1], show dv 2 c = c.pp from if_neg (by decide)] at this
        exact this
      exact yvalue2y w hy'
    · have hy' : YAt w y 2 (dnx c.nx) c.po c.pl c.pp false := by
        have := hy
        unfold YOf at this
        rw [show (decide (c.nx = 1)) = false by simp [h1], show dv 2 c = c.pp from if_neg (by decide)] at this
        exact this
      rw [hp h1]
      exact yvalue2n w hy'
theorem ystep_any {y : Nat} {K : Int} {c : Ac} (w : World) (h : XAt w q b d n cb cd g) (hy : YOf w y K c) (hk : AcK K c) (h2 : 2 ≤ c.nx) (hp : c.po ≤ 900000) (hl : c.pl ≤ 900000) (hS : ∀ j, g.S j ≤ 1000000) :
    Calls Try.prog 30 #[.pointer (some ⟨q, 0, none⟩), .pointer (some ⟨y, 0, none⟩)] w fun e w' => (∃ u, e = .returned u) ∧ XAt w' q b d n cb cd (rgS n g c) ∧ YOf w' y K (acS n g c) ∧ Kept (Our y q b d) w w' := by
  obtain ⟨nx, po, pl, pu, pp, rd, st⟩ := c
  have h2' : 2 ≤ nx := h2
  rcases hk with ⟨rfl, hpp, hx⟩ | ⟨rfl, hpp, hx⟩
  · have hx' : nx = 0 ∨ nx = 1 ∨ nx = 2 ∨ nx = 3 ∨ nx = 4 ∨ nx = 6 := hx
    rcases hx' with rfl | rfl | rfl | rfl | rfl | rfl
    · omega
    · omega
    · rw [show acS n g ⟨2, po, pl, pu, pp, rd, st⟩ = ⟨3, g.T, pl, pu, pp, true, rd && decide (g.T = po)⟩ by simp [acS], show rgS n g ⟨2, po, pl, pu, pp, rd, st⟩ = g by simp [rgS]]
      exact y0_1 w h hy
    · rw [show acS n g ⟨3, po, pl, pu, pp, rd, st⟩ = ⟨lookE (g.S (po % n)) po 4 2, po, pl, pu, pp, rd, st⟩ by simp [acS], show rgS n g ⟨3, po, pl, pu, pp, rd, st⟩ = g by simp [rgS]]
      rcases look_is (S := g.S (po % n)) (r := po) (x := 4) (y := 2) with ⟨e, e2⟩ | ⟨e, e2⟩ | ⟨e, e2⟩ <;> rw [e]
      · exact y0_2e w h hy rfl hp (hS _) e2
      · exact y0_2l w h hy rfl hp (hS _) e2
      · exact y0_2g w h hy rfl hp (hS _) e2
    · by_cases e : g.T = po
      · rw [show acS n g ⟨4, po, pl, pu, pp, rd, st⟩ = ⟨6, po, po, pu, pp, rd, st⟩ by simp [acS, e], show rgS n g ⟨4, po, pl, pu, pp, rd, st⟩ = { g with T := po + 1 } by simp [rgS, e]]
        exact y0_3h w h hy hp e
      · rw [show acS n g ⟨4, po, pl, pu, pp, rd, st⟩ = ⟨2, po, pl, pu, pp, rd, st⟩ by simp [acS, e], show rgS n g ⟨4, po, pl, pu, pp, rd, st⟩ = g by simp [rgS, e]]
        exact y0_3m w h hy e
    · rw [show acS n g ⟨6, po, pl, pu, pp, rd, st⟩ = ⟨1, po, pl, pu, pp, rd, st⟩ by simp [acS], show rgS n g ⟨6, po, pl, pu, pp, rd, st⟩ = { g with S := fun i => if i = pl % n then pl + 1 else g.S i, V := fun i => if i = pl % n then pu else g.V i } by simp [rgS]]
      exact y0_4 w h hy rfl hl
  · have hx' : nx = 0 ∨ nx = 1 ∨ nx = 7 ∨ nx = 8 ∨ nx = 9 ∨ nx = 10 := hx
    rcases hx' with rfl | rfl | rfl | rfl | rfl | rfl
    · omega
    · omega
    · rw [show acS n g ⟨7, po, pl, pu, pp, rd, st⟩ = ⟨8, g.H, pl, pu, pp, true, rd && decide (g.H = po)⟩ by simp [acS], show rgS n g ⟨7, po, pl, pu, pp, rd, st⟩ = g by simp [rgS]]
      exact y2_1 w h hy
    · rw [show acS n g ⟨8, po, pl, pu, pp, rd, st⟩ = ⟨lookE (g.S (po % n)) (po + 1) 9 7, po, pl, pu, pp, rd, st⟩ by simp [acS], show rgS n g ⟨8, po, pl, pu, pp, rd, st⟩ = g by simp [rgS]]
      rcases look_is (S := g.S (po % n)) (r := po + 1) (x := 9) (y := 7) with ⟨e, e2⟩ | ⟨e, e2⟩ | ⟨e, e2⟩ <;> rw [e]
      · exact y2_2e w h hy rfl hp (hS _) e2
      · exact y2_2l w h hy rfl hp (hS _) e2
      · exact y2_2g w h hy rfl hp (hS _) e2
    · by_cases e : g.H = po
      · rw [show acS n g ⟨9, po, pl, pu, pp, rd, st⟩ = ⟨10, po, po, pu, pp, rd, st⟩ by simp [acS, e], show rgS n g ⟨9, po, pl, pu, pp, rd, st⟩ = { g with H := po + 1 } by simp [rgS, e]]
        exact y2_3h w h hy hp e
      · rw [show acS n g ⟨9, po, pl, pu, pp, rd, st⟩ = ⟨7, po, pl, pu, pp, rd, st⟩ by simp [acS, e], show rgS n g ⟨9, po, pl, pu, pp, rd, st⟩ = g by simp [rgS, e]]
        exact y2_3m w h hy e
    · rw [show acS n g ⟨10, po, pl, pu, pp, rd, st⟩ = ⟨1, po, pl, pu, g.V (pl % n), rd, st⟩ by simp [acS], show rgS n g ⟨10, po, pl, pu, pp, rd, st⟩ = { g with S := fun i => if i = pl % n then pl + n else g.S i } by simp [rgS]]
      exact y2_4 w h hy rfl hl
end
theorem acS_K {n : Nat} {g : Rg} {K : Int} {c : Ac} (hk : AcK K c) : AcK K (acS n g c) := by
  obtain ⟨nx, po, pl, pu, pp, rd, st⟩ := c
  rcases hk with ⟨rfl, hpp, hx⟩ | ⟨rfl, hpp, hx⟩
  · have hx' : nx = 0 ∨ nx = 1 ∨ nx = 2 ∨ nx = 3 ∨ nx = 4 ∨ nx = 6 := hx
    have hp' : pp = 0 := hpp
    subst hp'
    left
    rcases hx' with rfl | rfl | rfl | rfl | rfl | rfl
    · simp [acS]
    · simp [acS]
    · simp [acS]
    · rcases look_is (S := g.S (po % n)) (r := po) (x := 4) (y := 2) with ⟨e, e2⟩ | ⟨e, e2⟩ | ⟨e, e2⟩ <;> simp [acS, e]
    · by_cases e : g.T = po <;> simp [acS, e]
    · simp [acS]
  · have hx' : nx = 0 ∨ nx = 1 ∨ nx = 7 ∨ nx = 8 ∨ nx = 9 ∨ nx = 10 := hx
    have hp' : nx ≠ 1 → pp = 0 := hpp
    right
    rcases hx' with rfl | rfl | rfl | rfl | rfl | rfl
    · have := hp' (by decide)
      simp [acS, this]
    · simp [acS]
    · have := hp' (by decide)
      simp [acS, this]
    · have := hp' (by decide)
      rcases look_is (S := g.S (po % n)) (r := po + 1) (x := 9) (y := 7) with ⟨e, e2⟩ | ⟨e, e2⟩ | ⟨e, e2⟩ <;> simp [acS, e, this]
    · have := hp' (by decide)
      by_cases e : g.H = po <;> simp [acS, e, this]
    · simp [acS]
end Go.Proofs.Ytbenpnecjmpcbaa
