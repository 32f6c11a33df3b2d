/- The log's own calls: New, Len, Add, isOf, classOf, All, Clone, Copy, Since. -/
import Derived.Test.YtidkemgibehpcaaTla
import Derived.Outline
import Derived.RegionTactic
import Derived.BigRegion
import Derived.WalkSpells
import Derived.Laws.Pointers
import Derived.WalkKit
import Derived.ProofKit
import Derived.OpenShut
import Derived.Below
import Derived.IntWalk
import Derived.Deep.DeepCutAuto
import Derived.Deep.RegionHeld3
import Derived.Deep.RegionWith
import Derived.BigQuiet
import Derived.Deep.QuietTactic
namespace Go.Proofs.Ytidkemgibehpcaa
open Go.RowKit Go.ChangeShapes Go.WideShapes Go.Deep
set_option linter.unusedVariables false
set_option linter.unusedSimpArgs false
abbrev tT : TypeId := 45
abbrev rT : TypeId := 33
/-- Behind p lies a log of the outcomes L; they lie in block r. -/
structure LogAt (base : Nat) (w : World) (p : Nat) (r : Option Nat) (L : List Oc) : Prop where
  ex : ∃ v, Blk w p 57 #[v] ∧ OwO tT w base v L ∧ v.ownBlock = r
section
variable {base p : Nat} {r : Option Nat} {w w' : World} {L : List Oc}
theorem LogAt.lt (h : LogAt base w p r L) : p < w.heap.size := by obtain ⟨v, hb, _⟩ := h.ex; exact hb.size
theorem LogAt.head (h : LogAt base w p r L) : ∃ cs, Blk w p 57 cs := by obtain ⟨v, hb, _⟩ := h.ex; exact ⟨_, hb⟩
theorem LogAt.row (h : LogAt base w p r L) {g : Nat} (hg : r = some g) : base ≤ g ∧ ∃ cs, Blk w g tT cs := by
  obtain ⟨v, _, ho, rfl⟩ := h.ex
  exact ho.own_lt hg
theorem LogAt.kept {own : Nat → Prop} (h : LogAt base w p r L) (hk : Kept own w w') (hp : ¬ own p) (hr : ∀ g, r = some g → ¬ own g) : LogAt base w' p r L := by
  obtain ⟨v, hb, ho, rfl⟩ := h.ex
  exact ⟨v, hb.kept hk hp, ho.kept hk hr, rfl⟩
theorem LogAt.below (h : LogAt base w p r L) (hb : Below w.heap.size w w') : LogAt base w' p r L := h.kept (own := fun _ => False) (Kept.of_below hb) id fun _ _ h => h
theorem LogAt.slice (h : LogAt base w p r L) : ∃ A c, w.cell? ⟨p, 0, none⟩ = some (.slice A L.length c) ∧ RdO w w.heap.size A L ∧ (A = none ∧ L.length = 0 ∧ c = 0 ∨ ∃ g, r = some g ∧ A = some ⟨g, 0, none⟩) ∧ OwO tT w base (.slice A L.length c) L ∧ Blk w p 57 #[.slice A L.length c] ∧ (Value.slice A L.length c).ownBlock = r := by
  obtain ⟨v, hb, ho, hr⟩ := h.ex
  obtain ⟨A, c, rfl, hd, hc⟩ := ho.rd
  refine ⟨A, c, hb.val rfl, hd, ?_, ho, hb, hr⟩
  rcases hc with ⟨_, h1, h2, h3⟩ | ⟨g, h1, h2, _⟩
  · exact .inl ⟨h1, h2, h3⟩
  · exact .inr ⟨g, by rw [← hr]; exact h1, h2⟩
set_option maxHeartbeats 1000000 in
theorem tnew (w : World) (hb : base ≤ w.heap.size) : Calls Try.prog 24 #[] w fun e w' => e = .returned (.pointer (some ⟨w.heap.size, 0, none⟩)) ∧ LogAt base w' w.heap.size none [] ∧ Below w.heap.size w w' ∧ w'.heap.size = w.heap.size + 1 := by
  go_enter Try.func24, Try.ntmps24
  go_wp2_with fail
  go_ret
  exact ⟨rfl, ⟨_, Blk.made w _ _, OwO.nil_ _ _ _, rfl⟩, (Below.refl _ _).alloc (Nat.le_refl _) _, by simp⟩
set_option maxHeartbeats 1000000 in
theorem tlen (w : World) (h : LogAt base w p r L) : Calls Try.prog 11 #[.pointer (some ⟨p, 0, none⟩)] w fun e w' => e = .returned (.int .i64 (L.length : Int)) ∧ w = w' := by
  obtain ⟨A, c, h0, -⟩ := h.slice
  clear h
  go_enter Try.func11, Try.ntmps11
  go_wp2_with fail
  go_ret
  exact ⟨rfl, rfl⟩
set_option maxHeartbeats 1000000 in
theorem tlen_nil (w : World) : Calls Try.prog 11 #[.pointer none] w fun e w' => e = .returned (.int .i64 0) ∧ w = w' := by
  go_enter Try.func11, Try.ntmps11
  go_wp2_with fail
  go_ret
  exact ⟨rfl, rfl⟩
/-- Is it of that tier (below 0: of any)? -/
def isOfB (tier : Int) (o : Oc) : Bool := decide (tier < 0) || (o.b == tier)
set_option maxHeartbeats 1000000 in
theorem tisof (o : Oc) (tier : Int) (w : World) : Calls Try.prog 25 #[o.v, .int .i64 tier] w fun e w' => e = .returned (.bool (isOfB tier o)) ∧ Below w.heap.size w w' := by
  unfold isOfB
  by_cases ht : tier < 0
  · have e : decide (tier < 0) = true := decide_eq_true ht
    rw [e, Bool.true_or]
    go_enter Try.func25, Try.ntmps25
    go_wp2_with fail
    go_ret
    exact ⟨rfl, (Below.refl _ _).alloc (Nat.le_refl _) _⟩
  · have e : decide (tier < 0) = false := decide_eq_false ht
    rw [e, Bool.false_or]
    go_enter Try.func25, Try.ntmps25
    go_wp2_with fail
    go_ret
    exact ⟨rfl, (Below.refl _ _).alloc (Nat.le_refl _) _⟩
set_option maxHeartbeats 1000000 in
theorem tall_made (q : Option Addr) (why : Int) (w : World) : Calls Try.prog 21 #[.pointer q, .int .u8 why] w fun e w' => e = .returned (.func (.func 30) #[] #[.pointer (some ⟨w.heap.size, 0, none⟩), .pointer (some ⟨w.heap.size + 1, 0, none⟩)]) ∧
    w'.cell? ⟨w.heap.size, 0, none⟩ = some (.pointer q) ∧ w'.cell? ⟨w.heap.size + 1, 0, none⟩ = some (.int .u8 why) ∧ Below w.heap.size w w' ∧ w'.heap.size = w.heap.size + 2 := by
  go_enter Try.func21, Try.ntmps21
  go_wp2_with fail
  go_ret
  refine ⟨rfl, ?_, ?_, ?_, by simp⟩
  · exact ((Blk.made w _ _).alloc_ _).val rfl
  · exact (Blk.new_ (by simp)).val rfl
  · exact ((Below.refl _ w).alloc (Nat.le_refl _) _).alloc (by simp) _
set_option maxHeartbeats 2000000 in
theorem tclone {A : Option Addr} {c B : Nat} (w : World) (h : RdO w B A L) (hA : A = none ∧ L.length = 0 ∧ c = 0 ∨ ∃ ad, A = some ad) (hB : B ≤ w.heap.size) (hl : L.length ≤ 10000) :
    Calls Try.prog 28 #[.slice A L.length c] w fun e w' => ∃ v', e = .returned v' ∧ OwO tT w' w.heap.size v' L ∧ Below w.heap.size w w' := by
  have q22 : ∀ (w : World) (a : Option Addr) (n c n' c' : Nat), (binOp .eql 22 (.slice a n c) (.slice none n' c')).run Try.prog w = .ok (.bool a.isNone) w := fun w a n c n' c' => Lib.run_eql_slice_nil w _ _ a n c n' c' Try.underlying22
  rcases hA with ⟨rfl, h0, rfl⟩ | ⟨ad, rfl⟩
  · obtain rfl : L = [] := List.eq_nil_of_length_eq_zero h0
    go_enter Try.func28, Try.ntmps28
    go_wp2_with fail
    go_ret
    exact ⟨_, rfl, OwO.nil_ _ _ _, Below.refl _ _⟩
  · have HP := Lib.hid h
    clear h
    have hown0 : OwO tT (w.alloc (.cells #[] tT)) w.heap.size (.slice (some ⟨w.heap.size, 0, none⟩) 0 0) [] := World.ownsRow_lit w #[] 0 (Nat.le_refl _) (by decide) rfl
    have HO := Lib.hid hown0
    clear hown0
    go_enter Try.func28, Try.ntmps28
    go_wp2_with (at_builtin; refine wpList_ocs tlinfo Try.underlying22 rfl (.tmp 5) (.tmp 6) rfl rfl rfl HO.out (SeqAt.below HP.out ((Below.refl _ _).alloc hB _)) (by simp; omega) (by simp) ?_; intro v5 w5 hown5 hg5 _; have HO5 := Lib.hid hown5; have HB5 := Lib.hid (((Below.refl w.heap.size w).alloc (Nat.le_refl _) (.cells #[] tT)).grown hg5 (by simp) (fun k e => (HO.out.own_lt e).1)); clear hown5 hg5)
    go_ret
    exact ⟨_, rfl, HO5.out, HB5.out⟩
end
end Go.Proofs.Ytidkemgibehpcaa
