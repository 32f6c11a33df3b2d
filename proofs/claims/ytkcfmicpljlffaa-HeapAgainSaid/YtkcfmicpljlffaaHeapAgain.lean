/- HeapAgain is true of every list of keys and any two rows of numbers, and changes nothing that it was given. -/
import Derived.Test.YtkcfmicpljlffaaHqc
import Derived.Test.YtkcfmicpljlffaaHelpb
import Derived.Test.YtkcfmicpljlffaaHelpc
import Derived.Test.YtkcfmicpljlffaaRowb
import Derived.Test.YtkcfmicpljlffaaRows
import Derived.WalkKit
import Derived.ProofKit
import Derived.OpenShut
import Derived.Deep.DeepCutAuto
import Derived.Deep.RegionHeld3
import Derived.BigRegion
namespace Go.Proofs.Ytkcfmicpljlffaa.heapAgain
open Go.ChangeShapes Go.WideShapes Go.ChangeAt Go.RowKit
set_option linter.unusedVariables false
theorem own : ownKnob Try.prog.godebug = none := by kernel_rfl
theorem laidOut : laidOutB Try.prog = true := by kernel_rfl
theorem reads : (Try.f7.params.toList.all fun t => Try.prog.readableRec t && decide (t < Try.prog.types.size)) = true := by kernel_rfl
set_option linter.unusedSimpArgs false
def swS (σ : Nat → Nat) (i j : Nat) : Nat → Nat := fun x => if x = j then σ i else if x = i then σ j else σ x
theorem sw1 {σ : Nat → Nat} {cs : Array Value} {i j k : Nat} (hi : i < k) (hj : j < k) (hc : ∀ x, x < k → cs[x]? = some (.int .i64 ((σ x : Nat) : Int))) : ∀ x, x < k → ((cs.setIfInBounds i (.int .i64 ((σ j : Nat) : Int))).setIfInBounds j (.int .i64 ((σ i : Nat) : Int)))[x]? = some (.int .i64 ((swS σ i j x : Nat) : Int)) := by
  intro x hx
  have hsi : i < cs.size := (Array.getElem?_eq_some_iff.1 (hc i hi)).1
  have hsj : j < cs.size := (Array.getElem?_eq_some_iff.1 (hc j hj)).1
  unfold swS
  by_cases h1 : x = j
  · subst h1; rw [if_pos rfl]; exact get_set_same (by simpa using hsj) _
  · rw [if_neg h1, get_set_far (Ne.symm h1)]
    by_cases h2 : x = i
    · subst h2; rw [if_pos rfl]; exact get_set_same hsi _
    · rw [if_neg h2, get_set_far (Ne.symm h2)]; exact hc x hx
theorem sw2 {σ : Nat → Nat} {cs : Array Value} {i j k : Nat} (hi : i < k) (hj : j < k) (hc : ∀ x, x < k → cs[x]? = some (.int .i64 ((σ x : Nat) : Int))) : ∀ x, x < k → ((cs.setIfInBounds j (.int .i64 ((σ i : Nat) : Int))).setIfInBounds i (.int .i64 ((σ j : Nat) : Int)))[x]? = some (.int .i64 ((swS σ i j x : Nat) : Int)) := by
  intro x hx
  have hsi : i < cs.size := (Array.getElem?_eq_some_iff.1 (hc i hi)).1
  have hsj : j < cs.size := (Array.getElem?_eq_some_iff.1 (hc j hj)).1
  unfold swS
  by_cases h2 : x = i
  · subst h2
    rw [get_set_same (by simpa using hsi)]
    by_cases h1 : x = j
    · rw [if_pos h1, ← h1]
    · rw [if_neg h1, if_pos rfl]
  · rw [get_set_far (Ne.symm h2)]
    by_cases h1 : x = j
    · subst h1; rw [if_pos rfl]; exact get_set_same hsj _
    · rw [if_neg h1, if_neg h2, get_set_far (Ne.symm h1)]; exact hc x hx
theorem sw_inj {σ : Nat → Nat} {i j k : Nat} (hi : i < k) (hj : j < k) (h : ∀ a b, a < k → b < k → σ a = σ b → a = b) : ∀ a b, a < k → b < k → swS σ i j a = swS σ i j b → a = b := by
  intro a b ha hb e
  have key : ∀ x, x < k → ∃ y, y < k ∧ swS σ i j x = σ y ∧ (x = j ∧ y = i ∨ x ≠ j ∧ x = i ∧ y = j ∨ x ≠ j ∧ x ≠ i ∧ y = x) := by
    intro x hx
    unfold swS
    by_cases h1 : x = j
    · exact ⟨i, hi, by rw [if_pos h1], .inl ⟨h1, rfl⟩⟩
    · by_cases h2 : x = i
      · exact ⟨j, hj, by rw [if_neg h1, if_pos h2], .inr (.inl ⟨h1, h2, rfl⟩)⟩
      · exact ⟨x, hx, by rw [if_neg h1, if_neg h2], .inr (.inr ⟨h1, h2, rfl⟩)⟩
  obtain ⟨y, hy, ey, cy⟩ := key a ha
  obtain ⟨z, hz, ez, cz⟩ := key b hb
  have := h y z hy hz (by rw [← ey, ← ez, e])
  omega
theorem sw_rng {σ : Nat → Nat} {i j k : Nat} (hi : i < k) (hj : j < k) (h : ∀ a, a < k → σ a < k) : ∀ a, a < k → swS σ i j a < k := by
  intro a ha
  unfold swS
  split
  · exact h i hi
  · split
    · exact h j hj
    · exact h a ha
set_option maxRecDepth 100000 in
set_option maxHeartbeats 8000000 in
theorem walk (A : Option Addr) (len cap : Nat) (K : Nat → Int) (AT : Option Addr) (lenT capT : Nat) (O : Nat → Int) (AG : Option Addr) (lenG capG : Nat) (G : Nat → Int) (w : World) (hl : len ≤ cap) (hc : cap ≤ maxLen) (hK : SeqAt w w.heap.size A len 1 (fun i => [.int .i64 (K i)])) (hK5 : ∀ i, -9223372036854775808 ≤ K i ∧ K i ≤ 9223372036854775807) (hlT : lenT ≤ capT) (hcT : capT ≤ maxLen) (hT : SeqAt w w.heap.size AT lenT 1 (fun i => [.int .u8 (O i)])) (hT5 : ∀ i, 0 ≤ O i ∧ O i ≤ 255) (hlG : lenG ≤ capG) (hcG : capG ≤ maxLen) (hG : SeqAt w w.heap.size AG lenG 1 (fun i => [.int .u8 (G i)])) (hG5 : ∀ i, 0 ≤ G i ∧ G i ≤ 255) :
    Calls Try.prog 7 #[.slice A len cap, .slice AT lenT capT, .slice AG lenG capG] w fun e w' => e = .returned (.bool true) ∧ Below w.heap.size w w' := by
  unfold maxLen at hc hcT hcG
  have HK := Lib.hid hK
  have HT := Lib.hid hT
  have HT5 := Lib.hid hT5
  have HG := Lib.hid hG
  have HG5 := Lib.hid hG5
  have HK5 := Lib.hid hK5
  clear hK hK5 hT hT5 hG hG5
  obtain ⟨n, hn⟩ : ∃ n, min len 40 = n := ⟨_, rfl⟩
  have n1 : n ≤ len := by omega
  have n2 : n ≤ 40 := by omega
  have HN := Lib.hid hn
  clear hn
  go_enter Try.func7, Try.ntmps7
  go_wp2_with fail
  refine (awake07 _).mono ?_
  rintro e w1 ⟨rfl, hb1⟩
  have B1 := Lib.hid hb1
  clear hb1
  go_upto_region 3 with fail
  go_cut [0] (fun s0 wx => (∃ A', s0 = .slice A' n cap ∧ (0 < n → ∃ kb ko, A' = some ⟨kb, ko, none⟩ ∧ kb < w.heap.size ∧ ∀ i, i < n → w.cell? ⟨kb, ko + i, none⟩ = some (.int .i64 (K i)))) ∧ Below w.heap.size w wx)
  case first =>
    by_cases hz : len = 0
    · have hn0 : n = 0 := by omega
      subst hz hn0
      go_wp2
      go_meet
      exact ⟨⟨_, rfl, fun h => absurd h (by omega)⟩, B1.out⟩
    · obtain ⟨kb, ko, rfl, hkb, hkc⟩ := HK.out (by omega)
      have hq : ∀ i, i < n → w.cell? ⟨kb, ko + i, none⟩ = some (.int .i64 (K i)) := fun i hi => by
        have := hkc i (by omega) 0 (by omega)
        rw [Nat.mul_one] at this
        exact this
      have HQ := Lib.hid hq
      clear hkc hq
      by_cases h40 : len ≤ 40
      · obtain rfl : len = n := by have := HN.out; omega
        go_wp2
        go_meet
        exact ⟨⟨_, by rw [show (min (len : Int) 40).toNat = len from by omega], fun h => ⟨kb, ko, rfl, hkb, HQ.out⟩⟩, B1.out⟩
      · obtain rfl : n = 40 := by have := HN.out; omega
        go_wp2
        go_meet
        exact ⟨⟨_, by rw [show (min (len : Int) 40).toNat = 40 from by omega], fun h => ⟨kb, ko, rfl, hkb, HQ.out⟩⟩, B1.out⟩
  case rest =>
    clear B1 HK HN
    obtain ⟨⟨A', rfl, hq⟩, hb1⟩ := hcut
    have HQ := Lib.hid hq
    have B1 := Lib.hid hb1
    clear hq hb1
    by_cases hn0 : n = 0
    · subst hn0
      go_wp2_with fail
      go_ret
      exact ⟨rfl, B1.out⟩
    have hn1 : ¬ (n : Int) = 0 := by omega
    obtain ⟨i0', hi0, hzz⟩ := Option.map_eq_some_iff.1 hinfo
    simp only [Prod.mk.injEq] at hzz
    obtain ⟨hz0, hz1, hz2⟩ := hzz
    have HZ := Lib.hid (And.intro hi0 (And.intro hz0 (And.intro hz1 hz2)))
    clear hi0 hz0 hz1 hz2
    go_wp2_with fail
    refine (lnew_yes (base := w.heap.size) n (by omega) (by omega) _ B1.out.size).mono ?_
    rintro e w2 ⟨p, rfl, hp, h2, b2⟩
    have H2 := Lib.hid h2
    have B2 := Lib.hid (B1.out.trans (b2.mono B1.out.size))
    clear h2 b2 B1
    go_wp2_with fail
    refine (two_new (base := w.heap.size) n (by omega) (by omega) _ H2.out B2.out.size).mono ?_
    rintro e w3 ⟨p', rfl, h3, b3⟩
    obtain ⟨T, hT⟩ : ∃ T, w3.heap.size = T := ⟨_, rfl⟩
    rw [hT] at h3
    have B3 := Lib.hid (B2.out.trans (b3.mono B2.out.size))
    have hwT : w.heap.size ≤ T := by rw [← hT]; exact B3.out.size
    have HT3 := Lib.hid hT
    have H3 := Lib.hid h3
    clear h3 b3 H2 B2 hT
    go_wp2_with fail
    go_loopw [11, 44] (fun s11 s44 wr => ∃ (k : Nat) (Ao : Option Addr) (co : Nat), k ≤ n ∧ s44 = .int .i64 (k : Int) ∧ s11 = .slice Ao k co ∧ wr.ownsRow T 3 1 (.slice Ao k co) k (intL ((List.range k).map fun i : Nat => (i : Int))) ∧ Below T w3 wr) (fun _ s _ => n - (intOf s).toNat)
    case atStart => exact ⟨0, none, 0, Nat.zero_le _, rfl, rfl, World.ownsRow_nil _ _ _ _, Below.refl _ _⟩
    case round =>
      obtain ⟨k, Ao, co, hk, rfl, rfl, ho, hb⟩ := hrel
      have OO := Lib.hid ho
      have BB := Lib.hid hb
      have hsz : T ≤ wr.heap.size := by rw [← HT3.out]; exact hb.size
      clear ho hb
      by_cases hlt : k < n
      · have k0 : (0 : Int) ≤ (k : Int) := by omega
        have k1 : (k : Int) < (n : Int) := by omega
        go_upto_region 13 with (at_builtin; refine wpList_append_own _ rfl (.tmp 47) (.tmp 49) 40 rfl (T) 3 i0' (.int .i64 0) 1 8 Try.underlying40 HZ.out.1 HZ.out.2.1 HZ.out.2.2.1 HZ.out.2.2.2 rfl (by decide) (.slice Ao (k) co) (k) (intL ((List.range k).map fun i : Nat => (i : Int))) rfl (OO.out.alloc _) ⟨wr.heap.size, 0, none⟩ 1 1 [.int .i64 (k : Int)] rfl rfl (by intro j u hj; match j, hj with | 0, hj => simp at hj; subst hj; exact (Blk.new_ (by simp)).val rfl) (by intro u hu; simp at hu; subst hu; rfl) (by unfold maxLen; omega) (by omega) (by simp; omega) ?_; intro v7 w7 hown7 hg7 _; have HO7 := Lib.hid hown7; have HG7 := Lib.hid hg7; clear hown7 hg7)
        obtain ⟨A7, c7, rfl⟩ := own_form HO7.out
        have o7 : w7.ownsRow T 3 1 (.slice A7 (k + 1) c7) (k + 1) (intL ((List.range (k + 1)).map fun i : Nat => (i : Int))) := by
          have := HO7.out
          unfold intL at this ⊢
          rw [List.range_succ, List.map_append, List.map_append]
          exact this
        have b7 : Below T w3 w7 := (BB.out.alloc hsz _).grown HG7.out (by have := BB.out.size; have := HT3.out; simp; omega) (fun g' e => own_base OO.out e)
        have O7 := Lib.hid o7
        have B7 := Lib.hid b7
        clear o7 b7 HO7 HG7 OO BB
        go_wp2_with fail
        go_roundw
        case rel => exact ⟨k + 1, A7, c7, by omega, by go_num, by first | rfl | (simp; done), O7.out, B7.out⟩
        case measure => simp [intOf]; omega
      · obtain rfl : k = n := by omega
        obtain ⟨g, cg, hv, hgT, hgs, hml, hcell⟩ := own_int OO.out (by omega)
        injection hv with hv1 hv2 hv3
        subst hv1 hv3
        obtain ⟨cs, hcs⟩ : ∃ cs, Blk wr g 3 cs := own_blk OO.out
        have hci : ∀ j, j < k → cs[j]? = some (.int .i64 (j : Int)) := fun j hj => by
          have := hcell j (by simpa using hj)
          rw [Nat.zero_add, hcs.at_] at this
          rw [this]
          simp [List.getD_eq_getElem?_getD, hj]
        have CS := Lib.hid hcs
        have CI := Lib.hid hci
        clear hcell hci hcs hv2 OO
        go_wp2_with fail
        go_loopw [54] (fun s54 wr => ∃ (i : Nat) (σ : Nat → Nat), i ≤ k ∧ s54 = .int .i64 (i : Int) ∧ (∀ a b, a < k → b < k → σ a = σ b → a = b) ∧ (∀ a, a < k → σ a < k) ∧ (∃ cs, Blk wr g 3 cs ∧ ∀ j, j < k → cs[j]? = some (.int .i64 ((σ j : Nat) : Int))) ∧ Below T w3 wr) (fun s _ => k - (intOf s).toNat)
        case atStart => exact ⟨0, id, Nat.zero_le _, rfl, fun a b _ _ h => h, fun a h => h, ⟨cs, CS.out, CI.out⟩, BB.out⟩
        case round =>
          clear CS CI BB hsz
          obtain ⟨i, σ, hi, rfl, hinj, hrng, ⟨cs, hcs, hci⟩, hb⟩ := hrel
          have CS := Lib.hid hcs
          have CI := Lib.hid hci
          have INJ := Lib.hid hinj
          have RNG := Lib.hid hrng
          have BB := Lib.hid hb
          clear hcs hci hinj hrng hb
          by_cases hik : i < k
          · have i0 : (0 : Int) ≤ (i : Int) := by omega
            have i1 : (i : Int) < (k : Int) := by omega
            by_cases hiT : i < lenT
            · obtain ⟨tb, tof, rfl, htb, htc⟩ := HT.out (by omega)
              have t0 := htc i hiT 0 (by omega)
              rw [Nat.mul_one] at t0
              have BW := Lib.hid (B3.out.trans (BB.out.mono hwT))
              have t1 := (BW.out.cell (p := ⟨tb, tof + i, none⟩) htb).trans t0
              obtain ⟨o, ho⟩ : ∃ o : Nat, O i = (o : Int) := ⟨(O i).toNat, by have := HT5.out i; omega⟩
              have ho5 : o ≤ 255 := by have := HT5.out i; omega
              simp only [Nat.add_zero] at t1
              replace t1 : wr.cell? ⟨tb, tof + i, none⟩ = some (.int .u8 (o : Int)) := by rw [← ho]; exact t1
              have ti : (i : Int) < (lenT : Int) := by omega
              obtain ⟨dd, hdd⟩ : ∃ dd, k - i = dd := ⟨_, rfl⟩
              obtain ⟨r, hr⟩ : ∃ r, o % dd = r := ⟨_, rfl⟩
              have hrd : r < dd := by rw [← hr]; exact Nat.mod_lt _ (by omega)
              obtain ⟨j, hj⟩ : ∃ j, i + r = j := ⟨_, rfl⟩
              have hjk : j < k := by omega
              have f1 : IntKind.i64.wrap (o : Int) = (o : Int) := by rw [IntKind.wrap_i64]; omega
              have f2 : IntKind.i64.wrap ((k : Int) - (i : Int)) = (dd : Int) := by rw [IntKind.wrap_i64]; omega
              have f3 : (o : Int).tmod (dd : Int) = (r : Int) := by rw [Int.tmod_eq_emod_of_nonneg (by omega), ← hr]; rfl
              have f4 : IntKind.i64.wrap ((i : Int) + (r : Int)) = (j : Int) := by rw [IntKind.wrap_i64]; omega
              have f5 : ¬ (dd : Int) = 0 := by omega
              have f6 : IntKind.i64.wrap (r : Int) = (r : Int) := by rw [IntKind.wrap_i64]; omega
              have f7 : ¬ dd = 0 := by omega
              have j0 : (0 : Int) ≤ (j : Int) := by omega
              have j1 : (j : Int) < (k : Int) := by omega
              have hci := CI.out
              have x0 : wr.cell? ⟨g, i, none⟩ = some (.int .i64 ((σ i : Nat) : Int)) := CS.out.val (hci i hik)
              have x1 : wr.cell? ⟨g, j, none⟩ = some (.int .i64 ((σ j : Nat) : Int)) := CS.out.val (hci j hjk)
              have zf : ∀ k, wr.frozen? ⟨g, k, none⟩ = false := CS.out.free
              have W1 := Lib.hid (sw1 hik hjk hci)
              have W2 := Lib.hid (sw2 hik hjk hci)
              have INJ2 := Lib.hid (sw_inj hik hjk INJ.out)
              have RNG2 := Lib.hid (sw_rng hik hjk RNG.out)
              obtain ⟨si, hsi⟩ : ∃ s, σ i = s := ⟨_, rfl⟩
              obtain ⟨sj, hsj⟩ : ∃ s, σ j = s := ⟨_, rfl⟩
              rw [hsi] at x0 W1 W2
              rw [hsj] at x1 W1 W2
              clear htc t0 ho hdd hr hj hci hsi hsj
              go_upto_region 19 with fail
              refine begun (fun w' => w'.cell? ⟨g, i, none⟩ = some (.int .i64 (si : Int)) ∧ w'.cell? ⟨g, j, none⟩ = some (.int .i64 (sj : Int))) [13, 15] (by kernel_rfl) ⟨x0, x1⟩ (fun hShut hHeld => ?_)
              refine anyB_takeW (i := 0) (v := ?_) rfl (by kernel_rfl) (by kernel_rfl) (by kernel_rfl) (by kernel_rfl) (fun _ _ _ h => h) hShut (fun _ => hHeld) (Or.inl ⟨by rfl, ?_⟩) (fun hShut => ?_)
              case refine_2 => (rintro wz -; go_simp; try with_reducible rfl)
              try simp only [Act.put, List.setIfInBounds_toArray, List.set_cons_zero, List.set_cons_succ]
              refine anyB_takeW (i := 1) (v := ?_) rfl (by kernel_rfl) (by kernel_rfl) (by kernel_rfl) (by kernel_rfl) (fun _ _ _ h => h) hShut (fun _ => hHeld) (Or.inl ⟨by rfl, ?_⟩) (fun hShut => ?_)
              case refine_2 => (rintro wz -; go_simp; try with_reducible rfl)
              try simp only [Act.put, List.setIfInBounds_toArray, List.set_cons_zero, List.set_cons_succ]
              refine anyB_takeW (i := 2) (v := ?_) rfl (by kernel_rfl) (by kernel_rfl) (by kernel_rfl) (by kernel_rfl) (fun _ _ _ h => h) hShut (fun _ => hHeld) (Or.inl ⟨by rfl, ?_⟩) (fun hShut => ?_)
              case refine_2 => (rintro wz -; go_simp; try with_reducible rfl)
              try simp only [Act.put, List.setIfInBounds_toArray, List.set_cons_zero, List.set_cons_succ]
              refine anyB_takeW (i := 3) (v := ?_) rfl (by kernel_rfl) (by kernel_rfl) (by kernel_rfl) (by kernel_rfl) (fun _ _ _ h => h) hShut (fun _ => hHeld) (Or.inl ⟨by rfl, ?_⟩) (fun hShut => ?_)
              case refine_2 => (rintro wz -; go_simp; try with_reducible rfl)
              try simp only [Act.put, List.setIfInBounds_toArray, List.set_cons_zero, List.set_cons_succ]
              refine anyB_takeW (i := 4) (v := ?_) rfl (by kernel_rfl) (by kernel_rfl) (by kernel_rfl) (by kernel_rfl) (fun _ _ _ h => h) hShut (fun _ => hHeld) (Or.inl ⟨by rfl, ?_⟩) (fun hShut => ?_)
              case refine_2 => (rintro wz -; go_simp; try with_reducible rfl)
              try simp only [Act.put, List.setIfInBounds_toArray, List.set_cons_zero, List.set_cons_succ]
              refine anyB_takeW (i := 5) (v := ?_) rfl (by kernel_rfl) (by kernel_rfl) (by kernel_rfl) (by kernel_rfl) (fun _ _ _ h => h) hShut (fun _ => hHeld) (Or.inl ⟨by rfl, ?_⟩) (fun hShut => ?_)
              case refine_2 => (rintro wz -; go_simp; try with_reducible rfl)
              try simp only [Act.put, List.setIfInBounds_toArray, List.set_cons_zero, List.set_cons_succ]
              refine anyB_takeW (i := 6) (v := ?_) rfl (by kernel_rfl) (by kernel_rfl) (by kernel_rfl) (by kernel_rfl) (fun _ _ _ h => h) hShut (fun _ => hHeld) (Or.inl ⟨by rfl, ?_⟩) (fun hShut => ?_)
              case refine_2 => (rintro wz -; go_simp; try with_reducible rfl)
              try simp only [Act.put, List.setIfInBounds_toArray, List.set_cons_zero, List.set_cons_succ]
              refine anyB_take 9 (i := 7) (v := ?_) rfl (by kernel_rfl) (by kernel_rfl) (by kernel_rfl) (by kernel_rfl) (by kernel_rfl) (fun _ _ _ h => h) hShut hHeld (Or.inl ⟨by rfl, ?_⟩) (fun hShut => ?_)
              case refine_2 => (rintro wz ⟨sz0, sz1⟩; go_simp; try with_reducible rfl)
              try simp only [Act.put, List.setIfInBounds_toArray, List.set_cons_zero, List.set_cons_succ]
              refine anyB_takeW (i := 8) (v := ?_) rfl (by kernel_rfl) (by kernel_rfl) (by kernel_rfl) (by kernel_rfl) (fun _ _ _ h => h) hShut (fun _ => hHeld) (Or.inl ⟨by rfl, ?_⟩) (fun hShut => ?_)
              case refine_2 => (rintro wz -; go_simp; try with_reducible rfl)
              try simp only [Act.put, List.setIfInBounds_toArray, List.set_cons_zero, List.set_cons_succ]
              refine anyB_takeW (i := 9) (v := ?_) rfl (by kernel_rfl) (by kernel_rfl) (by kernel_rfl) (by kernel_rfl) (fun _ _ _ h => h) hShut (fun _ => hHeld) (Or.inl ⟨by rfl, ?_⟩) (fun hShut => ?_)
              case refine_2 => (rintro wz -; go_simp; try with_reducible rfl)
              try simp only [Act.put, List.setIfInBounds_toArray, List.set_cons_zero, List.set_cons_succ]
              refine anyB_takeW (i := 10) (v := ?_) rfl (by kernel_rfl) (by kernel_rfl) (by kernel_rfl) (by kernel_rfl) (fun _ _ _ h => h) hShut (fun _ => hHeld) (Or.inl ⟨by rfl, ?_⟩) (fun hShut => ?_)
              case refine_2 => (rintro wz -; go_simp; try with_reducible rfl)
              try simp only [Act.put, List.setIfInBounds_toArray, List.set_cons_zero, List.set_cons_succ]
              refine anyB_take 9 (i := 11) (v := ?_) rfl (by kernel_rfl) (by kernel_rfl) (by kernel_rfl) (by kernel_rfl) (by kernel_rfl) (fun _ _ _ h => h) hShut hHeld (Or.inl ⟨by rfl, ?_⟩) (fun hShut => ?_)
              case refine_2 => (rintro wz ⟨sz0, sz1⟩; go_simp; try with_reducible rfl)
              try simp only [Act.put, List.setIfInBounds_toArray, List.set_cons_zero, List.set_cons_succ]
              refine anyB_takeW (i := 12) (v := ?_) rfl (by kernel_rfl) (by kernel_rfl) (by kernel_rfl) (by kernel_rfl) (fun _ _ _ h => h) hShut (fun _ => hHeld) (Or.inl ⟨by rfl, ?_⟩) (fun hShut => ?_)
              case refine_2 => (rintro wz -; go_simp; try with_reducible rfl)
              try simp only [Act.put, List.setIfInBounds_toArray, List.set_cons_zero, List.set_cons_succ]
              refine anyB_each (rs := [13]) hShut (by kernel_rfl) (by simp) ?_
              refine List.forall_mem_cons.2 ⟨fun hShut => wpOp_step rfl (fun K hK => ?_), ?_⟩
              · go_simp
                refine unheld hK (by kernel_rfl) ?_
                clear hK K
                have g1 : Blk (World.drew (World.setCell wr ⟨g, i, none⟩ (.int .i64 (sj : Int)))) g 3 (cs.setIfInBounds i (.int .i64 (sj : Int))) := CS.out.set_ i _
                have k1 : Below T w3 (World.drew (World.setCell wr ⟨g, i, none⟩ (.int .i64 (sj : Int)))) := (BB.out.setCell hgT _).drew
                revert g1 k1
                generalize (World.drew (World.setCell wr ⟨g, i, none⟩ (.int .i64 (sj : Int)))) = wq
                intro g1 k1
                have G1 := Lib.hid g1
                have K1 := Lib.hid k1
                have y1 : wq.cell? ⟨g, j, none⟩ = some (.int .i64 (sj : Int)) := g1.val (by by_cases e : i = j; (subst e; exact get_set_same (by rw [CS.out.at_] at x0; exact (Array.getElem?_eq_some_iff.1 x0).1) _); (rw [get_set_far e, ← CS.out.at_]; exact x1))
                have zf2 : ∀ k, wq.frozen? ⟨g, k, none⟩ = false := g1.free
                clear g1 k1 x0 x1 zf hHeld
                refine anyB_takeW (i := 14) (v := ?_) rfl (by kernel_rfl) (by kernel_rfl) (by kernel_rfl) (by kernel_rfl) (fun _ _ _ h => h) hShut (fun c => absurd c (by decide +kernel)) (Or.inl ⟨by rfl, ?_⟩) (fun hShut => ?_)
                case refine_2 => (rintro wz -; go_simp; try with_reducible rfl)
                try simp only [Act.put, List.setIfInBounds_toArray, List.set_cons_zero, List.set_cons_succ]
                refine anyB_each (rs := [15]) hShut (by kernel_rfl) (by simp) ?_
                refine List.forall_mem_cons.2 ⟨fun hShut => wpOp_step rfl (fun K hK => ?_), ?_⟩
                · go_simp
                  refine unheld hK (by kernel_rfl) ?_
                  clear hK K
                  refine anyB_done (by kernel_rfl) ?_ _
                  go_wp2_with fail
                  go_roundw
                  case rel => exact ⟨i + 1, _, by omega, by go_num, INJ2.out, RNG2.out, ⟨_, G1.out.set_ j _, W1.out⟩, K1.out.setCell hgT _⟩
                  case measure => simp [intOf]; omega
                · exact fun _ h => by cases h
              · exact fun _ h => by cases h
            · have ti : ¬ (i : Int) < (lenT : Int) := by omega
              have ti2 : decide ((i : Int) < (lenT : Int)) = false := decide_eq_false ti
              go_wp2_with fail
              go_roundw
              case rel => exact ⟨i + 1, σ, by omega, by go_num, INJ.out, RNG.out, ⟨cs, CS.out, CI.out⟩, BB.out⟩
              case measure => simp [intOf]; omega
          · obtain rfl : i = k := by omega
            have H5 := Lib.hid (H3.out.below (by rw [HT3.out]; exact BB.out))
            have BW := Lib.hid (B3.out.trans (BB.out.mono hwT))
            clear H3 BB
            go_wp2_with fail
            go_loopw [90] (fun s90 wr => ∃ a : Nat, a ≤ i ∧ s90 = .int .i64 (a : Int) ∧ Two w.heap.size T wr p p' i (buildE K (fun _ => 7) a) (buildP K σ a) ∧ Blk wr g 3 cs ∧ Below w.heap.size w wr) (fun s _ => i - (intOf s).toNat)
            case atStart => exact ⟨0, Nat.zero_le _, rfl, H5.out, CS.out, BW.out⟩
            case round =>
              clear H5 CS BW
              obtain ⟨a, ha, rfl, h6, hcs, hb⟩ := hrel
              have H6 := Lib.hid h6
              have CS := Lib.hid hcs
              have BB := Lib.hid hb
              clear h6 hcs hb
              by_cases hai : a < i
              · obtain ⟨kb, ko, rfl, hkb, hkc⟩ := HQ.out (by omega)
                have q0 := (BB.out.cell (p := ⟨kb, ko + a, none⟩) hkb).trans (hkc a hai)
                have a0 : (0 : Int) ≤ (a : Int) := by omega
                have a1 : (a : Int) < (i : Int) := by omega
                have hs := RNG.out a hai
                obtain ⟨s, hsa⟩ : ∃ s, σ a = s := ⟨_, rfl⟩
                rw [hsa] at hs
                have s0 : (0 : Int) ≤ (s : Int) := by omega
                have s1 : (s : Int) < (i : Int) := by omega
                have hn1' : buildE K (fun _ => 7) (a + 1) = insE ⟨K a, 7, (a : Int)⟩ (buildE K (fun _ => 7) a) := rfl
                have hn2' : buildP K σ (a + 1) = insE ⟨K s, 7, (s : Int)⟩ (buildP K σ a) := by rw [← hsa]; rfl
                have hno := buildP_no (K := K) (σ := σ) INJ.out hai
                rw [hsa] at hno
                have N1 := Lib.hid hn1'
                have N2 := Lib.hid hn2'
                have NO := Lib.hid hno
                have kc := hkc s hs
                have tc0 := CI.out a hai
                rw [hsa] at tc0
                have KC := Lib.hid kc
                have TC := Lib.hid tc0
                obtain ⟨ka, hka⟩ : ∃ x, K a = x := ⟨_, rfl⟩
                obtain ⟨ks, hks⟩ : ∃ x, K s = x := ⟨_, rfl⟩
                rw [hka] at q0 N1
                rw [hks] at KC N2
                clear hkc kc tc0 hno hn1' hn2' hsa hka hks
                go_wp2_with fail
                refine (two_put (i := a) ka 7 (by omega) (build_no a) _ H6.out).mono ?_
                rw [← N1.out]
                rintro e w5 ⟨rfl, h7, b7, p7⟩
                have H7 := Lib.hid h7
                have CS7 := Lib.hid (p7.2.2.2.2 g cs CS.out hgT)
                have B7 := Lib.hid (BB.out.trans b7)
                have x0 : w5.cell? ⟨g, a, none⟩ = some (.int .i64 (s : Int)) := CS7.out.val TC.out
                have x1 : w5.cell? ⟨kb, ko + s, none⟩ = some (.int .i64 ks) := (B7.out.cell (p := ⟨kb, ko + s, none⟩) hkb).trans KC.out
                clear h7 b7 p7 q0 H6 CS BB
                go_upto_region 25 with fail
                first | (go_region_held3 (fun w' => w'.cell? ⟨g, a, none⟩ = some (.int .i64 (s : Int)) ∧ w'.cell? ⟨kb, ko + s, none⟩ = some (.int .i64 ks)) ((repeat (first | with_reducible assumption | refine ⟨?_, ?_⟩ | with_reducible refine kdrew ?_)))
                  ((go_at_call 16; refine (two_put (i := s) ks 7 hs NO.out _ (by first | exact H7.out.symm | exact (H7.out.below (Below.refl _ _).drew).symm)).mono ?_; rintro e w6 ⟨rfl, h8, b8, p8⟩; have x2 : w6.cell? ⟨g, a, none⟩ = some (.int .i64 (s : Int)) := Blk.val (p8.2.2.2.2 g cs (by first | exact CS7.out | exact CS7.out.drew_) hgT) TC.out; have B8 : Below w.heap.size w w6 := (by first | exact B7.out.trans b8 | exact (B7.out.trans (Below.refl _ _).drew).trans b8); have x3 : w6.cell? ⟨kb, ko + s, none⟩ = some (.int .i64 ks) := (B8.cell (p := ⟨kb, ko + s, none⟩) hkb).trans KC.out; have C8 := p8.2.2.2.2 g cs (by first | exact CS7.out | exact CS7.out.drew_) hgT))) | fail
                all_goals
                  rw [← N2.out] at h8
                  have H8 := Lib.hid h8
                  have B8' := Lib.hid B8
                  have C8' := Lib.hid C8
                  clear h8 B8 C8 b8 p8 x0 x1 x2 x3
                  go_wp2_with fail
                  go_roundw
                  case rel => exact ⟨a + 1, by omega, by go_num, (by first | exact H8.out.symm | exact (H8.out.symm.below (Below.refl _ _).drew)), (by first | exact C8'.out | exact C8'.out.drew_), (by first | exact B8'.out | exact B8'.out.drew)⟩
                  case measure => simp [intOf]; omega
              · obtain rfl : a = i := by omega
                have hsame : buildE K (fun _ => 7) a = buildP K σ a := build_same INJ.out RNG.out H6.out.one.up H6.out.two.up
                have h7 := H6.out
                rw [← hsame] at h7
                have H7 := Lib.hid h7
                clear hsame h7 H6 CS INJ RNG CI
                go_wp2_with fail
                go_loopw [115] (fun s115 wr => ∃ c : Nat, c ≤ lenG ∧ s115 = .int .i64 (c : Int) ∧ Two w.heap.size T wr p p' a (buildE K (fun _ => 7) a) (buildE K (fun _ => 7) a) ∧ Below w.heap.size w wr) (fun s _ => lenG - (intOf s).toNat)
                case atStart => exact ⟨0, Nat.zero_le _, rfl, H7.out, BB.out⟩
                case round =>
                  clear H7 BB
                  obtain ⟨c, hc, rfl, h8, hb⟩ := hrel
                  have H8 := Lib.hid h8
                  have BB := Lib.hid hb
                  clear h8 hb
                  by_cases hcl : c < lenG
                  · obtain ⟨gb, gof, rfl, hgb, hgc⟩ := HG.out (by omega)
                    have t0 := hgc c hcl 0 (by omega)
                    rw [Nat.mul_one] at t0
                    simp only [Nat.add_zero] at t0
                    obtain ⟨o, ho⟩ : ∃ o : Nat, G c = (o : Int) := ⟨(G c).toNat, by have := HG5.out c; omega⟩
                    have ho5 : o ≤ 255 := by have := HG5.out c; omega
                    have t1 : wr.cell? ⟨gb, gof + c, none⟩ = some (.int .u8 (o : Int)) := by rw [← ho]; exact (BB.out.cell (p := ⟨gb, gof + c, none⟩) hgb).trans t0
                    obtain ⟨q, hq⟩ : ∃ q, o % a = q := ⟨_, rfl⟩
                    have hqa : q < a := by rw [← hq]; exact Nat.mod_lt _ (by omega)
                    have c0 : (0 : Int) ≤ (c : Int) := by omega
                    have c1 : (c : Int) < (lenG : Int) := by omega
                    have f1 : IntKind.i64.wrap (o : Int) = (o : Int) := by rw [IntKind.wrap_i64]; omega
                    have f3 : (o : Int).tmod (a : Int) = (q : Int) := by rw [Int.tmod_eq_emod_of_nonneg (by omega), ← hq]; rfl
                    have f5 : ¬ (a : Int) = 0 := by omega
                    have f6 : IntKind.i64.wrap (q : Int) = (q : Int) := by rw [IntKind.wrap_i64]; omega
                    have q0 : (0 : Int) ≤ (q : Int) := by omega
                    have q1 : (q : Int) < (a : Int) := by omega
                    obtain ⟨kb, ko, rfl, hkb, hkc⟩ := HQ.out (by omega)
                    obtain ⟨kq, hkq⟩ : ∃ x, K q = x := ⟨_, rfl⟩
                    have kc := hkc q hqa
                    rw [hkq] at kc
                    have KC := Lib.hid kc
                    have hmem : (⟨kq, 7, (q : Int)⟩ : En) ∈ buildE K (fun _ => 7) a := (build_mem a).2 ⟨q, hqa, by rw [← hkq]⟩
                    obtain ⟨L, hL⟩ : ∃ L, buildE K (fun _ => 7) a = L := ⟨_, rfl⟩
                    rw [hL] at hmem
                    have h8 := H8.out
                    rw [hL] at h8
                    have hback : insE ⟨kq, 7, (q : Int)⟩ (remE (q : Int) L) = L := ins_rem h8.two.up h8.two.distinct hmem
                    have HBK := Lib.hid hback
                    have HM := Lib.hid hmem
                    have H9 := Lib.hid h8.symm
                    have HL := Lib.hid hL
                    clear hgc t0 ho hq hkc hkq kc hmem h8 hback hL H8
                    go_wp2_with fail
                    refine (two_rem (i := q) hqa (hasE_iff.2 ⟨_, HM.out, rfl⟩) _ H9.out).mono ?_
                    rintro e w8 ⟨rfl, h10, b10, p10⟩
                    have H10 := Lib.hid h10
                    have B10 := Lib.hid (BB.out.trans b10)
                    have kc : w8.cell? ⟨kb, ko + q, none⟩ = some (.int .i64 kq) := (B10.out.cell (p := ⟨kb, ko + q, none⟩) hkb).trans KC.out
                    clear h10 b10 p10 H9 BB
                    go_wp2_with fail
                    refine (two_put (i := q) kq 7 hqa (hasE_no.2 fun e he hm => by have := (List.mem_filter.1 he).2; simp [hm] at this) _ H10.out).mono ?_
                    rw [HBK.out]
                    rintro e w9 ⟨rfl, h11, b11, p11⟩
                    have H11 := Lib.hid h11.symm
                    have B11 := Lib.hid (B10.out.trans b11)
                    clear h11 b11 p11 H10 B10 kc
                    go_wp2_with fail
                    go_roundw
                    case rel => exact ⟨c + 1, by omega, by go_num, by rw [HL.out]; exact H11.out, B11.out⟩
                    case measure => simp [intOf]; omega
                  · obtain rfl : c = lenG := by omega
                    obtain ⟨L, hL⟩ : ∃ L, buildE K (fun _ => 7) a = L := ⟨_, rfl⟩
                    have hLm : ∀ e ∈ L, e.k ≤ 9223372036854775807 := fun e he => by
                      rw [← hL] at he
                      obtain ⟨z, _, rfl⟩ := (build_mem a).1 he
                      exact (HK5.out z).2
                    have h8 := H8.out
                    rw [hL] at h8
                    have hall : dueE 9223372036854775807 L = L := due_all hLm
                    have HALL := Lib.hid hall
                    have H9 := Lib.hid h8
                    clear h8 hall hLm hL H8
                    go_wp2_with fail
                    refine (ldue _ _ H9.out.one).mono ?_
                    rw [HALL.out]
                    rintro e w8 ⟨g1, rfl, o1, b1⟩
                    rw [due_intL] at o1
                    have H10 := Lib.hid (H9.out.below b1)
                    have B10 := Lib.hid (BB.out.trans (b1.mono BB.out.size))
                    have O1 := Lib.hid o1
                    clear o1 b1 H9 BB
                    go_wp2_with fail
                    refine (ldue _ _ H10.out.two).mono ?_
                    rw [HALL.out]
                    rintro e w9 ⟨g2, rfl, o2, b2⟩
                    rw [due_intL] at o2
                    have H11 := Lib.hid (H10.out.below b2)
                    have B11 := Lib.hid (B10.out.trans (b2.mono B10.out.size))
                    have O3 := Lib.hid (own_below O1.out b2)
                    have O2 := Lib.hid o2
                    clear o2 b2 H10 B10 O1
                    go_wp2_with fail
                    refine (eq_own O3.out O2.out).mono ?_
                    rw [decide_eq_true rfl]
                    rintro e w10 ⟨rfl, q, rfl⟩
                    have H12 := Lib.hid (H11.out.below (below_drewN_ (Below.refl _ _) q))
                    go_wp2_with fail
                    refine (llen _ H12.out.one).mono ?_
                    rintro e w11 ⟨rfl, rfl⟩
                    go_wp2_with fail
                    refine (llen _ H12.out.two).mono ?_
                    rintro e w12 ⟨rfl, rfl⟩
                    go_wp2_with fail
                    go_ret
                    exact ⟨rfl, below_drewN_ B11.out _⟩
set_option maxRecDepth 100000 in
theorem lifted (os : Os) (started : os.Started) (H : Type) (enc : TypeId × Value → H) :
    ReturnsInHanded {} Try.checked os 7 .any (Rows.heapAgainSpec.pre6 enc Try.prog Try.f7 Rows.heapAgainRow.domain false) (Rows.heapAgainSpec.post enc Try.prog Try.f7 false true false false) := by
  refine returnsInHanded_of_change (C := Try.checked) own started (by kernel_rfl) Try.func7
    (ChangeSpec.witness6 (enc := enc) (C := Try.checked) false ⟨#[], #[.slice none 0 0, .slice none 0 0, .slice none 0 0], []⟩ 8 (by kernel_rfl) (by kernel_rfl) (by kernel_rfl) (by kernel_rfl)) ?_
  intro W base args ds gs before hval0 hW hcnd _
  have hval : ∀ (j : Nat) t v, Try.f7.params[j]? = some t → args[j]? = some v → Value.okWide Try.prog W .any base t v := hval0
  have hW' := hW
  obtain ⟨p, q, hA0, hV, rfl, hfz, hnd⟩ := hW
  have hA : DataW.TrodAll enc Try.prog W 0 (fun _ => true) true Try.f7.params.toList args.toList ds p := hA0
  rw [Try.params7] at hA hval
  obtain ⟨v0, vs0, d0, ds0, p0, q0, hargs, rfl, rfl, h0, r0⟩ := trodAll_cons hA
  obtain ⟨v1, vs1, d1, ds1, p1, q1, rfl, rfl, rfl, h1, r1⟩ := trodAll_cons r0
  obtain ⟨v2, vs2, d2, ds2, p2, q2, rfl, rfl, rfl, h2, r2⟩ := trodAll_cons r1
  obtain ⟨rfl, rfl, rfl⟩ := trodAll_nil r2
  obtain rfl : args = #[v0, v1, v2] := by cases args; simp_all
  obtain ⟨rfl, rfl⟩ := trodVars_none hV
  obtain ⟨A0, len0, cap0, rfl⟩ := okWide_slice Try.underlying51 (hval 0 _ v0 rfl rfl)
  obtain ⟨fu0, g0⟩ := h0
  obtain ⟨s0, t0, Q0, u0, o0⟩ := open_i64s g0
  obtain ⟨A1, len1, cap1, rfl⟩ := okWide_slice Try.underlying56 (hval 1 _ v1 rfl rfl)
  obtain ⟨fu1, g1⟩ := h1
  obtain ⟨s1, t1, Q1, u1, o1⟩ := open_u8s g1
  obtain ⟨A2, len2, cap2, rfl⟩ := okWide_slice Try.underlying56 (hval 2 _ v2 rfl rfl)
  obtain ⟨fu2, g2⟩ := h2
  obtain ⟨s2, t2, Q2, u2, o2⟩ := open_u8s g2
  clear hA0 hval0
  refine (walk A0 len0 cap0 Q0 A1 len1 cap1 Q1 A2 len2 cap2 Q2 W s0 t0 u0 o0 s1 t1 u1 o1 s2 t2 u2 o2).mono fun e W' ⟨he, hg⟩ => ?_
  subst he
  exact ⟨_, rfl, post_of_law hW' rfl laidOut reads rfl Try.underlying4 rfl rfl rfl hg⟩
theorem over : Rows.heapAgainRow.holds Try.pinned (OpenSpec.ofChange Rows.heapAgainSpec) :=
  OpenClaim.holds_of_wide 7 Try.f7 rfl rfl rfl rfl rfl rfl rfl ⟨rfl, rfl, rfl, rfl, rfl⟩ rfl rfl rfl rfl rfl (by kernel_rfl) Try.func7 (by kernel_rfl)
    (of_decide_eq_true (by kernel_rfl)) (by unfold Func.isWrapper; first | (rw [if_pos (by decide +kernel)]; kernel_rfl) | (rw [if_neg (by decide +kernel)]; exact ⟨rfl, rfl⟩))
    (fun os started H enc _ => lifted os started H enc)
theorem proved : Rows.HeapAgainSaid := over
end Go.Proofs.Ytkcfmicpljlffaa.heapAgain
