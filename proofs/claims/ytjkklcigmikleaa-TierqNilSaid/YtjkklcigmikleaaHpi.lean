/- A heap in memory: a new one; one who comes in. -/
import Derived.Test.YtjkklcigmikleaaHph
import Derived.Laws.MakeOwn
import Derived.WalkMore
import Derived.StillTailTactics
namespace Go.Proofs.Ytjkklcigmikleaa
open Go.ChangeShapes Go.WideShapes Go.RowKit
set_option linter.unusedVariables false
set_option linter.unusedSimpArgs false
/-- As many as there are, each another one of n, are n at most. -/
theorem pigeon : ∀ (n m : Nat) (f : Nat → Nat), (∀ k, k < m → f k < n) → (∀ i j, i < m → j < m → f i = f j → i = j) → m ≤ n
  | 0, m, f, h, _ => by
    rcases Nat.eq_zero_or_pos m with e | e
    · omega
    · have := h 0 e; omega
  | n + 1, m, f, h, hi => by
    by_cases hex : ∃ k, k < m ∧ f k = n
    · obtain ⟨k0, hk0, e0⟩ := hex
      have := pigeon n (m - 1) (fun j => f (if j < k0 then j else j + 1)) (fun k hk => by
        have h1 : (if k < k0 then k else k + 1) < m := by split <;> omega
        have h2 := h _ h1
        have h3 : f (if k < k0 then k else k + 1) ≠ n := by
          intro e
          have := hi _ _ h1 hk0 (by rw [e, e0])
          split at this <;> omega
        show f (if k < k0 then k else k + 1) < n
        omega) (fun i j hi' hj' e => by
        have h1 : (if i < k0 then i else i + 1) < m := by split <;> omega
        have h2 : (if j < k0 then j else j + 1) < m := by split <;> omega
        have := hi _ _ h1 h2 e
        split at this <;> split at this <;> omega)
      omega
    · have := pigeon n m f (fun k hk => by
        have h1 := h k hk
        have h2 : f k ≠ n := fun e => hex ⟨k, hk, e⟩
        omega) hi
      omega
section
variable {w w' : World} {p b n m c : Nat} {A : Option Addr} {E : Nat → En} {P : Nat → Int} {F : Nat → Option (Int × Int)}
theorem Links.room (h : Links n m E P F) {i : Nat} (hi : i < n) (hF : F i = none) : m < n := by
  have := pigeon n (m + 1) (fun k => if k = m then i else (E k).m.toNat) (fun k hk => by
    show (if k = m then i else (E k).m.toNat) < n
    split
    · exact hi
    · have := h.mem k (by omega); omega) (fun x y hx hy e => by
    have e : (if x = m then i else (E x).m.toNat) = (if y = m then i else (E y).m.toNat) := e
    have key : ∀ z, z < m → (E z).m.toNat ≠ i := by
      intro z hz he
      obtain ⟨j, hj, ej, pj, fj⟩ := h.tom z hz
      have : j = i := by omega
      subst this
      rw [hF] at fj; cases fj
    by_cases h1 : x = m
    · by_cases h2 : y = m
      · omega
      · rw [if_pos h1, if_neg h2] at e
        exact absurd e.symm (key y (by omega))
    · by_cases h2 : y = m
      · rw [if_neg h1, if_pos h2] at e
        exact absurd e (key x (by omega))
      · rw [if_neg h1, if_neg h2] at e
        have a := h.mem x (by omega)
        have b := h.mem y (by omega)
        exact h.one (by omega) (by omega) (by omega))
  omega
theorem HeapAt.sameP {P' : Nat → Int} (h : HeapAt w p b n A m c E P) (hP : ∀ i, i < n → P' i = P i) : HeapAt w p b n A m c E P' := by
  obtain ⟨hd, h1, h2, h3, ht, ⟨ps, bp, pz, pc⟩⟩ := h
  exact ⟨hd, h1, h2, h3, ht, ⟨ps, bp, pz, fun i hi => by rw [hP i hi]; exact pc i hi⟩⟩
theorem hinfo : (Try.prog.info? 3).map (fun i => (i.zero, i.size, i.bytes)) = some (some (.int .i64 0), 1, 8) := by kernel_rfl
theorem hinfe : (Try.prog.info? 123).map (fun i => (i.zero, i.size, i.bytes)) = some (some (.agg #[.int .i64 0, .int .u64 0, .int .i64 0]), 3, 24) := by kernel_rfl
theorem run_ints_ (n : Nat) (hn : n ≤ 4096) (w : World) :
    (Instr.makeSlice 85 (.int .i64 (n : Int)) (.int .i64 (n : Int))).run Try.prog w = .ok (.slice (some ⟨w.heap.size, 0, none⟩) n n) (w.alloc (.cells (madeCells #[.int .i64 0] n) 3)) := by
  obtain ⟨i, hi, hzz⟩ := Option.map_eq_some_iff.1 hinfo
  simp only [Prod.mk.injEq] at hzz
  obtain ⟨hz, hs, hb⟩ := hzz
  have h := run_make (P := Try.prog) w 85 3 i _ Try.underlying85 hi hz .i64 .i64 n n (by omega) (Int.le_refl _) (by rw [hb]; omega) (by omega)
  simp only [Int.toNat_natCast, hs, Nat.mul_one] at h
  exact h
theorem hnew_no (r : Int) (h : r < 1 ∨ 1024 < r) (w : World) : Calls Try.prog 27 #[.int .i64 r] w fun e w' => e = .returned (.tuple #[.pointer none, .int .i64 1]) ∧ w = w' := by
  by_cases h0 : r < 1
  · go_enter Try.func27, Try.ntmps27
    go_wp2
    go_ret2
    exact ⟨rfl, rfl⟩
  · have h1 : 1024 < r := by omega
    have e1 : decide (r < 1) = false := by simp; omega
    go_enter Try.func27, Try.ntmps27
    go_wp2
    go_ret2
    exact ⟨rfl, rfl⟩
set_option maxRecDepth 20000 in
set_option maxHeartbeats 2000000 in
theorem hnew_yes (n : Nat) (h1 : 1 ≤ n) (h2 : n ≤ 1024) (w : World) : Calls Try.prog 27 #[.int .i64 (n : Int)] w fun e w' => ∃ p b, e = .returned (.tuple #[.pointer (some ⟨p, 0, none⟩), .int .i64 0]) ∧ w.heap.size ≤ p ∧ w.heap.size ≤ b ∧ HeapIn w' p b n none 0 0 (fun _ => ⟨0, 0, 0⟩) (fun _ => none) ∧ Below w.heap.size w w' := by
  have hm := run_ints_ n (by omega)
  have n1 : (1 : Int) ≤ (n : Int) := by omega
  have n2 : (n : Int) ≤ 1024 := by omega
  go_enter Try.func27, Try.ntmps27
  go_upto_region 4 with fail
  refine wp_worldh (fun wx => HeapAt wx (w.heap.size + 1) w.heap.size n none 0 0 (fun _ => ⟨0, 0, 0⟩) (fun _ => 0) ∧ Below w.heap.size w wx) ⟨⟨Blk.new_ (by simp), h2, Nat.zero_le _, Nat.le_refl _, fun h => absurd h (by omega), ⟨_, (Blk.made w _ _).alloc_ _, made_size _ _, fun i hi => by rw [made_at _ _ hi (by simp)]; simp [Nat.mod_one]⟩⟩, ((Below.refl _ _).alloc (Nat.le_refl _) _).alloc (by simp) _⟩ ?_
  rintro w1 ⟨ha, hb⟩
  have HA := Lib.hid ha
  have HB := Lib.hid hb
  have q1 := ha.p1
  clear ha hb hm
  go_wp2_with fail
  go_loopw [21] (fun s21 wr => ∃ k : Nat, k ≤ n ∧ s21 = .int .i64 (k : Int) ∧ HeapAt wr (w.heap.size + 1) w.heap.size n none 0 0 (fun _ => ⟨0, 0, 0⟩) (fun i => if i < k then -1 else 0) ∧ Below w.heap.size w wr) (fun i _ => n - (intOf i).toNat)
  case atStart => exact ⟨0, Nat.zero_le _, rfl, HA.out.sameP fun i hi => by simp, HB.out⟩
  case round =>
    clear HA HB q1
    obtain ⟨k, hk, rfl, ha, hb⟩ := hrel
    have HA := Lib.hid ha
    have HB := Lib.hid hb
    have q1 := ha.p1
    by_cases hlt : k < n
    · have c0 := ha.b0 hlt
      have z0 := ha.zb k
      have k0 : (0 : Int) ≤ (k : Int) := by omega
      have k1 : (k : Int) < (n : Int) := by omega
      clear ha hb
      go_wp2_with fail
      go_roundw
      case rel => exact ⟨k + 1, by omega, by go_num, (HA.out.setP (k := k) (-1)).sameP fun i hi => by
        by_cases e : i = k
        · subst e; simp
        · show _ = (if i = k then _ else if i < k then _ else _); rw [if_neg e]; split <;> split <;> first | rfl | omega, HB.out.setCell (Nat.le_refl _) _⟩
      case measure => simp [intOf]; omega
    · obtain rfl : k = n := by omega
      clear ha hb
      go_wp2_with fail
      go_ret2
      refine ⟨w.heap.size + 1, w.heap.size, rfl, by omega, Nat.le_refl _, ⟨⟨fun _ => -1, HA.out.sameP fun i hi => (by simp [hi]), ⟨fun k hk => absurd hk (by omega), fun i hi => .inl ⟨rfl, rfl⟩⟩⟩, fun _ => rfl, by unfold maxLen; omega⟩, HB.out⟩
theorem hput_out (i k t : Int) (hi : i < 0 ∨ (n : Int) ≤ i) (w : World) (h : HeapIn w p b n A m c E F) : Calls Try.prog 32 #[.pointer (some ⟨p, 0, none⟩), .int .i64 i, .int .i64 k, .int .u64 t] w fun e w' => e = .returned (.int .i64 1) ∧ w = w' := by
  obtain ⟨P, h1, h2⟩ := h.at_
  have HA := Lib.hid h1
  clear h1 h2 h
  go_enter Try.func32, Try.ntmps32
  go_wp2_with fail
  refine (hmem_no _ hi _ HA.out).mono ?_
  rintro e w1 ⟨rfl, rfl⟩
  go_wp2_with fail
  go_ret
  exact ⟨rfl, rfl⟩
theorem hput_busy {i : Nat} (k t : Int) (hi : i < n) {kt : Int × Int} (hF : F i = some kt) (w : World) (h : HeapIn w p b n A m c E F) : Calls Try.prog 32 #[.pointer (some ⟨p, 0, none⟩), .int .i64 (i : Int), .int .i64 k, .int .u64 t] w fun e w' => e = .returned (.int .i64 10) ∧ w = w' := by
  obtain ⟨P, h1, h2⟩ := h.at_
  obtain ⟨x, hx, hp, _⟩ := h2.get hi hF
  have q1 := h1.p1
  have c0 := h1.b0 hi
  rw [hp] at c0
  have x1 : ¬ (x : Int) = -1 := by omega
  have i0 : (0 : Int) ≤ (i : Int) := by omega
  have i1 : (i : Int) < (n : Int) := by omega
  have HA := Lib.hid h1
  clear h1 h2 h
  go_enter Try.func32, Try.ntmps32
  go_wp2_with fail
  refine (hmem_yes hi _ HA.out).mono ?_
  rintro e w1 ⟨rfl, rfl⟩
  go_wp2_with fail
  go_ret
  exact ⟨rfl, rfl⟩
theorem HeapAt.row (h : HeapAt w p b n A m c E P) (hn : c = 0 → A = none) (hc : c ≤ maxLen) : ∃ xs, w.ownsRow 0 123 3 (.slice A m c) m xs ∧ ∀ k, k < m → ∀ j, j < 3 → xs[k * 3 + j]? = (entRow (E k))[j]? := by
  rcases Nat.eq_zero_or_pos c with h0 | h0
  · have hm : m = 0 := by have := h.mc; omega
    have hA := hn h0
    subst h0 hm hA
    exact ⟨[], ⟨rfl, .inl ⟨rfl, rfl⟩⟩, fun k hk => absurd hk (by omega)⟩
  · obtain ⟨a, cs, ea, ba, az, ac⟩ := h.tree h0
    subst ea
    have hmc := h.mc
    refine ⟨cs.toList.take (m * 3), ⟨?_, .inr ⟨a, c, cs, rfl, Nat.zero_le _, ba, hmc, hc, az, rfl⟩⟩, fun k hk j hj => ?_⟩
    · rw [List.length_take]; simp [az]; omega
    · rw [List.getElem?_take_of_lt (by omega), Array.getElem?_toList]; exact ac k hk j hj
/-- What a slice that is ours is, where there is something in it. -/
theorem own_one {e : TypeId} {v : Value} {xs : List Value} (h : w.ownsRow 0 e 3 v (m + 1) xs) : ∃ g cap cur, v = .slice (some ⟨g, 0, none⟩) (m + 1) cap ∧ Blk w g e cur ∧ m + 1 ≤ cap ∧ cap ≤ maxLen ∧ cur.size = cap * 3 ∧ ∀ k, k < (m + 1) * 3 → cur[k]? = xs[k]? := by
  rcases h.2 with ⟨_, h1⟩ | ⟨g, cap, cur, rfl, _, hg, h1, h2, h3, h4⟩
  · omega
  · refine ⟨g, cap, cur, rfl, hg, h1, h2, h3, fun k hk => ?_⟩
    rw [← h4, List.getElem?_take_of_lt hk, Array.getElem?_toList]
end
end Go.Proofs.Ytjkklcigmikleaa
