/- The document's slab: Take, Drop. -/
import Derived.Test.YtjhcppiamkkdbaaSlp
import Derived.Test.YtjhcppiamkkdbaaBxs
import Derived.Test.YtjhcppiamkkdbaaHelpb
namespace Go.Proofs.Ytjhcppiamkkdbaa
open Go.RowKit
set_option linter.unusedVariables false
set_option linter.unusedSimpArgs false
section
variable {w w' : World} {q g1 g2 g3 g4 o4 n c1 c2 c3 c4 : Nat} {Q : Nat → Rq} {T : Nat → Bool} {U : Nat → Int} {l : List Nat}
theorem RsB.setQ1 (h : RsB w q g1 g2 g3 g4 o4 n c1 c2 c3 c4 Q T U l) {i k : Nat} (hi : i < n) (hk : k < 5) {v : Value} {r : Rq} (hv : ∀ k', k' < 5 → (reqRow r)[k']? = if k' = k then some v else (reqRow (Q i))[k']?) : RsB (w.setCell ⟨g1, i * 5 + k, none⟩ v) q g1 g2 g3 g4 o4 n c1 c2 c3 c4 (fun j => if j = i then r else Q j) T U l := by
  obtain ⟨x1, x2, x3, x4, x5, x6, x7, x8, x9, x10⟩ := h.apart
  obtain ⟨hd, ⟨a1, b1, d1⟩, ⟨a2, b2, d2⟩, ⟨a3, b3, d3⟩, ⟨a4, b4, d4⟩, e⟩ := h
  refine ⟨hd.far _ x1, ⟨_, b1.set_ _ _, fun j hj k' hk' => ?_⟩, ⟨a2, b2.far _ (Ne.symm x5), d2⟩, ⟨a3, b3.far _ (Ne.symm x6), d3⟩, ⟨a4, b4.far _ (Ne.symm x7), d4⟩, e⟩
  by_cases c : j = i
  · subst c
    rw [if_pos rfl, hv k' hk']
    by_cases c2 : k' = k
    · subst c2
      rw [if_pos rfl]
      have := d1 j hj k' hk'
      exact get_set_same (by
        rcases Nat.lt_or_ge (j * 5 + k') a1.size with z | z
        · exact z
        · rw [Array.getElem?_eq_none z] at this
          match k', hk' with
          | 0, _ => cases this
          | 1, _ => cases this
          | 2, _ => cases this
          | 3, _ => cases this
          | 4, _ => cases this) _
    · rw [if_neg c2, get_set_far (by omega)]; exact d1 j hj k' hk'
  · rw [if_neg c, get_set_far (by omega)]; exact d1 j hj k' hk'
theorem RsB.congrQ {Q' : Nat → Rq} (h : RsB w q g1 g2 g3 g4 o4 n c1 c2 c3 c4 Q T U l) (hq : ∀ i, i < n → Q' i = Q i) : RsB w q g1 g2 g3 g4 o4 n c1 c2 c3 c4 Q' T U l := by
  obtain ⟨hd, ⟨a1, b1, d1⟩, h2, h3, h4, e⟩ := h
  exact ⟨hd, ⟨a1, b1, fun i hi k hk => by rw [hq i hi]; exact d1 i hi k hk⟩, h2, h3, h4, e⟩
theorem RsB.setQ (h : RsB w q g1 g2 g3 g4 o4 n c1 c2 c3 c4 Q T U l) {i : Nat} (hi : i < n) (a b c d e : Int) :
    RsB (((((w.setCell ⟨g1, i * 5, none⟩ (.int .u64 a)).setCell ⟨g1, i * 5 + 1, none⟩ (.int .i64 b)).setCell ⟨g1, i * 5 + 2, none⟩ (.int .i64 c)).setCell ⟨g1, i * 5 + 3, none⟩ (.int .i64 d)).setCell ⟨g1, i * 5 + 4, none⟩ (.int .i64 e)) q g1 g2 g3 g4 o4 n c1 c2 c3 c4 (fun j => if j = i then ⟨a, b, c, d, e⟩ else Q j) T U l := by
  have h0 := h.setQ1 (k := 0) (v := .int .u64 a) (r := ⟨a, (Q i).b, (Q i).c, (Q i).d, (Q i).e⟩) hi (by omega) (fun k' hk' => by match k', hk' with
    | 0, _ => rfl
    | 1, _ => rfl
    | 2, _ => rfl
    | 3, _ => rfl
    | 4, _ => rfl)
  have h1 := h0.setQ1 (k := 1) (v := .int .i64 b) (r := ⟨a, b, (Q i).c, (Q i).d, (Q i).e⟩) hi (by omega) (fun k' hk' => by rw [if_pos rfl]; match k', hk' with
    | 0, _ => rfl
    | 1, _ => rfl
    | 2, _ => rfl
    | 3, _ => rfl
    | 4, _ => rfl)
  have h2 := h1.setQ1 (k := 2) (v := .int .i64 c) (r := ⟨a, b, c, (Q i).d, (Q i).e⟩) hi (by omega) (fun k' hk' => by rw [if_pos rfl]; match k', hk' with
    | 0, _ => rfl
    | 1, _ => rfl
    | 2, _ => rfl
    | 3, _ => rfl
    | 4, _ => rfl)
  have h3 := h2.setQ1 (k := 3) (v := .int .i64 d) (r := ⟨a, b, c, d, (Q i).e⟩) hi (by omega) (fun k' hk' => by rw [if_pos rfl]; match k', hk' with
    | 0, _ => rfl
    | 1, _ => rfl
    | 2, _ => rfl
    | 3, _ => rfl
    | 4, _ => rfl)
  have h4 := h3.setQ1 (k := 4) (v := .int .i64 e) (r := ⟨a, b, c, d, e⟩) hi (by omega) (fun k' hk' => by rw [if_pos rfl]; match k', hk' with
    | 0, _ => rfl
    | 1, _ => rfl
    | 2, _ => rfl
    | 3, _ => rfl
    | 4, _ => rfl)
  refine h4.congrQ fun j hj => ?_
  by_cases c : j = i
  · rw [if_pos c, if_pos c]
  · simp only [if_neg c]
/-- What a call leaves: the slab, its free ones somewhere, and all else as it was. -/
def Rs5 (w w' : World) (q g1 g2 g3 g4 n c1 c2 c3 : Nat) (Q : Nat → Rq) (T : Nat → Bool) (U : Nat → Int) (l : List Nat) : Prop :=
  ∃ g5 o5 c5, RsB w' q g1 g2 g3 g5 o5 n c1 c2 c3 c5 Q T U l ∧ (g5 = g4 ∨ w.heap.size ≤ g5) ∧ Kept (fun g => g = q ∨ g = g1 ∨ g = g2 ∨ g = g3) w w'
theorem rtake_none (a b c d e : Int) (w : World) (hs : RsB w q g1 g2 g3 g4 o4 n c1 c2 c3 c4 Q T U []) :
    Calls Try.prog 8 #[.pointer (some ⟨q, 0, none⟩), .agg #[.int .u64 a, .int .i64 b, .int .i64 c, .int .i64 d, .int .i64 e]] w fun x w' => x = .returned (.tuple #[.int .u64 0, .int .i64 4]) ∧ Below w.heap.size w w' := by
  have hx := hs.below ((Below.refl _ _).alloc (Nat.le_refl _) (.cells #[.int .u64 a, .int .i64 b, .int .i64 c, .int .i64 d, .int .i64 e] 42))
  have p3 := hx.p3
  rw [List.length_nil] at p3
  have hq := hs.head.size
  clear hs hx
  go_enter Try.func8, Try.ntmps8
  go_wp2_with fail
  go_ret2
  exact ⟨rfl, (Below.refl _ _).alloc (Nat.le_refl _) _⟩
set_option maxRecDepth 100000 in
set_option maxHeartbeats 4000000 in
theorem rtake_some {i : Nat} (a b c d e : Int) (w : World) (hs : RsB w q g1 g2 g3 g4 o4 n c1 c2 c3 c4 Q T U (i :: l)) (hi : i < n) (hn : n ≤ 1024) (u0 : 0 ≤ U i) (u1 : U i ≤ 1000000) :
    Calls Try.prog 8 #[.pointer (some ⟨q, 0, none⟩), .agg #[.int .u64 a, .int .i64 b, .int .i64 c, .int .i64 d, .int .i64 e]] w fun x w' => x = .returned (.tuple #[.int .u64 ((U i + 1) * 4294967296 + (i : Int)), .int .i64 0]) ∧
      Rs5 w w' q g1 g2 g3 g4 n c1 c2 c3 (fun j => if j = i then ⟨a, b, c, d, e⟩ else Q j) (fun j => if j = i then true else T j) (fun j => if j = i then U i + 1 else U j) l := by
  obtain ⟨u, hu⟩ : ∃ u, U i = u := ⟨_, rfl⟩
  rw [hu] at u0 u1 ⊢
  obtain ⟨T', hT'⟩ : ∃ T' : Nat → Bool, (fun j => if j = i then true else T j) = T' := ⟨_, rfl⟩
  rw [hT']
  have HT' := Lib.hid hT'
  clear hT'
  have HU := Lib.hid hu
  clear hu
  have hx := hs.below ((Below.refl _ _).alloc (Nat.le_refl _) (.cells #[.int .u64 a, .int .i64 b, .int .i64 c, .int .i64 d, .int .i64 e] 42))
  have hq := hs.head.size
  have p3 := hx.p3
  have f0 := hx.f0 (j := 0) (by simp)
  have lc := hs.lc
  simp only [List.length_cons] at lc p3
  rw [List.getElem_cons_zero, Nat.add_zero] at f0
  have zq := hx.head.free
  have HS0 := Lib.hid hs
  unfold maxLen at lc
  obtain ⟨lc0, lc1⟩ := lc
  obtain ⟨k4, rfl⟩ : ∃ k4, c4 = k4 + 1 := ⟨c4 - 1, by omega⟩
  obtain ⟨o5, ho5⟩ : ∃ o5, (if k4 + 1 = 1 then o4 else o4 + 1) = o5 := ⟨_, rfl⟩
  have ho5' : (if k4 + 1 = 1 then some (⟨g4, o4, none⟩ : Addr) else some ⟨g4, o4 + 1, none⟩) = some ⟨g4, o5, none⟩ := by rw [← ho5]; split <;> rfl
  have ho5'' : (if k4 = 0 then some (⟨g4, o4, none⟩ : Addr) else some ⟨g4, o4 + 1, none⟩) = some ⟨g4, o5, none⟩ := by rw [← ho5']; simp
  have hol : l ≠ [] → o5 = o4 + 1 := fun h => by
    have : 0 < l.length := List.length_pos_iff.2 h
    rw [← ho5, if_neg (by omega)]
  have HOL := Lib.hid hol
  have LB : (l.length : Int) + 1 ≤ (k4 : Int) + 1 := by omega
  clear hs hx ho5 hol
  go_enter Try.func8, Try.ntmps8
  go_upto_region 5 with fail
  refine wp_worldx (fun wx => RsB wx q g1 g2 g3 g4 o5 n c1 c2 c3 k4 Q T U l ∧ Blk wx w.heap.size 42 #[.int .u64 a, .int .i64 b, .int .i64 c, .int .i64 d, .int .i64 e] ∧ Kept (fun g => g = q ∨ g = g1 ∨ g = g2 ∨ g = g3) w wx) ⟨(HS0.out.pop (c5 := k4) (by omega) (by unfold maxLen; omega) o5 HOL.out).below ((Below.refl _ _).alloc (Nat.le_refl _) _), Blk.new_ (by simp), ((Kept.refl (fun g => g = q ∨ g = g1 ∨ g = g2 ∨ g = g3) w).set_ (p := ⟨q, 3, none⟩) (.inl (.inl rfl)) _).alloc_ _⟩ ?_
  clear HS0 p3 f0 zq
  rintro w1 ⟨h1, bx, k1⟩
  have p0 := h1.p0
  have p1 := h1.p1
  have b0 := bx.val (i := 0) rfl
  have b1 := bx.val (i := 1) rfl
  have b2 := bx.val (i := 2) rfl
  have b3 := bx.val (i := 3) rfl
  have b4 := bx.val (i := 4) rfl
  have z1 : ∀ k, w1.frozen? ⟨g1, k, none⟩ = false := by obtain ⟨cs, bc, _⟩ := h1.r1; exact bc.free
  have z2 : ∀ k, w1.frozen? ⟨g2, k, none⟩ = false := by obtain ⟨cs, bc, _⟩ := h1.r2; exact bc.free
  have y0 := h1.t0 hi
  have hcell : ∀ k, k < 5 → w1.cell? ⟨g1, i * 5 + k, none⟩ = (reqRow (Q i))[k]? := fun k hk => by obtain ⟨cs, bc, cc⟩ := h1.r1; exact (bc.at_ _).trans (cc i hi k hk)
  have d0 : w1.cell? ⟨g1, i * 5, none⟩ = some (.int .u64 (Q i).a) := hcell 0 (by omega)
  have d1 : w1.cell? ⟨g1, i * 5 + 1, none⟩ = some (.int .i64 (Q i).b) := hcell 1 (by omega)
  have d2 : w1.cell? ⟨g1, i * 5 + 2, none⟩ = some (.int .i64 (Q i).c) := hcell 2 (by omega)
  have d3 : w1.cell? ⟨g1, i * 5 + 3, none⟩ = some (.int .i64 (Q i).d) := hcell 3 (by omega)
  have d4 : w1.cell? ⟨g1, i * 5 + 4, none⟩ = some (.int .i64 (Q i).e) := hcell 4 (by omega)
  have hap := h1.apart
  have g12 : g1 ≠ g2 := hap.2.2.2.2.1
  have s1 := klt d0
  have s2 := klt y0
  have sq := h1.head.size
  have ii0 : (0 : Int) ≤ (i : Int) := by omega
  have ii1 : (i : Int) < (n : Int) := by omega
  have H1 := Lib.hid h1
  have K1 := Lib.hid k1
  clear h1 bx k1 hcell hap
  refine begun (fun w' => w'.cell? ⟨q, 0, none⟩ = some (.slice (some ⟨g1, 0, none⟩) n c1) ∧ w'.cell? ⟨q, 1, none⟩ = some (.slice (some ⟨g2, 0, none⟩) n c2) ∧ w'.cell? ⟨w.heap.size, 0, none⟩ = some (.int .u64 a) ∧ w'.cell? ⟨w.heap.size, 1, none⟩ = some (.int .i64 b) ∧ w'.cell? ⟨w.heap.size, 2, none⟩ = some (.int .i64 c) ∧ w'.cell? ⟨w.heap.size, 3, none⟩ = some (.int .i64 d) ∧ w'.cell? ⟨w.heap.size, 4, none⟩ = some (.int .i64 e)) [12, 14] (by kernel_rfl) ⟨p0, p1, b0, b1, b2, b3, b4⟩ (fun hShut hHeld => ?_)
  refine anyB_takeW (i := 0) (v := ?_) rfl (by kernel_rfl) (by kernel_rfl) (by kernel_rfl) (by kernel_rfl) (fun _ _ _ h => h) hShut (fun _ => hHeld) (Or.inl ⟨by rfl, ?_⟩) (fun hShut => ?_)
  case refine_2 => (rintro wz -; go_simp; try with_reducible rfl)
  try simp only [Act.put, List.getElem_toArray, List.getElem_cons_zero, List.getElem_cons_succ, List.setIfInBounds_toArray, List.set_cons_zero, List.set_cons_succ]
  refine anyB_takeW (i := 1) (v := ?_) rfl (by kernel_rfl) (by kernel_rfl) (by kernel_rfl) (by kernel_rfl) (fun _ _ _ h => h) hShut (fun _ => hHeld) (Or.inl ⟨by rfl, ?_⟩) (fun hShut => ?_)
  case refine_2 => (rintro wz -; go_simp; try with_reducible rfl)
  try simp only [Act.put, List.getElem_toArray, List.getElem_cons_zero, List.getElem_cons_succ, List.setIfInBounds_toArray, List.set_cons_zero, List.set_cons_succ]
  refine anyB_takeW (i := 2) (v := ?_) rfl (by kernel_rfl) (by kernel_rfl) (by kernel_rfl) (by kernel_rfl) (fun _ _ _ h => h) hShut (fun _ => hHeld) (Or.inl ⟨by rfl, ?_⟩) (fun hShut => ?_)
  case refine_2 => (rintro wz -; go_simp; try with_reducible rfl)
  try simp only [Act.put, List.getElem_toArray, List.getElem_cons_zero, List.getElem_cons_succ, List.setIfInBounds_toArray, List.set_cons_zero, List.set_cons_succ]
  refine anyB_take 15 (i := 3) (v := ?_) rfl (by kernel_rfl) (by kernel_rfl) (by kernel_rfl) (by kernel_rfl) (by kernel_rfl) (fun _ _ _ h => h) hShut hHeld (Or.inl ⟨by rfl, ?_⟩) (fun hShut => ?_)
  case refine_2 => (rintro wz ⟨s0, s1, s2, s3, s4, s5, s6⟩; go_simp; try with_reducible rfl)
  try simp only [Act.put, List.getElem_toArray, List.getElem_cons_zero, List.getElem_cons_succ, List.setIfInBounds_toArray, List.set_cons_zero, List.set_cons_succ]
  refine anyB_takeW (i := 4) (v := ?_) rfl (by kernel_rfl) (by kernel_rfl) (by kernel_rfl) (by kernel_rfl) (fun _ _ _ h => h) hShut (fun _ => hHeld) (Or.inl ⟨by rfl, ?_⟩) (fun hShut => ?_)
  case refine_2 => (rintro wz -; go_simp; try with_reducible rfl)
  try simp only [Act.put, List.getElem_toArray, List.getElem_cons_zero, List.getElem_cons_succ, List.setIfInBounds_toArray, List.set_cons_zero, List.set_cons_succ]
  refine anyB_takeW (i := 5) (v := ?_) rfl (by kernel_rfl) (by kernel_rfl) (by kernel_rfl) (by kernel_rfl) (fun _ _ _ h => h) hShut (fun _ => hHeld) (Or.inl ⟨by rfl, ?_⟩) (fun hShut => ?_)
  case refine_2 => (rintro wz -; go_simp; try with_reducible rfl)
  try simp only [Act.put, List.getElem_toArray, List.getElem_cons_zero, List.getElem_cons_succ, List.setIfInBounds_toArray, List.set_cons_zero, List.set_cons_succ]
  refine anyB_takeW (i := 6) (v := ?_) rfl (by kernel_rfl) (by kernel_rfl) (by kernel_rfl) (by kernel_rfl) (fun _ _ _ h => h) hShut (fun _ => hHeld) (Or.inl ⟨by rfl, ?_⟩) (fun hShut => ?_)
  case refine_2 => (rintro wz -; go_simp; try with_reducible rfl)
  try simp only [Act.put, List.getElem_toArray, List.getElem_cons_zero, List.getElem_cons_succ, List.setIfInBounds_toArray, List.set_cons_zero, List.set_cons_succ]
  refine anyB_takeW (i := 7) (v := ?_) rfl (by kernel_rfl) (by kernel_rfl) (by kernel_rfl) (by kernel_rfl) (fun _ _ _ h => h) hShut (fun _ => hHeld) (Or.inl ⟨by rfl, ?_⟩) (fun hShut => ?_)
  case refine_2 => (rintro wz -; go_simp; try with_reducible rfl)
  try simp only [Act.put, List.getElem_toArray, List.getElem_cons_zero, List.getElem_cons_succ, List.setIfInBounds_toArray, List.set_cons_zero, List.set_cons_succ]
  refine anyB_take 15 (i := 8) (v := ?_) rfl (by kernel_rfl) (by kernel_rfl) (by kernel_rfl) (by kernel_rfl) (by kernel_rfl) (fun _ _ _ h => h) hShut hHeld (Or.inl ⟨by rfl, ?_⟩) (fun hShut => ?_)
  case refine_2 => (rintro wz ⟨s0, s1, s2, s3, s4, s5, s6⟩; go_simp; try with_reducible rfl)
  try simp only [Act.put, List.getElem_toArray, List.getElem_cons_zero, List.getElem_cons_succ, List.setIfInBounds_toArray, List.set_cons_zero, List.set_cons_succ]
  refine anyB_takeW (i := 9) (v := ?_) rfl (by kernel_rfl) (by kernel_rfl) (by kernel_rfl) (by kernel_rfl) (fun _ _ _ h => h) hShut (fun _ => hHeld) (Or.inl ⟨by rfl, ?_⟩) (fun hShut => ?_)
  case refine_2 => (rintro wz -; go_simp; try with_reducible rfl)
  try simp only [Act.put, List.getElem_toArray, List.getElem_cons_zero, List.getElem_cons_succ, List.setIfInBounds_toArray, List.set_cons_zero, List.set_cons_succ]
  refine anyB_take 15 (i := 10) (v := ?_) rfl (by kernel_rfl) (by kernel_rfl) (by kernel_rfl) (by kernel_rfl) (by kernel_rfl) (fun _ _ _ h => h) hShut hHeld (Or.inl ⟨by rfl, ?_⟩) (fun hShut => ?_)
  case refine_2 => (rintro wz ⟨s0, s1, s2, s3, s4, s5, s6⟩; go_simp; try with_reducible rfl)
  try simp only [Act.put, List.getElem_toArray, List.getElem_cons_zero, List.getElem_cons_succ, List.setIfInBounds_toArray, List.set_cons_zero, List.set_cons_succ]
  refine anyB_takeW (i := 11) (v := ?_) rfl (by kernel_rfl) (by kernel_rfl) (by kernel_rfl) (by kernel_rfl) (fun _ _ _ h => h) hShut (fun _ => hHeld) (Or.inl ⟨by rfl, ?_⟩) (fun hShut => ?_)
  case refine_2 => (rintro wz -; go_simp; try with_reducible rfl)
  try simp only [Act.put, List.getElem_toArray, List.getElem_cons_zero, List.getElem_cons_succ, List.setIfInBounds_toArray, List.set_cons_zero, List.set_cons_succ]
  refine anyB_each (rs := [12]) hShut (by kernel_rfl) (by simp) ?_
  refine List.forall_mem_cons.2 ⟨fun hShut => wpOp_step rfl (fun K hK => ?_), fun _ h => by cases h⟩
  go_simp
  refine unheld hK (by kernel_rfl) ?_
  clear hK K
  refine anyB_takeW (i := 13) (v := ?_) rfl (by kernel_rfl) (by kernel_rfl) (by kernel_rfl) (by kernel_rfl) (fun _ _ _ h => h) hShut (fun c => absurd c (by decide +kernel)) (Or.inl ⟨by rfl, ?_⟩) (fun hShut => ?_)
  case refine_2 => (rintro wz -; go_simp; try with_reducible rfl)
  try simp only [Act.put, List.getElem_toArray, List.getElem_cons_zero, List.getElem_cons_succ, List.setIfInBounds_toArray, List.set_cons_zero, List.set_cons_succ]
  refine anyB_each (rs := [14]) hShut (by kernel_rfl) (by simp) ?_
  refine List.forall_mem_cons.2 ⟨fun hShut => wpOp_step rfl (fun K hK => ?_), fun _ h => by cases h⟩
  go_simp
  refine unheld hK (by kernel_rfl) ?_
  clear hK K
  refine anyB_done (by kernel_rfl) ?_ _
  have H2 := Lib.hid ((H1.out.setQ hi a b c d e).setT hi true)
  have K2 := Lib.hid ((((((K1.out.set_ (p := ⟨g1, i * 5, none⟩) (.inl (.inr (.inl rfl))) (.int .u64 a)).set_ (p := ⟨g1, i * 5 + 1, none⟩) (.inl (.inr (.inl rfl))) (.int .i64 b)).set_ (p := ⟨g1, i * 5 + 2, none⟩) (.inl (.inr (.inl rfl))) (.int .i64 c)).set_ (p := ⟨g1, i * 5 + 3, none⟩) (.inl (.inr (.inl rfl))) (.int .i64 d)).set_ (p := ⟨g1, i * 5 + 4, none⟩) (.inl (.inr (.inl rfl))) (.int .i64 e)).set_ (p := ⟨g2, i, none⟩) (.inl (.inr (.inr (.inl rfl)))) (.bool true))
  clear p0 p1 b0 b1 b2 b3 b4 z1 z2 y0 d0 d1 d2 d3 d4 hHeld H1 K1 s1 s2 sq
  (try refine NoPanic.normal ?_)
  go_upto_region 6 with fail
  refine wp_worldx (fun wx => RsB wx q g1 g2 g3 g4 o5 n c1 c2 c3 k4 (fun j => if j = i then ⟨a, b, c, d, e⟩ else Q j) T' U l ∧ Kept (fun g => g = q ∨ g = g1 ∨ g = g2 ∨ g = g3) w wx) ⟨HT'.out ▸ H2.out.below (Below.refl _ _).drew, K2.out.drew_⟩ ?_
  clear H2 K2
  rintro w2 ⟨h2, k2⟩
  have p2 := h2.p2
  have x0 := h2.u0 hi
  have z3 : ∀ k, w2.frozen? ⟨g3, k, none⟩ = false := by obtain ⟨cs, bc, _⟩ := h2.r3; exact bc.free
  rw [HU.out] at x0
  have s3 := klt x0
  have w1' : IntKind.u64.wrap (u + 1) = u + 1 := IntWalk.u64_in _ (by omega)
  have w2' : IntKind.u64.wrap ((u + 1) * 4294967296) = (u + 1) * 4294967296 := IntWalk.u64_in _ (by omega)
  have w3' : IntKind.u64.wrap ((u + 1) * 4294967296 + (i : Int)) = (u + 1) * 4294967296 + (i : Int) := IntWalk.u64_in _ (by omega)
  have w4' : IntKind.u64.wrap (i : Int) = (i : Int) := IntWalk.u64_in _ (by omega)
  have q3 : q ≠ g3 := h2.apart.2.2.1
  have H3 := Lib.hid (h2.setU hi (u + 1))
  have K3 := Lib.hid (k2.set_ (p := ⟨g3, i, none⟩) (.inl (.inr (.inr (.inr rfl)))) (.int .u64 (u + 1)))
  clear h2 k2
  go_wp2_with fail
  go_ret2
  exact ⟨rfl, g4, o5, k4, H3.out, .inl rfl, K3.out⟩
def intsN (l : List Nat) : List Value := l.map fun (x : Nat) => Value.int .i64 (x : Int)
/-- The free ones are another row. -/
theorem RsB.refree {base g c : Nat} {l' : List Nat} (h : RsB w q g1 g2 g3 g4 o4 n c1 c2 c3 c4 Q T U l) (ho : w.ownsRow base 3 1 (.slice (some ⟨g, 0, none⟩) l'.length c) l'.length (intsN l')) : RsB (w.setCell ⟨q, 3, none⟩ (.slice (some ⟨g, 0, none⟩) l'.length c)) q g1 g2 g3 g 0 n c1 c2 c3 c Q T U l' := by
  obtain ⟨x1, x2, x3, x4, x5, x6, x7, x8, x9, x10⟩ := h.apart
  obtain ⟨hd, ⟨a1, b1, d1⟩, ⟨a2, b2, d2⟩, ⟨a3, b3, d3⟩, ⟨a4, b4, d4⟩, e⟩ := h
  rcases ho.2 with ⟨k, _⟩ | ⟨g', cap, cur, hv, hb, hg, h1, h2, h3, h4⟩
  · cases k
  · injection hv with ea eb ec
    injection ea with ea
    injection ea with ea
    subst ea ec
    have hgb : Blk w g 3 cur := hg
    refine ⟨hd.set_ 3 _, ⟨a1, b1.far _ (Ne.symm x1), d1⟩, ⟨a2, b2.far _ (Ne.symm x2), d2⟩, ⟨a3, b3.far _ (Ne.symm x3), d3⟩, ⟨cur, hgb.far _ (hgb.other hd (by decide)), fun j hj => ?_⟩, h1, h2⟩
    have e1 : (intsN l')[j]? = some (.int .i64 ((l'[j] : Nat) : Int)) := by unfold intsN; rw [List.getElem?_map, List.getElem?_eq_getElem hj]; rfl
    rw [Nat.zero_add, ← e1, ← h4, List.getElem?_take_of_lt (by omega), Array.getElem?_toList]
theorem sinf4 : (Try.prog.info? 3).map (fun i => (i.zero, i.size, i.bytes)) = some (some (.int .i64 0), 1, 8) := by kernel_rfl
set_option maxHeartbeats 1000000 in
theorem rdrop_no (h : Int) (w : World) (hs : RsB w q g1 g2 g3 g4 o4 n c1 c2 c3 c4 Q T U l) (h0 : 0 ≤ h) (h1 : h ≤ 18446744073709551615) (hn : n ≤ 1024) (ha : atE n T U h = -1) :
    Calls Try.prog 10 #[.pointer (some ⟨q, 0, none⟩), .int .u64 h] w fun e w' => e = .returned (.int .i64 6) ∧ w = w' := by
  have HS := Lib.hid hs
  have HA := Lib.hid ha
  clear hs ha
  go_enter Try.func10, Try.ntmps10
  go_wp2_with (go_at_call 12; refine (rat_any _ _ HS.out h0 h1 hn).mono ?_; rw [HA.out]; rintro e w1 ⟨rfl, rfl⟩)
  go_ret
  exact ⟨rfl, rfl⟩
set_option maxRecDepth 100000 in
set_option maxHeartbeats 4000000 in
theorem rdrop_yes {i : Nat} (h : Int) (w : World) (hs : RsB w q g1 g2 g3 g4 o4 n c1 c2 c3 c4 Q T U l) (h0 : 0 ≤ h) (h1 : h ≤ 18446744073709551615) (hn : n ≤ 1024) (ha : atE n T U h = (i : Int)) (hi : i < n) (hl : l.length ≤ 1024) :
    Calls Try.prog 10 #[.pointer (some ⟨q, 0, none⟩), .int .u64 h] w fun e w' => e = .returned (.int .i64 0) ∧ Rs5 w w' q g1 g2 g3 g4 n c1 c2 c3 Q (fun j => if j = i then false else T j) U (i :: l) := by
  obtain ⟨i0, hi0, hzz⟩ := Option.map_eq_some_iff.1 sinf4
  simp only [Prod.mk.injEq] at hzz
  obtain ⟨hz0, hz1, hz2⟩ := hzz
  obtain ⟨T', hT'⟩ : ∃ T' : Nat → Bool, (fun j => if j = i then false else T j) = T' := ⟨_, rfl⟩
  rw [hT']
  have HT' := Lib.hid hT'
  clear hT'
  have p1 := hs.p1
  have t0 := hs.t0 hi
  have z2 : ∀ k, w.frozen? ⟨g2, k, none⟩ = false := by obtain ⟨cs, bc, _⟩ := hs.r2; exact bc.free
  have s2 := klt t0
  have sq := hs.head.size
  have ii0 : (0 : Int) ≤ (i : Int) := by omega
  have ii1 : (i : Int) < (n : Int) := by omega
  have ii2 : ¬ (i : Int) < 0 := by omega
  have HS := Lib.hid hs
  have HA := Lib.hid ha
  clear hs ha
  go_enter Try.func10, Try.ntmps10
  go_upto_region 5 with (go_at_call 12; refine (rat_any _ _ HS.out h0 h1 hn).mono ?_; rw [HA.out]; rintro e w1 ⟨rfl, rfl⟩)
  refine wp_worldx (fun wx => RsB wx q g1 g2 g3 g4 o4 n c1 c2 c3 c4 Q T' U l ∧ Kept (fun g => g = q ∨ g = g1 ∨ g = g2 ∨ g = g3) w wx) ⟨HT'.out ▸ HS.out.setT hi false, (Kept.refl _ w).set_ (p := ⟨g2, i, none⟩) (.inl (.inr (.inr (.inl rfl)))) _⟩ ?_
  clear p1 t0 z2 s2 sq
  rintro w1 ⟨hs1, k1⟩
  have p3 := hs1.p3
  have sq := hs1.head.size
  have zq := hs1.head.free
  have HL : Hid (∀ j u, (intsN l)[j]? = some u → (w1.alloc (.cells #[.int .i64 (i : Int)] 3)).cell? ((⟨g4, o4, none⟩ : Addr).add j) = some u) := Lib.hid (fun j u hj => by
    have hjl : j < l.length := by
      rcases Nat.lt_or_ge j l.length with c | c
      · exact c
      · rw [List.getElem?_eq_none (by unfold intsN; simp; omega)] at hj; cases hj
    have e1 : (intsN l)[j]? = some (.int .i64 ((l[j] : Nat) : Int)) := by unfold intsN; rw [List.getElem?_map, List.getElem?_eq_getElem hjl]; rfl
    rw [e1] at hj
    have f0 := hs1.f0 hjl
    have f1 := (((Below.refl w1.heap.size w1).alloc (Nat.le_refl _) (.cells #[.int .i64 (i : Int)] 3)).cell (p := ⟨g4, o4 + j, none⟩) (klt f0)).trans f0
    rw [← hj, ← f1]
    unfold Addr.add
    split
    · next e => subst e; rfl
    · rfl)
  have H1 := Lib.hid hs1
  have K1 := Lib.hid k1
  have OL := Lib.hid (World.ownsRow_lit (e := 3) (base := w1.heap.size) (size := 1) w1 #[.int .i64 (i : Int)] 1 (Nat.le_refl _) (by decide) rfl)
  clear hs1 k1
  go_upto_region 6 with (at_builtin; refine wpList_append_own _ rfl (.tmp 19) (.tmp 23) 49 rfl w1.heap.size 3 i0 (.int .i64 0) 1 8 Try.underlying49 hi0 hz0 hz1 hz2 rfl (by decide) _ 1 _ rfl OL.out ⟨g4, o4, none⟩ l.length c4 (intsN l) rfl (by unfold intsN; simp) HL.out (by intro u hu; unfold intsN at hu; obtain ⟨x, _, rfl⟩ := List.mem_map.1 hu; rfl) (by unfold maxLen; omega) (by omega) (by simp) ?_; intro v5 w5 hown5 hg5 _; obtain ⟨g5, k5, rfl, hg5a, hg5b⟩ := own_at hown5 (by omega); have HO5 := Lib.hid hown5; have HB5 := Lib.hid (((Below.refl w1.heap.size w1).alloc (Nat.le_refl _) (.cells #[.int .i64 (i : Int)] 3)).grown hg5 (by simp) (fun g e => by have := (OL.out.lt g e).1; exact this)); have R5 := Lib.hid (H1.out.below HB5.out); have p35 := R5.out.p3; have zq5 := R5.out.head.free; have sq5 := R5.out.head.size; clear hown5 hg5)
  have e5 : (l.length + 1 : Nat) = (i :: l).length := rfl
  have HF := Lib.hid (RsB.refree (l' := i :: l) R5.out (by
    have := HO5.out
    rw [show 1 + l.length = (i :: l).length from by simp; omega] at this
    exact this))
  have KF := Lib.hid ((K1.out.trans (Kept.of_below (own := fun g => g = q ∨ g = g1 ∨ g = g2 ∨ g = g3) HB5.out)).set_ (p := ⟨q, 3, none⟩) (.inl (.inl rfl)) (.slice (some ⟨g5, 0, none⟩) (i :: l).length k5))
  clear p35 zq5 sq5 p3 zq
  go_wp2_with fail
  go_ret
  refine ⟨rfl, g5, 0, k5, ?_, .inr (by have := K1.out.size; omega), ?_⟩
  · have := HF.out
    rw [show (i :: l).length = 1 + l.length from by simp; omega] at this
    exact this
  · have := KF.out
    rw [show (i :: l).length = 1 + l.length from by simp; omega] at this
    exact this
end
end Go.Proofs.Ytjhcppiamkkdbaa
