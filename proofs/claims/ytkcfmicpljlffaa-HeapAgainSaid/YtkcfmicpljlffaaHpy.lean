/- What the document's heap answers, and what it leaves. -/
import Derived.Test.YtkcfmicpljlffaaHpx
import Derived.Deep.RegionHeld3
import Derived.StillTailTactics
namespace Go.Proofs.Ytkcfmicpljlffaa
open Go.ChangeShapes Go.WideShapes Go.RowKit
set_option linter.unusedVariables false
set_option linter.unusedSimpArgs false
theorem rinfe : (Try.prog.info? 46).map (fun i => (i.zero, i.size, i.bytes)) = some (some (.agg #[.int .i64 0, .int .i64 0, .int .u64 0]), 3, 24) := by kernel_rfl
theorem flatR_one (e : En) : flatR [e] = entR e := by unfold flatR; simp
theorem flatR_append (l l' : List En) : flatR (l ++ l') = flatR l ++ flatR l' := by unfold flatR; simp
section
variable {w w' : World} {B k base x n : Nat} {v : Value} {L l : List En} {e b : En}
theorem ins_end (h : ∀ a ∈ l, ¬ ltE e a) : insE e l = l ++ [e] := by
  induction l with
  | nil => rfl
  | cons a l ih =>
    unfold insE
    rw [if_neg (h a (List.mem_cons_self ..)), ih fun c hc => h c (List.mem_cons_of_mem _ hc)]
    rfl
theorem ins_here (h : ∀ a ∈ l, ¬ ltE e a) (hb : ltE e b) : insE e (l ++ [b]) = l ++ [e, b] := by
  induction l with
  | nil => show insE e [b] = [e, b]; unfold insE; rw [if_pos hb]
  | cons a l ih =>
    show insE e (a :: (l ++ [b])) = _
    unfold insE
    rw [if_neg (h a (List.mem_cons_self ..)), ih fun c hc => h c (List.mem_cons_of_mem _ hc)]
    rfl
theorem ins_past (h : ∃ a ∈ l, ltE e a) : insE e (l ++ [b]) = insE e l ++ [b] := by
  induction l with
  | nil => obtain ⟨a, ha, _⟩ := h; simp at ha
  | cons a l ih =>
    show insE e (a :: (l ++ [b])) = insE e (a :: l) ++ [b]
    unfold insE
    by_cases hl : ltE e a
    · rw [if_pos hl, if_pos hl]; rfl
    · rw [if_neg hl, if_neg hl]
      obtain ⟨c, hc, hce⟩ := h
      rcases List.mem_cons.1 hc with rfl | hc
      · exact absurd hce hl
      · rw [ih ⟨c, hc, hce⟩]; rfl
theorem take_snoc (hk : k < L.length) : L.take (k + 1) = L.take k ++ [L[k]!] := by
  rw [List.take_add_one, List.getElem?_eq_getElem hk, getElem!_pos L k hk]; rfl
theorem mem_take_ {a : En} : a ∈ L.take k ↔ ∃ j, j < k ∧ j < L.length ∧ L[j]! = a := by
  rw [List.mem_take_iff_getElem]
  constructor
  · rintro ⟨j, hj, rfl⟩
    exact ⟨j, by omega, by omega, getElem!_pos L j (by omega)⟩
  · rintro ⟨j, hj, hl, rfl⟩
    exact ⟨j, by omega, (getElem!_pos L j hl).symm⟩
theorem blk_low {w1 w7 : World} {g : Nat} {t : TypeId} {cs : Array Value} {lit : Obj} {B sz ln : Nat} {E : TypeId} {xs : List Value} (h : Blk w1 g t cs) (hg : g < B) (ho : w1.ownsRow B E sz v ln xs) (hgr : (w1.alloc lit).grownBy w7 v.ownBlock) : Blk w7 g t cs :=
  (hgr.block g (by have := h.size; simp; omega) fun e => by have := own_base ho e.symm; omega).trans (h.alloc_ lit)
set_option maxHeartbeats 1000000 in
theorem rput_out (e : En) (hi : e.m < 0 ∨ (n : Int) ≤ e.m) (w : World) (h : DocL base w x n L) : Calls Try.prog 17 #[.pointer (some ⟨x, 0, none⟩), e.r] w fun e w' => e = .returned (.int .i64 1) ∧ Below w.heap.size w w' := by
  obtain ⟨ek, et, em⟩ := e
  have hi : em < 0 ∨ (n : Int) ≤ em := hi
  obtain ⟨v, hb, ho⟩ := h.ex
  have q1 := hb.val (i := 1) rfl
  have hz := hb.size
  clear h hb ho
  by_cases h0 : em < 0
  · go_enter Try.func17, Try.ntmps17
    go_upto_region 1 with fail
    go_quiet (fail)
    go_wp2_with fail
    go_ret
    exact ⟨rfl, below_drewN_ ((Below.refl _ _).alloc (Nat.le_refl _) _) _⟩
  · have h1 : (n : Int) ≤ em := by omega
    have e0 : decide (em < 0) = false := decide_eq_false h0
    have h2 : 0 ≤ em := by omega
    clear hi
    go_enter Try.func17, Try.ntmps17
    go_upto_region 1 with fail
    go_quiet (fail)
    go_wp2_with fail
    go_ret
    exact ⟨rfl, below_drewN_ ((Below.refl _ _).alloc (Nat.le_refl _) _) _⟩
/-- Up to where it is known that one is, or isn't, there. -/
theorem rput_find (e : En) {i : Nat} (hm : e.m = (i : Int)) (hi : i < n) (w : World) (h : DocL base w x n L) (hl : L.length ≤ 100000) (hh : hasE (i : Int) L = true) : Calls Try.prog 17 #[.pointer (some ⟨x, 0, none⟩), e.r] w fun e w' => e = .returned (.int .i64 10) ∧ Below w.heap.size w w' := by
  obtain ⟨ek, et, em⟩ := e
  have hm : em = (i : Int) := hm
  subst hm
  obtain ⟨v, hb, ho⟩ := h.ex
  have q1 := hb.val (i := 1) rfl
  have hz := hb.size
  have H := Lib.hid h
  have h0 : ¬ (i : Int) < 0 := by omega
  have h1 : ¬ (n : Int) ≤ (i : Int) := by omega
  have h2 : (0 : Int) ≤ (i : Int) := by omega
  have e0 : decide ((i : Int) < 0) = false := decide_eq_false h0
  have e1 : decide ((n : Int) ≤ (i : Int)) = false := decide_eq_false h1
  clear h hb ho
  go_enter Try.func17, Try.ntmps17
  go_upto_region 1 with fail
  go_quiet (fail)
  go_wp2_with fail
  refine (rfind (i : Int) _ ((H.out.below ((Below.refl _ _).alloc (Nat.le_refl _) _)).below (below_drewN_ (Below.refl _ _) _)) (by omega)).mono ?_
  rintro e w1 ⟨hc, rfl⟩
  rcases hc with ⟨hno, -⟩ | ⟨k, hk, -, rfl⟩
  · rw [hh] at hno; cases hno
  · have k0 : (0 : Int) ≤ (k : Int) := by omega
    go_wp2_with fail
    go_ret
    exact ⟨rfl, below_drewN_ ((Below.refl _ _).alloc (Nat.le_refl _) _) _⟩
set_option maxRecDepth 20000 in
set_option maxHeartbeats 8000000 in
theorem rput_new (e : En) {i : Nat} (hm : e.m = (i : Int)) (hi : i < n) (w : World) (h : DocL base w x n L) (hbase : base ≤ w.heap.size) (hl : L.length ≤ 100000) (hh : hasE (i : Int) L = false) : Calls Try.prog 17 #[.pointer (some ⟨x, 0, none⟩), e.r] w fun e' w' => e' = .returned (.int .i64 0) ∧ DocL base w' x n (insE e L) ∧ Kept (fun g => g = x) w w' := by
  obtain ⟨ek, et, em⟩ := e
  have hm : em = (i : Int) := hm
  subst hm
  obtain ⟨v, hb, ho⟩ := h.ex
  have q1 := hb.val (i := 1) rfl
  have hz := hb.size
  have H := Lib.hid h
  have HX := Lib.hid hb
  have HO := Lib.hid ho
  obtain ⟨m, hmm⟩ : ∃ m, L.length = m := ⟨_, rfl⟩
  have HM := Lib.hid hmm
  obtain ⟨i0', hi0, hzz⟩ := Option.map_eq_some_iff.1 rinfe
  simp only [Prod.mk.injEq] at hzz
  obtain ⟨hz0, hz1, hz2⟩ := hzz
  have HZ := Lib.hid (And.intro hi0 (And.intro hz0 (And.intro hz1 hz2)))
  clear hi0 hz0 hz1 hz2 hmm
  have h0 : ¬ (i : Int) < 0 := by omega
  have h1 : ¬ (n : Int) ≤ (i : Int) := by omega
  have h2 : (0 : Int) ≤ (i : Int) := by omega
  have e0 : decide ((i : Int) < 0) = false := decide_eq_false h0
  have e1 : decide ((n : Int) ≤ (i : Int)) = false := decide_eq_false h1
  clear h hb ho
  go_enter Try.func17, Try.ntmps17
  go_upto_region 1 with fail
  go_quiet (fail)
  go_wp2_with fail
  refine (rfind (i : Int) _ ((H.out.below ((Below.refl _ _).alloc (Nat.le_refl _) _)).below (below_drewN_ (Below.refl _ _) _)) (by omega)).mono ?_
  rintro e w1 ⟨hc, rfl⟩
  rcases hc with ⟨-, rfl⟩ | ⟨k, hk, hkm, -⟩
  · go_upto_region 5 with fail
    refine wp_worldh (fun wx => Blk wx w.heap.size 46 #[.int .i64 (i : Int), .int .i64 ek, .int .u64 et] ∧ Below w.heap.size w wx) ⟨Blk.made _ _ _, below_drewN_ ((Below.refl _ _).alloc (Nat.le_refl _) _) _⟩ ?_
    clear q1 h0 h1 h2 e0 e1
    rintro w2 ⟨bx, b2⟩
    have BX := Lib.hid bx
    have B2 := Lib.hid b2
    clear bx b2
    obtain ⟨A, c, rfl⟩ := own_form HO.out
    have ho := HO.out
    rw [HM.out] at ho
    have hx := HX.out
    rw [HM.out] at hx
    have HO2 := Lib.hid ho
    have HX2 := Lib.hid hx
    have hml : m ≤ 100000 := by rw [← HM.out]; exact hl
    clear ho hx HO HX
    go_wp2_with fail
    go_loopw [5, 6, 7] (fun s5 s6 s7 wr => ∃ (k : Nat) (pl : Bool) (Ao : Option Addr) (co : Nat) (lo : List En), k ≤ m ∧ s7 = .int .i64 (k : Int) ∧ s6 = .bool pl ∧ s5 = .slice Ao lo.length co ∧ ((pl = false ∧ lo = L.take k ∧ ∀ j, j < k → ¬ ltE ⟨ek, et, i⟩ L[j]!) ∨ (pl = true ∧ lo = insE ⟨ek, et, i⟩ (L.take k) ∧ ∃ j, j < k ∧ ltE ⟨ek, et, i⟩ L[j]!)) ∧ lo.length ≤ k + 1 ∧ wr.ownsRow (w.heap.size + 1) 46 3 (.slice Ao lo.length co) lo.length (flatR lo) ∧ Blk wr w.heap.size 46 #[.int .i64 (i : Int), .int .i64 ek, .int .u64 et] ∧ Below w.heap.size w wr) (fun _ _ s _ => m - (intOf s).toNat)
    case atStart => exact ⟨0, false, none, 0, [], Nat.zero_le _, rfl, rfl, rfl, .inl ⟨rfl, rfl, fun j hj => absurd hj (by omega)⟩, by simp, World.ownsRow_nil _ _ _ _, BX.out, B2.out⟩
    case round =>
      clear BX B2
      obtain ⟨k, pl, Ao, co, lo, hk, rfl, rfl, rfl, hcase, hlo, ho, bx, b3⟩ := hrel
      have OO := Lib.hid ho
      have BX := Lib.hid bx
      have B3 := Lib.hid b3
      have HC := Lib.hid hcase
      have hsz : w.heap.size + 1 ≤ wr.heap.size := bx.size
      clear ho bx b3 hcase
      have qx : wr.cell? ⟨x, 0, none⟩ = some (.slice A m c) := (B3.out.cell (p := ⟨x, 0, none⟩) hz).trans (HX2.out.val rfl)
      by_cases hlt : k < m
      · obtain ⟨g, c', hv, _, hg, r0, r1, r2⟩ := own_enr HO2.out hlt
        injection hv with hv1 hv2 hv3
        subst hv1 hv3
        obtain ⟨⟨yk, yt, ym⟩, hy⟩ : ∃ y, L[k]! = y := ⟨_, rfl⟩
        rw [hy] at r0 r1 r2
        have R0 := Lib.hid r0
        have R1 := Lib.hid r1
        have R2 := Lib.hid r2
        replace r0 := (B3.out.cell (p := ⟨g, k * 3, none⟩) hg).trans r0
        replace r1 := (B3.out.cell (p := ⟨g, k * 3 + 1, none⟩) hg).trans r1
        replace r2 := (B3.out.cell (p := ⟨g, k * 3 + 2, none⟩) hg).trans r2
        have HY := Lib.hid hy
        have k0 : (0 : Int) ≤ (k : Int) := by omega
        have k1 : (k : Int) < (m : Int) := by omega
        have p0 : wr.cell? ⟨w.heap.size, 0, none⟩ = some (.int .i64 (i : Int)) := BX.out.val rfl
        have p1 : wr.cell? ⟨w.heap.size, 1, none⟩ = some (.int .i64 ek) := BX.out.val rfl
        have p2 : wr.cell? ⟨w.heap.size, 2, none⟩ = some (.int .u64 et) := BX.out.val rfl
        have hkL : k < L.length := by rw [HM.out]; exact hlt
        have hts := take_snoc hkL
        rw [hy] at hts
        have HTS := Lib.hid hts
        clear hy hv2 hts
        cases pl with
        | false =>
          have hcase : lo = L.take k ∧ ∀ j, j < k → ¬ ltE ⟨ek, et, i⟩ L[j]! := by rcases HC.out with ⟨_, h⟩ | ⟨h, _⟩; exact h; cases h
          have HC2 := Lib.hid hcase
          clear HC hcase
          by_cases hltE : ltE ⟨ek, et, i⟩ ⟨yk, yt, ym⟩
          · have hA : ∀ w, Calls Try.prog 28 #[.agg #[.int .i64 (i : Int), .int .i64 ek, .int .u64 et], .agg #[.int .i64 ym, .int .i64 yk, .int .u64 yt]] w fun e w' => e = .returned (.bool true) ∧ Below w.heap.size w w' := fun w => (rahead ⟨ek, et, i⟩ ⟨yk, yt, ym⟩ w).mono fun e w' h => ⟨by rcases h.1 with ⟨_, h⟩ | ⟨h, _⟩; exact h; exact absurd hltE h, h.2⟩
            have HA := Lib.hid hA
            clear hA
            go_upto_region 10 with fail
            first | (go_region_held3 (fun w' => w'.cell? ⟨w.heap.size, 0, none⟩ = some (.int .i64 (i : Int)) ∧ w'.cell? ⟨w.heap.size, 1, none⟩ = some (.int .i64 ek) ∧ w'.cell? ⟨w.heap.size, 2, none⟩ = some (.int .u64 et) ∧ w'.cell? ⟨x, 0, none⟩ = some (.slice (some ⟨g, 0, none⟩) m c) ∧ w'.cell? ⟨g, k * 3, none⟩ = some (.int .i64 ym) ∧ w'.cell? ⟨g, k * 3 + 1, none⟩ = some (.int .i64 yk) ∧ w'.cell? ⟨g, k * 3 + 2, none⟩ = some (.int .u64 yt)) ((repeat (first | with_reducible assumption | refine ⟨?_, ?_⟩ | with_reducible refine kdrew ?_ | with_reducible refine later_ hbn ?_))) ((go_at_call 28; refine (HA.out _).mono ?_; rintro e wn ⟨rfl, hbn⟩))) | fail
            all_goals
              have hbn2 : Below wr.heap.size wr wn := by first | exact hbn | exact ((Below.refl _ _).drew).trans hbn
              clear hbn
              go_upto_region 11 with fail
              refine wp_worldh (fun wx => wx.ownsRow (w.heap.size + 1) 46 3 (.slice Ao (lo).length co) (lo).length (flatR (lo)) ∧ Blk wx w.heap.size 46 #[.int .i64 (i : Int), .int .i64 ek, .int .u64 et] ∧ Below w.heap.size w wx) ⟨own_below OO.out hbn2, BX.out.below_ hbn2 BX.out.size, B3.out.trans (hbn2.mono B3.out.size)⟩ ?_
              clear qx r0 r1 r2 p0 p1 p2 OO BX B3 hsz
              rintro w20 ⟨o, bx, b3⟩
              have O20 := Lib.hid o
              have X20 := Lib.hid bx
              have B20 := Lib.hid b3
              clear o bx b3
              have qx : w20.cell? ⟨x, 0, none⟩ = some (.slice (some ⟨g, 0, none⟩) m c) := (B20.out.cell (p := ⟨x, 0, none⟩) hz).trans (HX2.out.val rfl)
              have r0 : w20.cell? ⟨g, k * 3, none⟩ = some (.int .i64 ym) := (B20.out.cell (p := ⟨g, k * 3, none⟩) hg).trans R0.out
              have r1 : w20.cell? ⟨g, k * 3 + 1, none⟩ = some (.int .i64 yk) := (B20.out.cell (p := ⟨g, k * 3 + 1, none⟩) hg).trans R1.out
              have r2 : w20.cell? ⟨g, k * 3 + 2, none⟩ = some (.int .u64 yt) := (B20.out.cell (p := ⟨g, k * 3 + 2, none⟩) hg).trans R2.out
              have p0 : w20.cell? ⟨w.heap.size, 0, none⟩ = some (.int .i64 (i : Int)) := X20.out.val rfl
              have p1 : w20.cell? ⟨w.heap.size, 1, none⟩ = some (.int .i64 ek) := X20.out.val rfl
              have p2 : w20.cell? ⟨w.heap.size, 2, none⟩ = some (.int .u64 et) := X20.out.val rfl
              have hsz : w.heap.size + 1 ≤ w20.heap.size := X20.out.size
              go_upto_region 12 with (at_builtin; refine wpList_append_own _ rfl (.tmp 47) (.tmp 49) 29 rfl (w.heap.size + 1) 46 i0' (.agg #[.int .i64 0, .int .i64 0, .int .u64 0]) 3 24 Try.underlying29 HZ.out.1 HZ.out.2.1 HZ.out.2.2.1 HZ.out.2.2.2 rfl (by decide) (.slice Ao ((lo).length) co) ((lo).length) (flatR (lo)) rfl (O20.out.alloc _) ⟨w20.heap.size, 0, none⟩ 1 1 [.int .i64 (i : Int), .int .i64 ek, .int .u64 et] rfl rfl (by intro j u hj; match j, hj with | 0, hj => simp at hj; subst hj; exact (Blk.new_ (by simp)).val rfl | 1, hj => simp at hj; subst hj; exact (Blk.new_ (by simp)).val rfl | 2, hj => simp at hj; subst hj; exact (Blk.new_ (by simp)).val rfl) (by intro u hu; simp at hu; rcases hu with rfl | rfl | rfl <;> rfl) (by unfold maxLen; omega) (by omega) (by simp; omega) ?_; intro v7 w7 hown7 hg7 _; have HO7 := Lib.hid hown7; have HG7 := Lib.hid hg7; clear hown7 hg7)
              have hlo21 : (lo ++ [(⟨ek, et, (i : Int)⟩ : En)]).length = (lo).length + 1 := by simp
              obtain ⟨A21, c21, rfl⟩ := own_form HO7.out
              have o21 : w7.ownsRow (w.heap.size + 1) 46 3 (.slice A21 (lo ++ [(⟨ek, et, (i : Int)⟩ : En)]).length c21) (lo ++ [(⟨ek, et, (i : Int)⟩ : En)]).length (flatR (lo ++ [(⟨ek, et, (i : Int)⟩ : En)])) := by rw [hlo21, flatR_append, flatR_one]; exact HO7.out
              rw [← hlo21]
              skip
              refine wp_worldh (fun wx => wx.ownsRow (w.heap.size + 1) 46 3 (.slice A21 (lo ++ [(⟨ek, et, (i : Int)⟩ : En)]).length c21) (lo ++ [(⟨ek, et, (i : Int)⟩ : En)]).length (flatR (lo ++ [(⟨ek, et, (i : Int)⟩ : En)])) ∧ Blk wx w.heap.size 46 #[.int .i64 (i : Int), .int .i64 ek, .int .u64 et] ∧ Below w.heap.size w wx) ⟨o21, blk_low X20.out (Nat.lt_succ_self _) O20.out HG7.out, (B20.out.alloc B20.out.size _).grown HG7.out (by have := B20.out.size; simp; omega) (fun g' e => by have := own_base O20.out e; omega)⟩ ?_
              clear qx r0 r1 r2 p0 p1 p2 hsz HO7 HG7 O20 X20 B20 o21
              rintro w21 ⟨o, bx, b3⟩
              have O21 := Lib.hid o
              have X21 := Lib.hid bx
              have B21 := Lib.hid b3
              clear o bx b3
              have qx : w21.cell? ⟨x, 0, none⟩ = some (.slice (some ⟨g, 0, none⟩) m c) := (B21.out.cell (p := ⟨x, 0, none⟩) hz).trans (HX2.out.val rfl)
              have r0 : w21.cell? ⟨g, k * 3, none⟩ = some (.int .i64 ym) := (B21.out.cell (p := ⟨g, k * 3, none⟩) hg).trans R0.out
              have r1 : w21.cell? ⟨g, k * 3 + 1, none⟩ = some (.int .i64 yk) := (B21.out.cell (p := ⟨g, k * 3 + 1, none⟩) hg).trans R1.out
              have r2 : w21.cell? ⟨g, k * 3 + 2, none⟩ = some (.int .u64 yt) := (B21.out.cell (p := ⟨g, k * 3 + 2, none⟩) hg).trans R2.out
              have p0 : w21.cell? ⟨w.heap.size, 0, none⟩ = some (.int .i64 (i : Int)) := X21.out.val rfl
              have p1 : w21.cell? ⟨w.heap.size, 1, none⟩ = some (.int .i64 ek) := X21.out.val rfl
              have p2 : w21.cell? ⟨w.heap.size, 2, none⟩ = some (.int .u64 et) := X21.out.val rfl
              have hsz : w.heap.size + 1 ≤ w21.heap.size := X21.out.size
              go_upto_region 9 with (at_builtin; refine wpList_append_own _ rfl (.tmp 51) (.tmp 59) 29 rfl (w.heap.size + 1) 46 i0' (.agg #[.int .i64 0, .int .i64 0, .int .u64 0]) 3 24 Try.underlying29 HZ.out.1 HZ.out.2.1 HZ.out.2.2.1 HZ.out.2.2.2 rfl (by decide) (.slice A21 ((lo ++ [(⟨ek, et, (i : Int)⟩ : En)]).length) c21) ((lo ++ [(⟨ek, et, (i : Int)⟩ : En)]).length) (flatR (lo ++ [(⟨ek, et, (i : Int)⟩ : En)])) rfl (O21.out.alloc _) ⟨w21.heap.size, 0, none⟩ 1 1 [.int .i64 ym, .int .i64 yk, .int .u64 yt] rfl rfl (by intro j u hj; match j, hj with | 0, hj => simp at hj; subst hj; exact (Blk.new_ (by simp)).val rfl | 1, hj => simp at hj; subst hj; exact (Blk.new_ (by simp)).val rfl | 2, hj => simp at hj; subst hj; exact (Blk.new_ (by simp)).val rfl) (by intro u hu; simp at hu; rcases hu with rfl | rfl | rfl <;> rfl) (by unfold maxLen; omega) (by omega) (by simp; omega) ?_; intro v7 w7 hown7 hg7 _; have HO7 := Lib.hid hown7; have HG7 := Lib.hid hg7; clear hown7 hg7)
              have hlo22 : (lo ++ [(⟨ek, et, (i : Int)⟩ : En)] ++ [(⟨yk, yt, ym⟩ : En)]).length = (lo ++ [(⟨ek, et, (i : Int)⟩ : En)]).length + 1 := by simp
              obtain ⟨A22, c22, rfl⟩ := own_form HO7.out
              have o22 : w7.ownsRow (w.heap.size + 1) 46 3 (.slice A22 (lo ++ [(⟨ek, et, (i : Int)⟩ : En)] ++ [(⟨yk, yt, ym⟩ : En)]).length c22) (lo ++ [(⟨ek, et, (i : Int)⟩ : En)] ++ [(⟨yk, yt, ym⟩ : En)]).length (flatR (lo ++ [(⟨ek, et, (i : Int)⟩ : En)] ++ [(⟨yk, yt, ym⟩ : En)])) := by rw [hlo22, flatR_append, flatR_one]; exact HO7.out
              rw [← hlo22]
              skip
              refine wp_worldh (fun wx => wx.ownsRow (w.heap.size + 1) 46 3 (.slice A22 (lo ++ [(⟨ek, et, (i : Int)⟩ : En)] ++ [(⟨yk, yt, ym⟩ : En)]).length c22) (lo ++ [(⟨ek, et, (i : Int)⟩ : En)] ++ [(⟨yk, yt, ym⟩ : En)]).length (flatR (lo ++ [(⟨ek, et, (i : Int)⟩ : En)] ++ [(⟨yk, yt, ym⟩ : En)])) ∧ Blk wx w.heap.size 46 #[.int .i64 (i : Int), .int .i64 ek, .int .u64 et] ∧ Below w.heap.size w wx) ⟨o22, blk_low X21.out (Nat.lt_succ_self _) O21.out HG7.out, (B21.out.alloc B21.out.size _).grown HG7.out (by have := B21.out.size; simp; omega) (fun g' e => by have := own_base O21.out e; omega)⟩ ?_
              clear qx r0 r1 r2 p0 p1 p2 hsz HO7 HG7 O21 X21 B21 o22
              rintro w22 ⟨o, bx, b3⟩
              have O22 := Lib.hid o
              have X22 := Lib.hid bx
              have B22 := Lib.hid b3
              clear o bx b3
              have qx : w22.cell? ⟨x, 0, none⟩ = some (.slice (some ⟨g, 0, none⟩) m c) := (B22.out.cell (p := ⟨x, 0, none⟩) hz).trans (HX2.out.val rfl)
              have r0 : w22.cell? ⟨g, k * 3, none⟩ = some (.int .i64 ym) := (B22.out.cell (p := ⟨g, k * 3, none⟩) hg).trans R0.out
              have r1 : w22.cell? ⟨g, k * 3 + 1, none⟩ = some (.int .i64 yk) := (B22.out.cell (p := ⟨g, k * 3 + 1, none⟩) hg).trans R1.out
              have r2 : w22.cell? ⟨g, k * 3 + 2, none⟩ = some (.int .u64 yt) := (B22.out.cell (p := ⟨g, k * 3 + 2, none⟩) hg).trans R2.out
              have p0 : w22.cell? ⟨w.heap.size, 0, none⟩ = some (.int .i64 (i : Int)) := X22.out.val rfl
              have p1 : w22.cell? ⟨w.heap.size, 1, none⟩ = some (.int .i64 ek) := X22.out.val rfl
              have p2 : w22.cell? ⟨w.heap.size, 2, none⟩ = some (.int .u64 et) := X22.out.val rfl
              have hsz : w.heap.size + 1 ≤ w22.heap.size := X22.out.size
              go_wp2_with fail
              go_roundw
              case rel =>
                refine ⟨k + 1, true, A22, c22, lo ++ [(⟨ek, et, (i : Int)⟩ : En)] ++ [(⟨yk, yt, ym⟩ : En)], by omega, by go_num, rfl, rfl, .inr ⟨rfl, by rw [HTS.out, ins_here (l := L.take k) (fun a ha => by obtain ⟨j, hj, _, rfl⟩ := mem_take_.1 ha; exact HC2.out.2 j hj) hltE, ← HC2.out.1]; simp, k, by omega, by rw [HY.out]; exact hltE⟩, by have h1 := HC2.out.1; simp; rw [h1, List.length_take]; omega, O22.out, X22.out, B22.out⟩
              case measure => simp [intOf]; omega
          · have hA : ∀ w, Calls Try.prog 28 #[.agg #[.int .i64 (i : Int), .int .i64 ek, .int .u64 et], .agg #[.int .i64 ym, .int .i64 yk, .int .u64 yt]] w fun e w' => e = .returned (.bool false) ∧ Below w.heap.size w w' := fun w => (rahead ⟨ek, et, i⟩ ⟨yk, yt, ym⟩ w).mono fun e w' h => ⟨by rcases h.1 with ⟨h, _⟩ | ⟨_, h⟩; exact absurd h hltE; exact h, h.2⟩
            have HA := Lib.hid hA
            clear hA
            go_upto_region 10 with fail
            first | (go_region_held3 (fun w' => w'.cell? ⟨w.heap.size, 0, none⟩ = some (.int .i64 (i : Int)) ∧ w'.cell? ⟨w.heap.size, 1, none⟩ = some (.int .i64 ek) ∧ w'.cell? ⟨w.heap.size, 2, none⟩ = some (.int .u64 et) ∧ w'.cell? ⟨x, 0, none⟩ = some (.slice (some ⟨g, 0, none⟩) m c) ∧ w'.cell? ⟨g, k * 3, none⟩ = some (.int .i64 ym) ∧ w'.cell? ⟨g, k * 3 + 1, none⟩ = some (.int .i64 yk) ∧ w'.cell? ⟨g, k * 3 + 2, none⟩ = some (.int .u64 yt)) ((repeat (first | with_reducible assumption | refine ⟨?_, ?_⟩ | with_reducible refine kdrew ?_ | with_reducible refine later_ hbn ?_))) ((go_at_call 28; refine (HA.out _).mono ?_; rintro e wn ⟨rfl, hbn⟩))) | fail
            all_goals
              have hbn2 : Below wr.heap.size wr wn := by first | exact hbn | exact ((Below.refl _ _).drew).trans hbn
              clear hbn
              go_upto_region 12 with fail
              refine wp_worldh (fun wx => wx.ownsRow (w.heap.size + 1) 46 3 (.slice Ao (lo).length co) (lo).length (flatR (lo)) ∧ Blk wx w.heap.size 46 #[.int .i64 (i : Int), .int .i64 ek, .int .u64 et] ∧ Below w.heap.size w wx) ⟨own_below OO.out hbn2, BX.out.below_ hbn2 BX.out.size, B3.out.trans (hbn2.mono B3.out.size)⟩ ?_
              clear qx r0 r1 r2 p0 p1 p2 OO BX B3 hsz
              rintro w20 ⟨o, bx, b3⟩
              have O20 := Lib.hid o
              have X20 := Lib.hid bx
              have B20 := Lib.hid b3
              clear o bx b3
              have qx : w20.cell? ⟨x, 0, none⟩ = some (.slice (some ⟨g, 0, none⟩) m c) := (B20.out.cell (p := ⟨x, 0, none⟩) hz).trans (HX2.out.val rfl)
              have r0 : w20.cell? ⟨g, k * 3, none⟩ = some (.int .i64 ym) := (B20.out.cell (p := ⟨g, k * 3, none⟩) hg).trans R0.out
              have r1 : w20.cell? ⟨g, k * 3 + 1, none⟩ = some (.int .i64 yk) := (B20.out.cell (p := ⟨g, k * 3 + 1, none⟩) hg).trans R1.out
              have r2 : w20.cell? ⟨g, k * 3 + 2, none⟩ = some (.int .u64 yt) := (B20.out.cell (p := ⟨g, k * 3 + 2, none⟩) hg).trans R2.out
              have p0 : w20.cell? ⟨w.heap.size, 0, none⟩ = some (.int .i64 (i : Int)) := X20.out.val rfl
              have p1 : w20.cell? ⟨w.heap.size, 1, none⟩ = some (.int .i64 ek) := X20.out.val rfl
              have p2 : w20.cell? ⟨w.heap.size, 2, none⟩ = some (.int .u64 et) := X20.out.val rfl
              have hsz : w.heap.size + 1 ≤ w20.heap.size := X20.out.size
              go_upto_region 9 with (at_builtin; refine wpList_append_own _ rfl (.tmp 51) (.tmp 59) 29 rfl (w.heap.size + 1) 46 i0' (.agg #[.int .i64 0, .int .i64 0, .int .u64 0]) 3 24 Try.underlying29 HZ.out.1 HZ.out.2.1 HZ.out.2.2.1 HZ.out.2.2.2 rfl (by decide) (.slice Ao ((lo).length) co) ((lo).length) (flatR (lo)) rfl (O20.out.alloc _) ⟨w20.heap.size, 0, none⟩ 1 1 [.int .i64 ym, .int .i64 yk, .int .u64 yt] rfl rfl (by intro j u hj; match j, hj with | 0, hj => simp at hj; subst hj; exact (Blk.new_ (by simp)).val rfl | 1, hj => simp at hj; subst hj; exact (Blk.new_ (by simp)).val rfl | 2, hj => simp at hj; subst hj; exact (Blk.new_ (by simp)).val rfl) (by intro u hu; simp at hu; rcases hu with rfl | rfl | rfl <;> rfl) (by unfold maxLen; omega) (by omega) (by simp; omega) ?_; intro v7 w7 hown7 hg7 _; have HO7 := Lib.hid hown7; have HG7 := Lib.hid hg7; clear hown7 hg7)
              have hlo22 : (lo ++ [(⟨yk, yt, ym⟩ : En)]).length = (lo).length + 1 := by simp
              obtain ⟨A22, c22, rfl⟩ := own_form HO7.out
              have o22 : w7.ownsRow (w.heap.size + 1) 46 3 (.slice A22 (lo ++ [(⟨yk, yt, ym⟩ : En)]).length c22) (lo ++ [(⟨yk, yt, ym⟩ : En)]).length (flatR (lo ++ [(⟨yk, yt, ym⟩ : En)])) := by rw [hlo22, flatR_append, flatR_one]; exact HO7.out
              rw [← hlo22]
              skip
              refine wp_worldh (fun wx => wx.ownsRow (w.heap.size + 1) 46 3 (.slice A22 (lo ++ [(⟨yk, yt, ym⟩ : En)]).length c22) (lo ++ [(⟨yk, yt, ym⟩ : En)]).length (flatR (lo ++ [(⟨yk, yt, ym⟩ : En)])) ∧ Blk wx w.heap.size 46 #[.int .i64 (i : Int), .int .i64 ek, .int .u64 et] ∧ Below w.heap.size w wx) ⟨o22, blk_low X20.out (Nat.lt_succ_self _) O20.out HG7.out, (B20.out.alloc B20.out.size _).grown HG7.out (by have := B20.out.size; simp; omega) (fun g' e => by have := own_base O20.out e; omega)⟩ ?_
              clear qx r0 r1 r2 p0 p1 p2 hsz HO7 HG7 O20 X20 B20 o22
              rintro w22 ⟨o, bx, b3⟩
              have O22 := Lib.hid o
              have X22 := Lib.hid bx
              have B22 := Lib.hid b3
              clear o bx b3
              have qx : w22.cell? ⟨x, 0, none⟩ = some (.slice (some ⟨g, 0, none⟩) m c) := (B22.out.cell (p := ⟨x, 0, none⟩) hz).trans (HX2.out.val rfl)
              have r0 : w22.cell? ⟨g, k * 3, none⟩ = some (.int .i64 ym) := (B22.out.cell (p := ⟨g, k * 3, none⟩) hg).trans R0.out
              have r1 : w22.cell? ⟨g, k * 3 + 1, none⟩ = some (.int .i64 yk) := (B22.out.cell (p := ⟨g, k * 3 + 1, none⟩) hg).trans R1.out
              have r2 : w22.cell? ⟨g, k * 3 + 2, none⟩ = some (.int .u64 yt) := (B22.out.cell (p := ⟨g, k * 3 + 2, none⟩) hg).trans R2.out
              have p0 : w22.cell? ⟨w.heap.size, 0, none⟩ = some (.int .i64 (i : Int)) := X22.out.val rfl
              have p1 : w22.cell? ⟨w.heap.size, 1, none⟩ = some (.int .i64 ek) := X22.out.val rfl
              have p2 : w22.cell? ⟨w.heap.size, 2, none⟩ = some (.int .u64 et) := X22.out.val rfl
              have hsz : w.heap.size + 1 ≤ w22.heap.size := X22.out.size
              go_wp2_with fail
              go_roundw
              case rel =>
                refine ⟨k + 1, false, A22, c22, lo ++ [(⟨yk, yt, ym⟩ : En)], by omega, by go_num, rfl, rfl, .inl ⟨rfl, by rw [HTS.out, HC2.out.1], fun j hj => by by_cases hjk : j = k; (subst hjk; rw [HY.out]; exact hltE); exact HC2.out.2 j (by omega)⟩, by have h1 := HC2.out.1; simp; rw [h1, List.length_take]; omega, O22.out, X22.out, B22.out⟩
              case measure => simp [intOf]; omega
        | true =>
          have hcase : lo = insE ⟨ek, et, i⟩ (L.take k) ∧ ∃ j, j < k ∧ ltE ⟨ek, et, i⟩ L[j]! := by rcases HC.out with ⟨h, _⟩ | ⟨_, h⟩; cases h; exact h
          have HC2 := Lib.hid hcase
          clear HC hcase
          go_upto_region 10 with fail
          go_quiet (fail)
          go_upto_region 12 with fail
          refine wp_worldh (fun wx => wx.ownsRow (w.heap.size + 1) 46 3 (.slice Ao (lo).length co) (lo).length (flatR (lo)) ∧ Blk wx w.heap.size 46 #[.int .i64 (i : Int), .int .i64 ek, .int .u64 et] ∧ Below w.heap.size w wx) ⟨own_drewN OO.out _, BX.out, below_drewN_ B3.out _⟩ ?_
          clear qx r0 r1 r2 p0 p1 p2 OO BX B3 hsz
          rintro w20 ⟨o, bx, b3⟩
          have O20 := Lib.hid o
          have X20 := Lib.hid bx
          have B20 := Lib.hid b3
          clear o bx b3
          have qx : w20.cell? ⟨x, 0, none⟩ = some (.slice (some ⟨g, 0, none⟩) m c) := (B20.out.cell (p := ⟨x, 0, none⟩) hz).trans (HX2.out.val rfl)
          have r0 : w20.cell? ⟨g, k * 3, none⟩ = some (.int .i64 ym) := (B20.out.cell (p := ⟨g, k * 3, none⟩) hg).trans R0.out
          have r1 : w20.cell? ⟨g, k * 3 + 1, none⟩ = some (.int .i64 yk) := (B20.out.cell (p := ⟨g, k * 3 + 1, none⟩) hg).trans R1.out
          have r2 : w20.cell? ⟨g, k * 3 + 2, none⟩ = some (.int .u64 yt) := (B20.out.cell (p := ⟨g, k * 3 + 2, none⟩) hg).trans R2.out
          have p0 : w20.cell? ⟨w.heap.size, 0, none⟩ = some (.int .i64 (i : Int)) := X20.out.val rfl
          have p1 : w20.cell? ⟨w.heap.size, 1, none⟩ = some (.int .i64 ek) := X20.out.val rfl
          have p2 : w20.cell? ⟨w.heap.size, 2, none⟩ = some (.int .u64 et) := X20.out.val rfl
          have hsz : w.heap.size + 1 ≤ w20.heap.size := X20.out.size
          go_upto_region 9 with (at_builtin; refine wpList_append_own _ rfl (.tmp 51) (.tmp 59) 29 rfl (w.heap.size + 1) 46 i0' (.agg #[.int .i64 0, .int .i64 0, .int .u64 0]) 3 24 Try.underlying29 HZ.out.1 HZ.out.2.1 HZ.out.2.2.1 HZ.out.2.2.2 rfl (by decide) (.slice Ao ((lo).length) co) ((lo).length) (flatR (lo)) rfl (O20.out.alloc _) ⟨w20.heap.size, 0, none⟩ 1 1 [.int .i64 ym, .int .i64 yk, .int .u64 yt] rfl rfl (by intro j u hj; match j, hj with | 0, hj => simp at hj; subst hj; exact (Blk.new_ (by simp)).val rfl | 1, hj => simp at hj; subst hj; exact (Blk.new_ (by simp)).val rfl | 2, hj => simp at hj; subst hj; exact (Blk.new_ (by simp)).val rfl) (by intro u hu; simp at hu; rcases hu with rfl | rfl | rfl <;> rfl) (by unfold maxLen; omega) (by omega) (by simp; omega) ?_; intro v7 w7 hown7 hg7 _; have HO7 := Lib.hid hown7; have HG7 := Lib.hid hg7; clear hown7 hg7)
          have hlo22 : (lo ++ [(⟨yk, yt, ym⟩ : En)]).length = (lo).length + 1 := by simp
          obtain ⟨A22, c22, rfl⟩ := own_form HO7.out
          have o22 : w7.ownsRow (w.heap.size + 1) 46 3 (.slice A22 (lo ++ [(⟨yk, yt, ym⟩ : En)]).length c22) (lo ++ [(⟨yk, yt, ym⟩ : En)]).length (flatR (lo ++ [(⟨yk, yt, ym⟩ : En)])) := by rw [hlo22, flatR_append, flatR_one]; exact HO7.out
          rw [← hlo22]
          skip
          refine wp_worldh (fun wx => wx.ownsRow (w.heap.size + 1) 46 3 (.slice A22 (lo ++ [(⟨yk, yt, ym⟩ : En)]).length c22) (lo ++ [(⟨yk, yt, ym⟩ : En)]).length (flatR (lo ++ [(⟨yk, yt, ym⟩ : En)])) ∧ Blk wx w.heap.size 46 #[.int .i64 (i : Int), .int .i64 ek, .int .u64 et] ∧ Below w.heap.size w wx) ⟨o22, blk_low X20.out (Nat.lt_succ_self _) O20.out HG7.out, (B20.out.alloc B20.out.size _).grown HG7.out (by have := B20.out.size; simp; omega) (fun g' e => by have := own_base O20.out e; omega)⟩ ?_
          clear qx r0 r1 r2 p0 p1 p2 hsz HO7 HG7 O20 X20 B20 o22
          rintro w22 ⟨o, bx, b3⟩
          have O22 := Lib.hid o
          have X22 := Lib.hid bx
          have B22 := Lib.hid b3
          clear o bx b3
          have qx : w22.cell? ⟨x, 0, none⟩ = some (.slice (some ⟨g, 0, none⟩) m c) := (B22.out.cell (p := ⟨x, 0, none⟩) hz).trans (HX2.out.val rfl)
          have r0 : w22.cell? ⟨g, k * 3, none⟩ = some (.int .i64 ym) := (B22.out.cell (p := ⟨g, k * 3, none⟩) hg).trans R0.out
          have r1 : w22.cell? ⟨g, k * 3 + 1, none⟩ = some (.int .i64 yk) := (B22.out.cell (p := ⟨g, k * 3 + 1, none⟩) hg).trans R1.out
          have r2 : w22.cell? ⟨g, k * 3 + 2, none⟩ = some (.int .u64 yt) := (B22.out.cell (p := ⟨g, k * 3 + 2, none⟩) hg).trans R2.out
          have p0 : w22.cell? ⟨w.heap.size, 0, none⟩ = some (.int .i64 (i : Int)) := X22.out.val rfl
          have p1 : w22.cell? ⟨w.heap.size, 1, none⟩ = some (.int .i64 ek) := X22.out.val rfl
          have p2 : w22.cell? ⟨w.heap.size, 2, none⟩ = some (.int .u64 et) := X22.out.val rfl
          have hsz : w.heap.size + 1 ≤ w22.heap.size := X22.out.size
          go_wp2_with fail
          go_roundw
          case rel =>
            refine ⟨k + 1, true, A22, c22, lo ++ [(⟨yk, yt, ym⟩ : En)], by omega, by go_num, rfl, rfl, .inr ⟨rfl, by obtain ⟨h1, j, hj, hjl⟩ := HC2.out; rw [HTS.out, h1]; exact (ins_past ⟨L[j]!, mem_take_.2 ⟨j, hj, by omega, rfl⟩, hjl⟩).symm, by obtain ⟨_, j, hj, hjl⟩ := HC2.out; exact ⟨j, by omega, hjl⟩⟩, by simp; omega, O22.out, X22.out, B22.out⟩
          case measure => simp [intOf]; omega
      · obtain rfl : k = m := by omega
        have htk : L.take k = L := List.take_of_length_le (by rw [HM.out]; exact Nat.le_refl _)
        have HTK := Lib.hid htk
        clear htk
        cases pl with
        | false =>
          have hcase : lo = L.take k ∧ ∀ j, j < k → ¬ ltE ⟨ek, et, i⟩ L[j]! := by rcases HC.out with ⟨_, h⟩ | ⟨h, _⟩; exact h; cases h
          have HC2 := Lib.hid hcase
          clear HC hcase
          have p0 : wr.cell? ⟨w.heap.size, 0, none⟩ = some (.int .i64 (i : Int)) := BX.out.val rfl
          have p1 : wr.cell? ⟨w.heap.size, 1, none⟩ = some (.int .i64 ek) := BX.out.val rfl
          have p2 : wr.cell? ⟨w.heap.size, 2, none⟩ = some (.int .u64 et) := BX.out.val rfl
          go_upto_region 15 with (at_builtin; refine wpList_append_own _ rfl (.tmp 63) (.tmp 65) 29 rfl (w.heap.size + 1) 46 i0' (.agg #[.int .i64 0, .int .i64 0, .int .u64 0]) 3 24 Try.underlying29 HZ.out.1 HZ.out.2.1 HZ.out.2.2.1 HZ.out.2.2.2 rfl (by decide) (.slice Ao ((lo).length) co) ((lo).length) (flatR (lo)) rfl (OO.out.alloc _) ⟨wr.heap.size, 0, none⟩ 1 1 [.int .i64 (i : Int), .int .i64 ek, .int .u64 et] rfl rfl (by intro j u hj; match j, hj with | 0, hj => simp at hj; subst hj; exact (Blk.new_ (by simp)).val rfl | 1, hj => simp at hj; subst hj; exact (Blk.new_ (by simp)).val rfl | 2, hj => simp at hj; subst hj; exact (Blk.new_ (by simp)).val rfl) (by intro u hu; simp at hu; rcases hu with rfl | rfl | rfl <;> rfl) (by unfold maxLen; omega) (by omega) (by simp; omega) ?_; intro v7 w7 hown7 hg7 _; have HO7 := Lib.hid hown7; have HG7 := Lib.hid hg7; clear hown7 hg7)
          have hlo22 : (lo ++ [(⟨ek, et, (i : Int)⟩ : En)]).length = (lo).length + 1 := by simp
          obtain ⟨A22, c22, rfl⟩ := own_form HO7.out
          have o22 : w7.ownsRow (w.heap.size + 1) 46 3 (.slice A22 (lo ++ [(⟨ek, et, (i : Int)⟩ : En)]).length c22) (lo ++ [(⟨ek, et, (i : Int)⟩ : En)]).length (flatR (lo ++ [(⟨ek, et, (i : Int)⟩ : En)])) := by rw [hlo22, flatR_append, flatR_one]; exact HO7.out
          rw [← hlo22]
          skip
          refine wp_worldh (fun wx => wx.ownsRow (w.heap.size + 1) 46 3 (.slice A22 (lo ++ [(⟨ek, et, (i : Int)⟩ : En)]).length c22) (lo ++ [(⟨ek, et, (i : Int)⟩ : En)]).length (flatR (lo ++ [(⟨ek, et, (i : Int)⟩ : En)])) ∧ Blk wx w.heap.size 46 #[.int .i64 (i : Int), .int .i64 ek, .int .u64 et] ∧ Below w.heap.size w wx) ⟨o22, blk_low BX.out (Nat.lt_succ_self _) OO.out HG7.out, (B3.out.alloc B3.out.size _).grown HG7.out (by have := B3.out.size; simp; omega) (fun g' e => by have := own_base OO.out e; omega)⟩ ?_
          clear qx p0 p1 p2 hsz HO7 HG7 OO BX B3 o22
          rintro w22 ⟨o, bx, b3⟩
          have O22 := Lib.hid o
          have X22 := Lib.hid bx
          have B22 := Lib.hid b3
          clear o bx b3
          have qx : w22.cell? ⟨x, 0, none⟩ = some (.slice A k c) := (B22.out.cell (p := ⟨x, 0, none⟩) hz).trans (HX2.out.val rfl)
          have p0 : w22.cell? ⟨w.heap.size, 0, none⟩ = some (.int .i64 (i : Int)) := X22.out.val rfl
          have p1 : w22.cell? ⟨w.heap.size, 1, none⟩ = some (.int .i64 ek) := X22.out.val rfl
          have p2 : w22.cell? ⟨w.heap.size, 2, none⟩ = some (.int .u64 et) := X22.out.val rfl
          have hsz : w.heap.size + 1 ≤ w22.heap.size := X22.out.size
          have zx : w22.frozen? ⟨x, 0, none⟩ = false := (HX2.out.below_ B22.out hz).free 0
          go_wp2_with fail
          go_ret
          have hln : (lo ++ [(⟨ek, et, (i : Int)⟩ : En)]).length = lo.length + 1 := by simp
          have hoo := O22.out
          rw [hln] at hoo
          refine ⟨rfl, ⟨(.slice A22 (lo.length + 1) c22), ?_, ?_⟩, (show Kept (fun g => g = x) w (w22.setCell ⟨x, 0, none⟩ (.slice A22 (lo.length + 1) c22)) from (Kept.of_below (own := fun g => g = x) B22.out).set_ (p := ⟨x, 0, none⟩) (.inl rfl) _)⟩
          · have := (HX2.out.below_ B22.out hz).set_ 0 (.slice A22 (lo.length + 1) c22)
            simpa using this
          · have hq : lo ++ [(⟨ek, et, (i : Int)⟩ : En)] = insE ⟨ek, et, (i : Int)⟩ L := by rw [ins_end (fun a ha => by obtain ⟨j, hj, hjl, rfl⟩ := mem_take_.1 (by rw [HTK.out]; exact ha); exact HC2.out.2 j hj), HC2.out.1, HTK.out]
            rw [← hq, hln]
            exact own_kept (own := fun g => g = x) (own_le hoo (by omega)) (show Kept (fun g => g = x) w22 (w22.setCell ⟨x, 0, none⟩ (.slice A22 (lo.length + 1) c22)) from (Kept.refl (fun g => g = x) w22).set_ (p := ⟨x, 0, none⟩) (.inl rfl) _) (fun g cs hg e => Blk.other hg (HX2.out.below_ B22.out hz) (by decide) e)
        | true =>
          have hcase : lo = insE ⟨ek, et, i⟩ (L.take k) ∧ ∃ j, j < k ∧ ltE ⟨ek, et, i⟩ L[j]! := by rcases HC.out with ⟨h, _⟩ | ⟨_, h⟩; cases h; exact h
          have HC2 := Lib.hid hcase
          clear HC hcase
          have zx : wr.frozen? ⟨x, 0, none⟩ = false := (HX2.out.below_ B3.out hz).free 0
          go_wp2_with fail
          go_ret
          have hln : (lo).length = lo.length := by simp
          have hoo := OO.out
          rw [hln] at hoo
          refine ⟨rfl, ⟨(.slice Ao (lo.length) co), ?_, ?_⟩, (show Kept (fun g => g = x) w (wr.setCell ⟨x, 0, none⟩ (.slice Ao (lo.length) co)) from (Kept.of_below (own := fun g => g = x) B3.out).set_ (p := ⟨x, 0, none⟩) (.inl rfl) _)⟩
          · have := (HX2.out.below_ B3.out hz).set_ 0 (.slice Ao (lo.length) co)
            simpa using this
          · have hq : lo = insE ⟨ek, et, (i : Int)⟩ L := by rw [HC2.out.1, HTK.out]
            rw [← hq, hln]
            exact own_kept (own := fun g => g = x) (own_le hoo (by omega)) (show Kept (fun g => g = x) wr (wr.setCell ⟨x, 0, none⟩ (.slice Ao (lo.length) co)) from (Kept.refl (fun g => g = x) wr).set_ (p := ⟨x, 0, none⟩) (.inl rfl) _) (fun g cs hg e => Blk.other hg (HX2.out.below_ B3.out hz) (by decide) e)
  · exact absurd hkm ((hasE_no.1 hh) _ (by rw [getElem!_pos L k hk]; exact List.getElem_mem hk))
end
end Go.Proofs.Ytkcfmicpljlffaa
