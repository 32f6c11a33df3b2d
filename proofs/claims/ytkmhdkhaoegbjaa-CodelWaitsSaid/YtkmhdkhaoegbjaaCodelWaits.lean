/- CodelWaits is true of every state, all params, every time and every list of those who are looked at, and changes nothing that it was given. -/
import Derived.Test.YtkmhdkhaoegbjaaCodw
import Derived.Test.YtkmhdkhaoegbjaaOst
import Derived.Test.YtkmhdkhaoegbjaaRefd
import Derived.Test.YtkmhdkhaoegbjaaRefg
import Derived.Test.YtkmhdkhaoegbjaaRowb
import Derived.Test.YtkmhdkhaoegbjaaRows
import Derived.WalkKit
import Derived.ProofKit
import Derived.OpenShut
import Derived.Deep.DeepCutAuto
import Derived.Deep.CutBlock
namespace Go.Proofs.Ytkmhdkhaoegbjaa.codelWaits
open Go.ChangeShapes Go.WideShapes Go.ChangeAt Go.RowKit Kn
set_option linter.unusedVariables false
theorem own : ownKnob Try.prog.godebug = none := by kernel_rfl
theorem laidOut : laidOutB Try.prog = true := by kernel_rfl
theorem reads : (Try.f5.params.toList.all fun t => Try.prog.readableRec t && decide (t < Try.prog.types.size)) = true := by kernel_rfl
/-- A law's boxes, and one that is looked at. -/
structure Lq (v w : World) (g : Nat) (s : Cst) (t i x j b : Int) : Prop where
  l : Ly v w s t i
  c : Blk w g 41 #[.int .i64 x, .int .i64 j, .int .i64 b]
  hg : v.heap.size + 1 < g
section
variable {v w w' : World} {s : Cst} {t i x j b : Int} {g : Nat}
theorem Lq.made (h : Ly v w s t i) (x j b : Int) : Lq v (w.alloc (.cells #[.int .i64 x, .int .i64 j, .int .i64 b] 41)) w.heap.size s t i x j b := ⟨h.alloc _, Blk.made w _ _, h.lt⟩
theorem Lq.below (h : Lq v w g s t i x j b) (hb : Below w.heap.size w w') : Lq v w' g s t i x j b := ⟨h.l.below hb, h.c.below_ hb h.c.size, h.hg⟩
theorem Lq.setB (h : Lq v w g s t i x j b) (b' : Int) : Lq v (w.setCell ⟨g, 2, none⟩ (.int .i64 b')) g s t i x j b' :=
  ⟨⟨Blk.far h.l.a _ (by have := h.hg; simp; omega), h.l.b.far _ (by have := h.hg; simp; omega), h.l.be.setCell (by have := h.hg; simp; omega) _⟩, h.c.set_ 2 _, h.hg⟩
theorem Lq.cfacts (h : Lq v w g s t i x j b) : (w.cell? ⟨g, 0, none⟩ = some (.int .i64 x) ∧ w.cell? ⟨g, 1, none⟩ = some (.int .i64 j) ∧ w.cell? ⟨g, 2, none⟩ = some (.int .i64 b)) ∧ (∀ k, w.frozen? ⟨g, k, none⟩ = false) ∧ g < w.heap.size :=
  ⟨⟨h.c.val (i := 0) rfl, h.c.val (i := 1) rfl, h.c.val (i := 2) rfl⟩, h.c.free, h.c.size⟩
end
theorem look_low (s : Cst) (i now : Int) : lookC s i now false = (⟨false, 0, false, s.ne, s.co, s.la⟩, 0) := by
  have hm : mayC s now false = false := by unfold mayC; simp
  unfold lookC consC
  rw [hm]
  simp [noteC]
theorem look_ab (s : Cst) (i now : Int) (hb : Bool) : (lookC s i now hb).1.ab = hb ∧ (lookC s i now hb).1.fi = (noteC s i now hb).fi := by
  have h1 : (consC s i now hb).ab = hb := by unfold consC noteC; cases hb; rfl; cases h : s.ab <;> simp [h]
  have h2 : (consC s i now hb).fi = (noteC s i now hb).fi := rfl
  unfold lookC
  cases mayC s now hb
  · exact ⟨h1, h2⟩
  · cases s.dr
    · exact ⟨h1, h2⟩
    · show (timeC (consC s i now hb) now).1.ab = hb ∧ (timeC (consC s i now hb) now).1.fi = _
      unfold timeC
      split
      · exact ⟨h1, h2⟩
      · exact ⟨h1, h2⟩
theorem look_may (s : Cst) (i now : Int) (hb : Bool) (h : ¬ (lookC s i now hb).2 = 0) : s.ab = true ∧ hb = true ∧ s.fi ≤ now := by
  have hm : mayC s now hb = true := by
    cases hm : mayC s now hb
    · exact absurd (by unfold lookC; rw [hm]; rfl) h
    · rfl
  unfold mayC at hm
  simp at hm
  exact ⟨hm.1.1, hm.2, hm.1.2⟩
theorem cempty_lit (aa : Bool) (af : Int) (ad : Bool) (an ac al : Int) (w : World) :
    Calls Try.prog 16 #[.agg #[.bool aa, .int .i64 af, .bool ad, .int .i64 an, .int .u64 ac, .int .u64 al]] w fun e w' => e = .returned (.agg #[.bool false, .int .i64 0, .bool false, .int .i64 an, .int .u64 ac, .int .u64 al]) ∧ Below w.heap.size w w' := cempty_any ⟨aa, af, ad, an, ac, al⟩ w
set_option linter.unusedSimpArgs false
set_option maxRecDepth 100000 in
set_option maxHeartbeats 4000000 in
theorem walk (ab : Bool) (fi : Int) (dr : Bool) (ne co la t i now : Int) (A : Option Addr) (len cap : Nat) (Q : Nat → Sn) (w : World) (hl : len ≤ cap) (hc : cap ≤ maxLen) (hQ : SeqAt w w.heap.size A len 3 (fun i => snRow (Q i))) (hok : ∀ i, i < len → (Q i).ok) (f0 : -9223372036854775808 ≤ fi) (f1 : fi ≤ 9223372036854775807) (ne0 : -9223372036854775808 ≤ ne) (ne1 : ne ≤ 9223372036854775807) (co0 : 0 ≤ co) (co1 : co ≤ 18446744073709551615) (la0 : 0 ≤ la) (la1 : la ≤ 18446744073709551615) (t0 : -9223372036854775808 ≤ t) (t1 : t ≤ 9223372036854775807) (i0 : -9223372036854775808 ≤ i) (i1 : i ≤ 9223372036854775807) (now0 : -9223372036854775808 ≤ now) (now1 : now ≤ 9223372036854775807) :
    Calls Try.prog 5 #[.agg #[.bool ab, .int .i64 fi, .bool dr, .int .i64 ne, .int .u64 co, .int .u64 la], .agg #[.int .i64 t, .int .i64 i], .int .i64 now, .slice A len cap] w fun e w' => e = .returned (.bool true) ∧ Below w.heap.size w w' := by
  unfold maxLen at hc
  have so : (⟨ab, fi, dr, ne, co, la⟩ : Cst).ok := ⟨by omega, by omega, by omega, by omega, by omega, by omega, by omega, by omega⟩
  have HQ := Lib.hid hQ
  have HOK := Lib.hid hok
  have SO := Lib.hid so
  clear hQ hok so
  go_enter Try.func5, Try.ntmps5
  go_upto_region 1 with fail
  refine wp_worldc (fun wx => Ly w wx ⟨ab, fi, dr, ne, co, la⟩ t i) (Ly.made w _ _ _ _ _ _ _ _) ?_
  rintro w0 ly
  go_wp2_with fail
  refine (awake8 _).mono ?_
  rintro e w1 ⟨rfl, hb1⟩
  replace ly := ly.below hb1
  clear hb1
  obtain ⟨⟨p0, p1, p2, p3, p4, p5⟩, p6, z1, z2⟩ := ly.sfacts
  go_wp2_with fail
  refine (cempty_lit _ _ _ _ _ _ _).mono ?_
  rintro e w2 ⟨rfl, hb1⟩
  replace ly := ly.below hb1
  clear hb1 p0 p1 p2 p3 p4 p5 p6 z1 z2
  obtain ⟨⟨p0, p1, p2, p3, p4, p5⟩, p6, z1, z2⟩ := ly.sfacts
  go_upto_region 4 with fail
  refine wp_worldc (fun wx => Ly w wx ⟨false, 0, false, ne, co, la⟩ t i) (ly.store _ _ _ _ _ _) ?_
  clear ly p0 p1 p2 p3 p4 p5 p6 z1 z2
  rintro w3 ly
  have so2 : (⟨false, 0, false, ne, co, la⟩ : Cst).ok := ⟨by show (-9223372036854775808 : Int) ≤ 0; decide, by show (0 : Int) ≤ 9223372036854775807; decide, SO.out.n0, SO.out.n1, SO.out.c0, SO.out.c1, SO.out.l0, SO.out.l1⟩
  clear SO
  have SO := Lib.hid so2
  clear so2
  go_wp2_with fail
  go_loopw [2, 9, 10, 21] (fun s2 s9 s10 s21 wr => ∃ (k : Nat) (now si : Int) (hi : Bool) (fi : Int) (dr : Bool) (ne co la : Int), k ≤ len ∧ s21 = .int .i64 k ∧ s2 = .int .i64 now ∧ s9 = .int .i64 si ∧ s10 = .bool hi ∧ (-9223372036854775808 ≤ now ∧ now ≤ 9223372036854775807) ∧ (-9223372036854775808 ≤ si ∧ si ≤ 9223372036854775807) ∧ (hi = true → fi = sat (si + i)) ∧ (⟨hi, fi, dr, ne, co, la⟩ : Cst).ok ∧ Ly w wr ⟨hi, fi, dr, ne, co, la⟩ t i) (fun _ _ _ i _ => len - (intOf i).toNat)
  case atStart => exact ⟨0, now, 0, false, 0, false, ne, co, la, Nat.zero_le _, rfl, rfl, rfl, rfl, ⟨now0, now1⟩, ⟨by omega, by omega⟩, (by intro h; cases h), SO.out, ly⟩
  case round =>
    clear ly SO f0 f1 ne0 ne1 co0 co1 la0 la1 now0 now1
    obtain ⟨k, now, si, hi, fi, dr, ne, co, la, hk, rfl, rfl, rfl, rfl, ⟨now0, now1⟩, ⟨si0, si1⟩, hfi, so, ly⟩ := hrel
    have SO := Lib.hid so
    have HF := Lib.hid hfi
    clear so hfi
    by_cases hlt : k < len
    · obtain ⟨kb, ko, rfl, hkb, hkc⟩ := HQ.out (by omega)
      have hq : ∀ j, j < 3 → wr.cell? ⟨kb, ko + k * 3 + j, none⟩ = (snRow (Q k))[j]? := fun j hj => (ly.be.cell hkb).trans (hkc k hlt j hj)
      have hqk := HOK.out k hlt
      obtain ⟨⟨x, j, b⟩, hqe⟩ : ∃ q, Q k = q := ⟨_, rfl⟩
      rw [hqe] at hq hqk
      obtain ⟨⟨x0, x1⟩, ⟨j0, j1⟩, ⟨b0, b1⟩⟩ : (-9223372036854775808 ≤ x ∧ x ≤ 9223372036854775807) ∧ (-9223372036854775808 ≤ j ∧ j ≤ 9223372036854775807) ∧ (-9223372036854775808 ≤ b ∧ b ≤ 9223372036854775807) := hqk
      have q0 : wr.cell? ⟨kb, ko + k * 3, none⟩ = some (.int .i64 x) := hq 0 (by omega)
      have q1 : wr.cell? ⟨kb, ko + k * 3 + 1, none⟩ = some (.int .i64 j) := hq 1 (by omega)
      have q2 : wr.cell? ⟨kb, ko + k * 3 + 2, none⟩ = some (.int .i64 b) := hq 2 (by omega)
      have hkr : kb < wr.heap.size := by have := ly.be.size; omega
      clear hq hkc hqe
      by_cases h40 : k < 40
      · go_upto_region 9 with fail
        refine wp_worldc (fun wx => Lq w wx wr.heap.size ⟨hi, fi, dr, ne, co, la⟩ t i x j b) (Lq.made ly x j b) ?_
        clear ly q0 q1 q2 hkr
        rintro w4 lq
        obtain ⟨X, hX⟩ : ∃ X, max x 0 = X := ⟨_, rfl⟩
        have X0 : -9223372036854775808 ≤ X := by omega
        have X1 : X ≤ 9223372036854775807 := by omega
        obtain ⟨c, hc⟩ : ∃ c, highB t j b = c := ⟨_, rfl⟩
        have HC := Lib.hid hc
        clear hc
        obtain ⟨⟨p0, p1, p2, p3, p4, p5⟩, p6, z1, z2⟩ := lq.l.sfacts
        obtain ⟨⟨m0, m1⟩, m2⟩ := lq.l.pfacts
        obtain ⟨⟨c0, c1, c2⟩, c6, z3⟩ := lq.cfacts
        go_wp2_with fail
        refine (radd02_any _ _ _ now0 now1 X0 X1).mono ?_
        rintro e w5 ⟨rfl, hb4⟩
        replace lq := lq.below hb4
        clear hb4
        clear p0 p1 p2 p3 p4 p5 p6 z1 z2 m0 m1 m2 c0 c1 c2 c6 z3
        obtain ⟨⟨p0, p1, p2, p3, p4, p5⟩, p6, z1, z2⟩ := lq.l.sfacts
        obtain ⟨⟨m0, m1⟩, m2⟩ := lq.l.pfacts
        obtain ⟨⟨c0, c1, c2⟩, c6, z3⟩ := lq.cfacts
        have s0 := sat_lo (now + X)
        have s1 := sat_up (now + X)
        obtain ⟨N, hN⟩ : ∃ N, sat (now + X) = N := ⟨_, rfl⟩
        rw [hN] at s0 s1
        go_upto_region 10 with fail
        go_cut [13] from 33 to 79 (fun s13 wx => s13 = .bool c ∧ Lq w wx wr.heap.size ⟨hi, fi, dr, ne, co, la⟩ t i x j b)
        case first =>
          have hc := HC.out
          unfold highB at hc
          by_cases h1 : t ≤ j
          · by_cases h2 : 1 < b
            · have e : c = true := by rw [← hc]; simp [h1, h2]
              subst e
              go_wp2_with fail
              go_meet
              exact ⟨rfl, lq⟩
            · have e : c = false := by rw [← hc]; simp [h1, h2]
              subst e
              go_wp2_with fail
              go_meet
              exact ⟨rfl, lq⟩
          · have e : c = false := by rw [← hc]; simp [h1]
            subst e
            go_wp2_with fail
            go_meet
            exact ⟨rfl, lq⟩
        case rest =>
          clear p0 p1 p2 p3 p4 p5 p6 z1 z2 m0 m1 m2 c0 c1 c2 c6 z3
          clear lq
          obtain ⟨rfl, lq⟩ := hcut
          obtain ⟨d, hd⟩ : ∃ d, (c && !hi) = d := ⟨_, rfl⟩
          have HD := Lib.hid hd
          clear hd
          go_upto_region 11 with fail
          go_cut [47] from 43 to 79 (fun s47 wx => s47 = .bool d ∧ Lq w wx wr.heap.size ⟨hi, fi, dr, ne, co, la⟩ t i x j b)
          case first =>
            have hd := HD.out
            cases c
            · have e : d = false := by rw [← hd]; rfl
              subst e
              go_wp2_with fail
              go_meet
              exact ⟨rfl, lq⟩
            · cases hi
              · have e : d = true := by rw [← hd]; rfl
                subst e
                go_wp2_with fail
                go_meet
                exact ⟨rfl, lq⟩
              · have e : d = false := by rw [← hd]; rfl
                subst e
                go_wp2_with fail
                go_meet
                exact ⟨rfl, lq⟩
          case rest =>
            clear lq
            obtain ⟨rfl, lq⟩ := hcut
            obtain ⟨S, hS⟩ : ∃ S, (bif d then N else si) = S := ⟨_, rfl⟩
            have HS := Lib.hid hS
            clear hS
            go_upto_if 47 with fail
            go_cut [9] from 48 to 79 (fun s9 wx => s9 = .int .i64 S ∧ Lq w wx wr.heap.size ⟨hi, fi, dr, ne, co, la⟩ t i x j b)
            case first =>
              have hS := HS.out
              cases d
              · have e : S = si := hS.symm
                clear HS hS
                subst e
                go_wp2_with fail
                go_meet
                exact ⟨rfl, lq⟩
              · have e : S = N := hS.symm
                clear HS hS
                subst e
                go_wp2_with fail
                go_meet
                exact ⟨rfl, lq⟩
            case rest =>
              clear lq
              obtain ⟨rfl, lq⟩ := hcut
              obtain ⟨⟨p0, p1, p2, p3, p4, p5⟩, p6, z1, z2⟩ := lq.l.sfacts
              obtain ⟨⟨m0, m1⟩, m2⟩ := lq.l.pfacts
              obtain ⟨⟨c0, c1, c2⟩, c6, z3⟩ := lq.cfacts
              obtain ⟨⟨⟨aa, af, ad, an, ac, al⟩, v⟩, hl⟩ : ∃ z, lookC ⟨hi, fi, dr, ne, co, la⟩ i N c = z := ⟨_, rfl⟩
              have ao : (⟨aa, af, ad, an, ac, al⟩ : Cst).ok := by have := look_ok SO.out i N c; rw [hl] at this; exact this
              have hab := look_ab ⟨hi, fi, dr, ne, co, la⟩ i N c
              have hmay := look_may ⟨hi, fi, dr, ne, co, la⟩ i N c
              rw [hl] at hab hmay
              have haa : aa = c := hab.1
              subst haa
              have haf : aa = true → af = sat (S + i) := by
                intro h
                have h2 : af = (noteC ⟨hi, fi, dr, ne, co, la⟩ i N aa).fi := hab.2
                have hS := HS.out
                have hd := HD.out
                rw [h] at h2 hd
                rw [h2]
                cases hi
                · have e : d = true := by rw [← hd]; rfl
                  rw [e] at hS
                  rw [← hS]
                  rfl
                · have e : d = false := by rw [← hd]; rfl
                  rw [e] at hS
                  rw [← hS]
                  exact HF.out rfl
              have hv : ¬ v = 0 → hi = true ∧ aa = true ∧ sat (S + i) ≤ N := by
                intro h
                obtain ⟨h1, h2, h3⟩ := hmay h
                have h1 : hi = true := h1
                have h3 : fi ≤ N := h3
                have hS := HS.out
                have hd := HD.out
                rw [h1] at hd
                have e : d = false := by rw [← hd]; simp
                rw [e] at hS
                have h4 : si = S := hS
                rw [HF.out h1, h4] at h3
                exact ⟨h1, h2, h3⟩
              have S0 : -9223372036854775808 ≤ S ∧ S ≤ 9223372036854775807 := by
                have hS := HS.out
                rw [← hS]
                cases d
                · exact ⟨si0, si1⟩
                · exact ⟨s0, s1⟩
              have HV := Lib.hid hv
              have HA := Lib.hid haf
              have HL := Lib.hid hl
              clear hv haf hl hab hmay
              go_wp2_with fail
              refine (clook_any ⟨hi, fi, dr, ne, co, la⟩ _ _ _ _ _ aa HC.out _ s0 s1 i0 i1 SO.out).mono ?_
              rw [HL.out]
              rintro e w6 ⟨rfl, hb5⟩
              replace lq := lq.below hb5
              clear hb5
              clear p0 p1 p2 p3 p4 p5 p6 z1 z2 m0 m1 m2 c0 c1 c2 c6 z3
              obtain ⟨⟨p0, p1, p2, p3, p4, p5⟩, p6, z1, z2⟩ := lq.l.sfacts
              obtain ⟨⟨m0, m1⟩, m2⟩ := lq.l.pfacts
              obtain ⟨⟨c0, c1, c2⟩, c6, z3⟩ := lq.cfacts
              go_upto_region 15 with fail
              refine wp_worldc (fun wx => Ly w wx ⟨aa, af, ad, an, ac, al⟩ t i) (lq.l.store _ _ _ _ _ _) ?_
              clear p0 p1 p2 p3 p4 p5 p6 z1 z2 m0 m1 m2 c0 c1 c2 c6 z3
              clear lq
              rintro w7 ly
              obtain ⟨⟨m0, m1⟩, m2⟩ := ly.pfacts
              by_cases hv0 : v = 0
              · subst hv0
                go_wp2_with fail
                go_roundw
                case rel => exact ⟨k + 1, N, S, aa, af, ad, an, ac, al, by omega, by go_num, rfl, rfl, rfl, ⟨s0, s1⟩, S0, HA.out, ao, ly⟩
                case measure => simp [intOf]; omega
              · obtain ⟨e1, e2, e3⟩ := HV.out hv0
                subst e1 e2
                have e4 : decide (N < sat (S + i)) = false := by simp; omega
                have e5 : ¬ N < sat (S + i) := by omega
                go_wp2_with fail
                refine (radd02_any _ _ _ S0.1 S0.2 i0 i1).mono ?_
                rintro e w8 ⟨rfl, hb6⟩
                have ly2 := ly.below hb6
                go_wp2_with fail
                go_roundw
                case rel => exact ⟨k + 1, N, S, true, af, ad, an, ac, al, by omega, by go_num, rfl, rfl, rfl, ⟨s0, s1⟩, S0, fun _ => HA.out trivial, ao, ly2⟩
                case measure => simp [intOf]; omega
      · go_wp2_with fail
        go_ret
        exact ⟨rfl, (ly.alloc _).be⟩
    · go_wp2_with fail
      go_ret
      exact ⟨rfl, ly.be⟩
set_option maxRecDepth 100000 in
theorem lifted (os : Os) (started : os.Started) (H : Type) (enc : TypeId × Value → H) :
    ReturnsInHanded {} Try.checked os 5 .any (Rows.codelWaitsSpec.pre6 enc Try.prog Try.f5 Rows.codelWaitsRow.domain false) (Rows.codelWaitsSpec.post enc Try.prog Try.f5 false true false false) := by
  refine returnsInHanded_of_change (C := Try.checked) own started (by kernel_rfl) Try.func5
    (ChangeSpec.witness6 (enc := enc) (C := Try.checked) false ⟨#[], #[.agg #[.bool false, .int .i64 0, .bool false, .int .i64 0, .int .u64 0, .int .u64 0], .agg #[.int .i64 0, .int .i64 0], .int .i64 0, .slice none 0 0], []⟩ 8 (by kernel_rfl) (by kernel_rfl) (by kernel_rfl) (by kernel_rfl)) ?_
  intro W base args ds gs before hval0 hW hcnd _
  have hval : ∀ (j : Nat) t v, Try.f5.params[j]? = some t → args[j]? = some v → Value.okWide Try.prog W .any base t v := hval0
  have hW' := hW
  obtain ⟨p, q, hA0, hV, rfl, hfz, hnd⟩ := hW
  have hA : DataW.TrodAll enc Try.prog W 0 (fun _ => true) true Try.f5.params.toList args.toList ds p := hA0
  rw [Try.params5] at hA hval
  obtain ⟨v0, vs0, d0, ds0, p0, q0, hargs, rfl, rfl, h0, r0⟩ := trodAll_cons hA
  obtain ⟨v1, vs1, d1, ds1, p1, q1, rfl, rfl, rfl, h1, r1⟩ := trodAll_cons r0
  obtain ⟨v2, vs2, d2, ds2, p2, q2, rfl, rfl, rfl, h2, r2⟩ := trodAll_cons r1
  obtain ⟨v3, vs3, d3, ds3, p3, q3, rfl, rfl, rfl, h3, r3⟩ := trodAll_cons r2
  obtain ⟨rfl, rfl, rfl⟩ := trodAll_nil r3
  obtain rfl : args = #[v0, v1, v2, v3] := by cases args; simp_all
  obtain ⟨rfl, rfl⟩ := trodVars_none hV
  obtain ⟨x00, x01, x02, x03, x04, x05, y00, y01, y02, y03, y04, y05, n0, rfl, g00, g01, g02, g03, g04, g05⟩ := open_six Try.underlying24 (by kernel_rfl) (by kernel_rfl) (hval 0 _ v0 rfl rfl) h0
  obtain ⟨a00, e00, ez00⟩ := DataW.trod_bool Try.underlying4 g00
  simp at e00
  subst e00
  obtain ⟨a01, e01, ez01, w01⟩ := DataW.trod_int Try.underlying2 g01
  simp at e01
  subst e01
  obtain ⟨a02, e02, ez02⟩ := DataW.trod_bool Try.underlying4 g02
  simp at e02
  subst e02
  obtain ⟨a03, e03, ez03, w03⟩ := DataW.trod_int Try.underlying2 g03
  simp at e03
  subst e03
  obtain ⟨a04, e04, ez04, w04⟩ := DataW.trod_int Try.underlying22 g04
  simp at e04
  subst e04
  obtain ⟨a05, e05, ez05, w05⟩ := DataW.trod_int Try.underlying22 g05
  simp at e05
  subst e05
  obtain ⟨x10, x11, y10, y11, n1, rfl, g10, g11⟩ := open_two Try.underlying26 (by kernel_rfl) (by kernel_rfl) (hval 1 _ v1 rfl rfl) h1
  obtain ⟨a10, e10, ez10, w10⟩ := DataW.trod_int Try.underlying2 g10
  simp at e10
  subst e10
  obtain ⟨a11, e11, ez11, w11⟩ := DataW.trod_int Try.underlying2 g11
  simp at e11
  subst e11
  obtain ⟨a2, rfl, rfl, rfl, w2⟩ := open_int Try.underlying2 (hval 2 _ v2 rfl rfl) h2
  obtain ⟨A3, len3, cap3, rfl⟩ := okWide_slice Try.underlying39 (hval 3 _ v3 rfl rfl)
  obtain ⟨fu3, g3⟩ := h3
  obtain ⟨s3, t3, Q3, u3, o3⟩ := open_sns g3
  clear hA0 hval0
  obtain ⟨l01, m01⟩ := wf_i64 w01
  obtain ⟨l03, m03⟩ := wf_i64 w03
  obtain ⟨l04, m04⟩ := wf_u64 w04
  obtain ⟨l05, m05⟩ := wf_u64 w05
  obtain ⟨l10, m10⟩ := wf_i64 w10
  obtain ⟨l11, m11⟩ := wf_i64 w11
  obtain ⟨l2, m2⟩ := wf_i64 w2
  refine (walk a00 a01 a02 a03 a04 a05 a10 a11 a2 A3 len3 cap3 Q3 W s3 t3 u3 o3 l01 m01 l03 m03 l04 m04 l05 m05 l10 m10 l11 m11 l2 m2).mono fun e W' ⟨he, hg⟩ => ?_
  subst he
  exact ⟨_, rfl, post_of_law hW' rfl laidOut reads rfl Try.underlying4 rfl rfl rfl hg⟩
theorem over : Rows.codelWaitsRow.holds Try.pinned (OpenSpec.ofChange Rows.codelWaitsSpec) :=
  OpenClaim.holds_of_wide 5 Try.f5 rfl rfl rfl rfl rfl rfl rfl ⟨rfl, rfl, rfl, rfl, rfl⟩ rfl rfl rfl rfl rfl (by kernel_rfl) Try.func5 (by kernel_rfl)
    (of_decide_eq_true (by kernel_rfl)) (by unfold Func.isWrapper; first | (rw [if_pos (by decide +kernel)]; kernel_rfl) | (rw [if_neg (by decide +kernel)]; exact ⟨rfl, rfl⟩))
    (fun os started H enc _ => lifted os started H enc)
theorem proved : Rows.CodelWaitsSaid := over
end Go.Proofs.Ytkmhdkhaoegbjaa.codelWaits
