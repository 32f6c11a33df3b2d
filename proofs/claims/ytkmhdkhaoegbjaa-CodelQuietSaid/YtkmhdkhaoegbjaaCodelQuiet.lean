/- CodelQuiet is true of every state, all params, every time and every list of those who are looked at, and changes nothing that it was given. -/
import Derived.Test.YtkmhdkhaoegbjaaCodw
import Derived.Test.YtkmhdkhaoegbjaaOst
import Derived.Test.YtkmhdkhaoegbjaaRefd
import Derived.Test.YtkmhdkhaoegbjaaRefg
import Derived.Test.YtkmhdkhaoegbjaaRowb
import Derived.Test.YtkmhdkhaoegbjaaRows
import Derived.WalkKit
import Derived.ProofKit
import Derived.OpenShut
import Derived.Deep.DeepCutAuto
import Derived.Deep.CutBlock
namespace Go.Proofs.Ytkmhdkhaoegbjaa.codelQuiet
open Go.ChangeShapes Go.WideShapes Go.ChangeAt Go.RowKit Kn
set_option linter.unusedVariables false
theorem own : ownKnob Try.prog.godebug = none := by kernel_rfl
theorem laidOut : laidOutB Try.prog = true := by kernel_rfl
theorem reads : (Try.f4.params.toList.all fun t => Try.prog.readableRec t && decide (t < Try.prog.types.size)) = true := by kernel_rfl
/-- A law's boxes, and one that is looked at. -/
structure Lq (v w : World) (g : Nat) (s : Cst) (t i x j b : Int) : Prop where
  l : Ly v w s t i
  c : Blk w g 41 #[.int .i64 x, .int .i64 j, .int .i64 b]
  hg : v.heap.size + 1 < g
section
variable {v w w' : World} {s : Cst} {t i x j b : Int} {g : Nat}
theorem Lq.made (h : Ly v w s t i) (x j b : Int) : Lq v (w.alloc (.cells #[.int .i64 x, .int .i64 j, .int .i64 b] 41)) w.heap.size s t i x j b := ⟨h.alloc _, Blk.made w _ _, h.lt⟩
theorem Lq.below (h : Lq v w g s t i x j b) (hb : Below w.heap.size w w') : Lq v w' g s t i x j b := ⟨h.l.below hb, h.c.below_ hb h.c.size, h.hg⟩
theorem Lq.setB (h : Lq v w g s t i x j b) (b' : Int) : Lq v (w.setCell ⟨g, 2, none⟩ (.int .i64 b')) g s t i x j b' :=
  ⟨⟨Blk.far h.l.a _ (by have := h.hg; simp; omega), h.l.b.far _ (by have := h.hg; simp; omega), h.l.be.setCell (by have := h.hg; simp; omega) _⟩, h.c.set_ 2 _, h.hg⟩
theorem Lq.cfacts (h : Lq v w g s t i x j b) : (w.cell? ⟨g, 0, none⟩ = some (.int .i64 x) ∧ w.cell? ⟨g, 1, none⟩ = some (.int .i64 j) ∧ w.cell? ⟨g, 2, none⟩ = some (.int .i64 b)) ∧ (∀ k, w.frozen? ⟨g, k, none⟩ = false) ∧ g < w.heap.size :=
  ⟨⟨h.c.val (i := 0) rfl, h.c.val (i := 1) rfl, h.c.val (i := 2) rfl⟩, h.c.free, h.c.size⟩
end
theorem look_low (s : Cst) (i now : Int) : lookC s i now false = (⟨false, 0, false, s.ne, s.co, s.la⟩, 0) := by
  have hm : mayC s now false = false := by unfold mayC; simp
  unfold lookC consC
  rw [hm]
  simp [noteC]
set_option linter.unusedSimpArgs false
set_option maxRecDepth 100000 in
set_option maxHeartbeats 4000000 in
theorem walk (ab : Bool) (fi : Int) (dr : Bool) (ne co la t i now : Int) (A : Option Addr) (len cap : Nat) (Q : Nat → Sn) (w : World) (hl : len ≤ cap) (hc : cap ≤ maxLen) (hQ : SeqAt w w.heap.size A len 3 (fun i => snRow (Q i))) (hok : ∀ i, i < len → (Q i).ok) (f0 : -9223372036854775808 ≤ fi) (f1 : fi ≤ 9223372036854775807) (ne0 : -9223372036854775808 ≤ ne) (ne1 : ne ≤ 9223372036854775807) (co0 : 0 ≤ co) (co1 : co ≤ 18446744073709551615) (la0 : 0 ≤ la) (la1 : la ≤ 18446744073709551615) (t0 : -9223372036854775808 ≤ t) (t1 : t ≤ 9223372036854775807) (i0 : -9223372036854775808 ≤ i) (i1 : i ≤ 9223372036854775807) (now0 : -9223372036854775808 ≤ now) (now1 : now ≤ 9223372036854775807) :
    Calls Try.prog 4 #[.agg #[.bool ab, .int .i64 fi, .bool dr, .int .i64 ne, .int .u64 co, .int .u64 la], .agg #[.int .i64 t, .int .i64 i], .int .i64 now, .slice A len cap] w fun e w' => e = .returned (.bool true) ∧ Below w.heap.size w w' := by
  unfold maxLen at hc
  have so : (⟨ab, fi, dr, ne, co, la⟩ : Cst).ok := ⟨by omega, by omega, by omega, by omega, by omega, by omega, by omega, by omega⟩
  have HQ := Lib.hid hQ
  have HOK := Lib.hid hok
  have SO := Lib.hid so
  clear hQ hok so
  go_enter Try.func4, Try.ntmps4
  go_upto_region 1 with fail
  refine wp_worldc (fun wx => Ly w wx ⟨ab, fi, dr, ne, co, la⟩ t i) (Ly.made w _ _ _ _ _ _ _ _) ?_
  rintro w0 ly
  go_wp2_with fail
  refine (awake8 _).mono ?_
  rintro e w1 ⟨rfl, hb1⟩
  replace ly := ly.below hb1
  clear hb1
  go_wp2_with fail
  go_loopw [2, 16] (fun s2 s16 wr => ∃ (k : Nat) (now : Int) (ab : Bool) (fi : Int) (dr : Bool), k ≤ len ∧ s16 = .int .i64 k ∧ s2 = .int .i64 now ∧ (-9223372036854775808 ≤ now ∧ now ≤ 9223372036854775807) ∧ (⟨ab, fi, dr, ne, co, la⟩ : Cst).ok ∧ Ly w wr ⟨ab, fi, dr, ne, co, la⟩ t i) (fun _ i _ => len - (intOf i).toNat)
  case atStart => exact ⟨0, now, ab, fi, dr, Nat.zero_le _, rfl, rfl, ⟨now0, now1⟩, SO.out, ly⟩
  case round =>
    clear ly SO
    obtain ⟨k, now, ab, fi, dr, hk, rfl, rfl, ⟨now0, now1⟩, so, ly⟩ := hrel
    have SO := Lib.hid so
    clear so
    by_cases hlt : k < len
    · obtain ⟨kb, ko, rfl, hkb, hkc⟩ := HQ.out (by omega)
      have hq : ∀ j, j < 3 → wr.cell? ⟨kb, ko + k * 3 + j, none⟩ = (snRow (Q k))[j]? := fun j hj => (ly.be.cell hkb).trans (hkc k hlt j hj)
      have hqk := HOK.out k hlt
      obtain ⟨⟨x, j, b⟩, hqe⟩ : ∃ q, Q k = q := ⟨_, rfl⟩
      rw [hqe] at hq hqk
      obtain ⟨⟨x0, x1⟩, ⟨j0, j1⟩, ⟨b0, b1⟩⟩ : (-9223372036854775808 ≤ x ∧ x ≤ 9223372036854775807) ∧ (-9223372036854775808 ≤ j ∧ j ≤ 9223372036854775807) ∧ (-9223372036854775808 ≤ b ∧ b ≤ 9223372036854775807) := hqk
      have q0 : wr.cell? ⟨kb, ko + k * 3, none⟩ = some (.int .i64 x) := hq 0 (by omega)
      have q1 : wr.cell? ⟨kb, ko + k * 3 + 1, none⟩ = some (.int .i64 j) := hq 1 (by omega)
      have q2 : wr.cell? ⟨kb, ko + k * 3 + 2, none⟩ = some (.int .i64 b) := hq 2 (by omega)
      have hkr : kb < wr.heap.size := by have := ly.be.size; omega
      clear hq hkc hqe
      by_cases h40 : k < 40
      · go_upto_region 7 with fail
        refine wp_worldc (fun wx => Lq w wx wr.heap.size ⟨ab, fi, dr, ne, co, la⟩ t i x j b) (Lq.made ly x j b) ?_
        clear ly q0 q1 q2 hkr
        rintro w3 lq
        obtain ⟨B, hB⟩ : ∃ B, (if t ≤ j ∧ 1 < b then 1 else b) = B := ⟨_, rfl⟩
        have hh : highB t j B = false := by
          unfold highB; rw [← hB]; split
          · simp
          · rename_i hx; simp; intro h; exact Int.not_lt.1 fun h2 => hx ⟨h, h2⟩
        have B0 : -9223372036854775808 ≤ B ∧ B ≤ 9223372036854775807 := by rw [← hB]; split <;> omega
        have HB := Lib.hid hB
        have HH := Lib.hid hh
        clear hB hh
        obtain ⟨c, hc⟩ : ∃ c, (decide (t ≤ j) && decide (1 < b)) = c := ⟨_, rfl⟩
        have HC := Lib.hid hc
        clear hc
        obtain ⟨⟨p0, p1, p2, p3, p4, p5⟩, p6, z1, z2⟩ := lq.l.sfacts
        obtain ⟨⟨m0, m1⟩, m2⟩ := lq.l.pfacts
        obtain ⟨⟨c0, c1, c2⟩, c6, z3⟩ := lq.cfacts
        go_cut [32] from 23 to 59 (fun s32 wx => s32 = .bool c ∧ Lq w wx wr.heap.size ⟨ab, fi, dr, ne, co, la⟩ t i x j b)
        case first =>
          have hc := HC.out
          by_cases h1 : t ≤ j
          · by_cases h2 : 1 < b
            · have e : c = true := by rw [← hc]; simp [h1, h2]
              subst e
              go_wp2_with fail
              go_meet
              exact ⟨rfl, lq⟩
            · have e : c = false := by rw [← hc]; simp [h1, h2]
              subst e
              go_wp2_with fail
              go_meet
              exact ⟨rfl, lq⟩
          · have e : c = false := by rw [← hc]; simp [h1]
            subst e
            go_wp2_with fail
            go_meet
            exact ⟨rfl, lq⟩
        case rest =>
          clear p0 p1 p2 p3 p4 p5 p6 z1 z2 m0 m1 m2 c0 c1 c2 c6 z3
          clear lq
          obtain ⟨rfl, lq⟩ := hcut
          obtain ⟨⟨p0, p1, p2, p3, p4, p5⟩, p6, z1, z2⟩ := lq.l.sfacts
          obtain ⟨⟨m0, m1⟩, m2⟩ := lq.l.pfacts
          obtain ⟨⟨c0, c1, c2⟩, c6, z3⟩ := lq.cfacts
          go_upto_if 32 with fail
          go_cut [] from 33 to 59 (fun wx => Lq w wx wr.heap.size ⟨ab, fi, dr, ne, co, la⟩ t i x j B)
          case first =>
            have hB := HB.out
            have hc := HC.out
            cases c
            · have e : ¬ (t ≤ j ∧ 1 < b) := by simpa using hc
              rw [if_neg e] at hB
              clear HB HH
              subst hB
              go_wp2_with fail
              go_meet
              exact lq
            · have e : t ≤ j ∧ 1 < b := by simpa using hc
              rw [if_pos e] at hB
              clear HB HH
              subst hB
              go_wp2_with fail
              go_meet
              exact lq.setB 1
          case rest =>
            clear p0 p1 p2 p3 p4 p5 p6 z1 z2 m0 m1 m2 c0 c1 c2 c6 z3
            clear lq
            have lq := hcut
            clear hcut
            obtain ⟨⟨p0, p1, p2, p3, p4, p5⟩, p6, z1, z2⟩ := lq.l.sfacts
            obtain ⟨⟨m0, m1⟩, m2⟩ := lq.l.pfacts
            obtain ⟨⟨c0, c1, c2⟩, c6, z3⟩ := lq.cfacts
            go_wp2_with fail
            refine (radd02_any _ _ _ now0 now1 x0 x1).mono ?_
            rintro e w4 ⟨rfl, hb4⟩
            replace lq := lq.below hb4
            clear hb4
            clear p0 p1 p2 p3 p4 p5 p6 z1 z2 m0 m1 m2 c0 c1 c2 c6 z3
            obtain ⟨⟨p0, p1, p2, p3, p4, p5⟩, p6, z1, z2⟩ := lq.l.sfacts
            obtain ⟨⟨m0, m1⟩, m2⟩ := lq.l.pfacts
            obtain ⟨⟨c0, c1, c2⟩, c6, z3⟩ := lq.cfacts
            have s0 := sat_lo (now + x)
            have s1 := sat_up (now + x)
            obtain ⟨N, hN⟩ : ∃ N, sat (now + x) = N := ⟨_, rfl⟩
            rw [hN] at s0 s1
            go_wp2_with fail
            refine (clook_any ⟨ab, fi, dr, ne, co, la⟩ _ _ _ _ _ false HH.out _ s0 s1 i0 i1 SO.out).mono ?_
            rw [look_low]
            rintro e w5 ⟨rfl, hb5⟩
            replace lq := lq.below hb5
            clear hb5
            clear p0 p1 p2 p3 p4 p5 p6 z1 z2 m0 m1 m2 c0 c1 c2 c6 z3
            obtain ⟨⟨p0, p1, p2, p3, p4, p5⟩, p6, z1, z2⟩ := lq.l.sfacts
            obtain ⟨⟨m0, m1⟩, m2⟩ := lq.l.pfacts
            obtain ⟨⟨c0, c1, c2⟩, c6, z3⟩ := lq.cfacts
            go_upto_region 12 with fail
            refine wp_worldc (fun wx => Ly w wx ⟨false, 0, false, ne, co, la⟩ t i) (lq.l.store _ _ _ _ _ _) ?_
            clear p0 p1 p2 p3 p4 p5 p6 z1 z2 m0 m1 m2 c0 c1 c2 c6 z3
            clear lq
            rintro w6 ly
            obtain ⟨⟨p0, p1, p2, p3, p4, p5⟩, p6, z1, z2⟩ := ly.sfacts
            go_wp2_with fail
            go_roundw
            case rel => exact ⟨k + 1, N, false, 0, false, by omega, by go_num, rfl, ⟨s0, s1⟩, ⟨by show (-9223372036854775808 : Int) ≤ 0; decide, by show (0 : Int) ≤ 9223372036854775807; decide, SO.out.n0, SO.out.n1, SO.out.c0, SO.out.c1, SO.out.l0, SO.out.l1⟩, ly⟩
            case measure => simp [intOf]; omega
      · go_wp2_with fail
        go_ret
        exact ⟨rfl, (ly.alloc _).be⟩
    · go_wp2_with fail
      go_ret
      exact ⟨rfl, ly.be⟩
set_option maxRecDepth 100000 in
theorem lifted (os : Os) (started : os.Started) (H : Type) (enc : TypeId × Value → H) :
    ReturnsInHanded {} Try.checked os 4 .any (Rows.codelQuietSpec.pre6 enc Try.prog Try.f4 Rows.codelQuietRow.domain false) (Rows.codelQuietSpec.post enc Try.prog Try.f4 false true false false) := by
  refine returnsInHanded_of_change (C := Try.checked) own started (by kernel_rfl) Try.func4
    (ChangeSpec.witness6 (enc := enc) (C := Try.checked) false ⟨#[], #[.agg #[.bool false, .int .i64 0, .bool false, .int .i64 0, .int .u64 0, .int .u64 0], .agg #[.int .i64 0, .int .i64 0], .int .i64 0, .slice none 0 0], []⟩ 8 (by kernel_rfl) (by kernel_rfl) (by kernel_rfl) (by kernel_rfl)) ?_
  intro W base args ds gs before hval0 hW hcnd _
  have hval : ∀ (j : Nat) t v, Try.f4.params[j]? = some t → args[j]? = some v → Value.okWide Try.prog W .any base t v := hval0
  have hW' := hW
  obtain ⟨p, q, hA0, hV, rfl, hfz, hnd⟩ := hW
  have hA : DataW.TrodAll enc Try.prog W 0 (fun _ => true) true Try.f4.params.toList args.toList ds p := hA0
  rw [Try.params4] at hA hval
  obtain ⟨v0, vs0, d0, ds0, p0, q0, hargs, rfl, rfl, h0, r0⟩ := trodAll_cons hA
  obtain ⟨v1, vs1, d1, ds1, p1, q1, rfl, rfl, rfl, h1, r1⟩ := trodAll_cons r0
  obtain ⟨v2, vs2, d2, ds2, p2, q2, rfl, rfl, rfl, h2, r2⟩ := trodAll_cons r1
  obtain ⟨v3, vs3, d3, ds3, p3, q3, rfl, rfl, rfl, h3, r3⟩ := trodAll_cons r2
  obtain ⟨rfl, rfl, rfl⟩ := trodAll_nil r3
  obtain rfl : args = #[v0, v1, v2, v3] := by cases args; simp_all
  obtain ⟨rfl, rfl⟩ := trodVars_none hV
  obtain ⟨x00, x01, x02, x03, x04, x05, y00, y01, y02, y03, y04, y05, n0, rfl, g00, g01, g02, g03, g04, g05⟩ := open_six Try.underlying24 (by kernel_rfl) (by kernel_rfl) (hval 0 _ v0 rfl rfl) h0
  obtain ⟨a00, e00, ez00⟩ := DataW.trod_bool Try.underlying4 g00
  simp at e00
  subst e00
  obtain ⟨a01, e01, ez01, w01⟩ := DataW.trod_int Try.underlying2 g01
  simp at e01
  subst e01
  obtain ⟨a02, e02, ez02⟩ := DataW.trod_bool Try.underlying4 g02
  simp at e02
  subst e02
  obtain ⟨a03, e03, ez03, w03⟩ := DataW.trod_int Try.underlying2 g03
  simp at e03
  subst e03
  obtain ⟨a04, e04, ez04, w04⟩ := DataW.trod_int Try.underlying22 g04
  simp at e04
  subst e04
  obtain ⟨a05, e05, ez05, w05⟩ := DataW.trod_int Try.underlying22 g05
  simp at e05
  subst e05
  obtain ⟨x10, x11, y10, y11, n1, rfl, g10, g11⟩ := open_two Try.underlying26 (by kernel_rfl) (by kernel_rfl) (hval 1 _ v1 rfl rfl) h1
  obtain ⟨a10, e10, ez10, w10⟩ := DataW.trod_int Try.underlying2 g10
  simp at e10
  subst e10
  obtain ⟨a11, e11, ez11, w11⟩ := DataW.trod_int Try.underlying2 g11
  simp at e11
  subst e11
  obtain ⟨a2, rfl, rfl, rfl, w2⟩ := open_int Try.underlying2 (hval 2 _ v2 rfl rfl) h2
  obtain ⟨A3, len3, cap3, rfl⟩ := okWide_slice Try.underlying39 (hval 3 _ v3 rfl rfl)
  obtain ⟨fu3, g3⟩ := h3
  obtain ⟨s3, t3, Q3, u3, o3⟩ := open_sns g3
  clear hA0 hval0
  obtain ⟨l01, m01⟩ := wf_i64 w01
  obtain ⟨l03, m03⟩ := wf_i64 w03
  obtain ⟨l04, m04⟩ := wf_u64 w04
  obtain ⟨l05, m05⟩ := wf_u64 w05
  obtain ⟨l10, m10⟩ := wf_i64 w10
  obtain ⟨l11, m11⟩ := wf_i64 w11
  obtain ⟨l2, m2⟩ := wf_i64 w2
  refine (walk a00 a01 a02 a03 a04 a05 a10 a11 a2 A3 len3 cap3 Q3 W s3 t3 u3 o3 l01 m01 l03 m03 l04 m04 l05 m05 l10 m10 l11 m11 l2 m2).mono fun e W' ⟨he, hg⟩ => ?_
  subst he
  exact ⟨_, rfl, post_of_law hW' rfl laidOut reads rfl Try.underlying4 rfl rfl rfl hg⟩
theorem over : Rows.codelQuietRow.holds Try.pinned (OpenSpec.ofChange Rows.codelQuietSpec) :=
  OpenClaim.holds_of_wide 4 Try.f4 rfl rfl rfl rfl rfl rfl rfl ⟨rfl, rfl, rfl, rfl, rfl⟩ rfl rfl rfl rfl rfl (by kernel_rfl) Try.func4 (by kernel_rfl)
    (of_decide_eq_true (by kernel_rfl)) (by unfold Func.isWrapper; first | (rw [if_pos (by decide +kernel)]; kernel_rfl) | (rw [if_neg (by decide +kernel)]; exact ⟨rfl, rfl⟩))
    (fun os started H enc _ => lifted os started H enc)
theorem proved : Rows.CodelQuietSaid := over
end Go.Proofs.Ytkmhdkhaoegbjaa.codelQuiet
