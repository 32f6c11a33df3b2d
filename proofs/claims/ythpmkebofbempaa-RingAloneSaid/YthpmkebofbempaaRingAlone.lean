/- RingAlone is true of every capacity's number and every list of picks, and changes nothing that it was given. -/
import Derived.Test.YthpmkebofbempaaRngj
import Derived.Test.YthpmkebofbempaaRact
import Derived.Test.YthpmkebofbempaaRowb
import Derived.Test.YthpmkebofbempaaRows
import Derived.WalkKit
import Derived.ProofKit
import Derived.OpenShut
import Derived.Deep.DeepCutAuto
import Derived.Deep.CutBlock
namespace Go.Proofs.Ythpmkebofbempaa.ringAlone
open Go.ChangeShapes Go.WideShapes Go.ChangeAt Go.RowKit
set_option linter.unusedVariables false
theorem own : ownKnob Try.prog.godebug = none := by kernel_rfl
theorem laidOut : laidOutB Try.prog = true := by kernel_rfl
theorem reads : (Try.f6.params.toList.all fun t => Try.prog.readableRec t && decide (t < Try.prog.types.size)) = true := by kernel_rfl
theorem ring_not_ownU {w : World} {r s n : Nat} {g : Rg} (h : RingAt w r s n g) : ¬ ownU w r ∧ ¬ ownU w s :=
  ⟨fun ⟨cs, hb⟩ => (h.apart hb (by decide) (by decide)).1 rfl, fun ⟨cs, hb⟩ => (h.apart hb (by decide) (by decide)).2 rfl⟩
theorem QAt.form {w : World} {base : Nat} {v : Value} {l : List Int} (h : QAt w base v l) : ∃ A c, v = .slice A l.length c := by
  obtain ⟨A, c, e, _⟩ := h
  exact ⟨A, c, e⟩
theorem QAt.ring {w w' : World} {base r s n : Nat} {g : Rg} {v : Value} {l : List Int} (h : QAt w base v l) (hr : RingAt w r s n g) (hk : Kept (fun k => k = r ∨ k = s) w w') : QAt w' base v l :=
  h.kept hk fun k cs hb c => c.elim (hr.apart hb (by decide) (by decide)).1 (hr.apart hb (by decide) (by decide)).2
set_option maxRecDepth 100000 in
set_option maxHeartbeats 4000000 in
theorem walk (x : Int) (A : Option Addr) (len cap : Nat) (Q : Nat → Pk) (w : World) (hl : len ≤ cap) (hc : cap ≤ maxLen) (hQ : SeqAt w w.heap.size A len 3 (fun i => pkRow (Q i))) (hok : ∀ i, i < len → (Q i).ok) (x0 : 0 ≤ x) (x1 : x ≤ 255) :
    Calls Try.prog 6 #[.int .u8 x, .slice A len cap] w fun e w' => e = .returned (.bool true) ∧ Below w.heap.size w w' := by
  unfold maxLen at hc
  obtain ⟨n, hn⟩ : ∃ n, capE x = n := ⟨_, rfl⟩
  have hn8 : n = 2 ∨ n = 4 ∨ n = 8 := hn ▸ capE_cases x
  have HN := Lib.hid hn
  have HN8 := Lib.hid hn8
  have n2 : 2 ≤ n := by omega
  have n8 : n ≤ 8 := by omega
  have HQ := Lib.hid hQ
  have HOK := Lib.hid hok
  clear hn hn8 hQ hok
  go_enter Try.func6, Try.ntmps6
  go_wp2_with (first
    | (go_at_call 9; refine (awaker _).mono ?_; rintro e w0 ⟨rfl, hb0⟩)
    | (go_at_call 17; refine (rcapy _ _ x0 x1).mono ?_; rintro e wn ⟨rfl, rfl⟩; rw [HN.out]))
  refine (rnew n _ HN8.out).mono ?_
  rintro e w1 ⟨r, s, g0, rfl, hr, hs, h1, q1, t1, k1, b1⟩
  have hz0 := hb0.size
  have H1 := Lib.hid h1
  have R1 := Lib.hid q1
  have T1 := Lib.hid t1
  have B1 := Lib.hid (hb0.trans (b1.mono hz0))
  clear h1 q1 t1 k1 b1 hb0
  go_upto_block 0 with fail
  go_cut [7] (fun s7 wx => ∃ (l : List Int) (g : Rg), RingAt wx r s n g ∧ Rest n g l ∧ g.T ≤ 200 ∧ QAt wx w.heap.size s7 l ∧ Below w.heap.size w wx)
  case first =>
    go_wp2
    go_loopw [7, 23] (fun s7 s23 wr => ∃ (k : Nat) (l : List Int) (g : Rg), k ≤ len ∧ k ≤ 200 ∧ s23 = .int .i64 k ∧ RingAt wr r s n g ∧ Rest n g l ∧ g.T ≤ k ∧ QAt wr w.heap.size s7 l ∧ Below w.heap.size w wr) (fun _ i _ => len - (intOf i).toNat)
    case atStart => exact ⟨0, [], g0, Nat.zero_le _, Nat.zero_le _, rfl, H1.out, R1.out, by rw [T1.out]; omega, QAt.nil _ _, B1.out⟩
    case round =>
      obtain ⟨k, l, g, hk, hk200, rfl, hr1, hq1, hT, hqa, hbr⟩ := hrel
      have hzr := hbr.size
      have hln := hq1.len
      have ⟨lr, ls⟩ := hr1.lts
      obtain ⟨Aq, cq, rfl⟩ := QAt.form hqa
      by_cases hlt : k < len
      · obtain ⟨kb, ko, rfl, hkb, hkc⟩ := HQ.out (by omega)
        have hq : ∀ j, j < 3 → wr.cell? ⟨kb, ko + k * 3 + j, none⟩ = (pkRow (Q k))[j]? := fun j hj => (hbr.cell hkb).trans (hkc k hlt j hj)
        have hqk := HOK.out k hlt
        obtain ⟨⟨t, d, v⟩, hqe⟩ : ∃ q, Q k = q := ⟨_, rfl⟩
        rw [hqe] at hq hqk
        obtain ⟨⟨e0, e1⟩, ⟨d0, d1⟩, ⟨v0, v1⟩⟩ := hqk
        have q0 : wr.cell? ⟨kb, ko + k * 3, none⟩ = some (.int .u8 t) := hq 0 (by omega)
        have q1 : wr.cell? ⟨kb, ko + k * 3 + 1, none⟩ = some (.int .u8 d) := hq 1 (by omega)
        have q2 : wr.cell? ⟨kb, ko + k * 3 + 2, none⟩ = some (.int .u64 v) := hq 2 (by omega)
        have hkr : kb < wr.heap.size := by omega
        have ht : d.tmod 2 = d % 2 := Int.tmod_eq_emod_of_nonneg d0
        clear hq hkc hqe
        by_cases h200 : k < 200
        · have PB := Lib.hid (Blk.made wr 35 #[.int .u8 t, .int .u8 d, .int .u64 v])
          have RA := Lib.hid (hr1.alloc_ (.cells #[.int .u8 t, .int .u8 d, .int .u64 v] 35))
          have RQ := Lib.hid hq1
          have QA := Lib.hid (hqa.below ((Below.refl _ wr).alloc (Nat.le_refl _) (.cells #[.int .u8 t, .int .u8 d, .int .u64 v] 35)))
          have BA := Lib.hid (hbr.alloc hzr (.cells #[.int .u8 t, .int .u8 d, .int .u64 v] 35))
          clear hr1 hq1 hqa hbr
          by_cases hd : d % 2 = 0
          · have hdt : (d.tmod 2 == 0) = true := by rw [ht, hd]; rfl
            clear ht hd
            by_cases hroom : l.length < n
            · have hr1 : decide ((l.length : Int) < (n : Int)) = true := decide_eq_true (by omega)
              have hr2 : decide (l.length < n) = true := decide_eq_true hroom
              go_wp2_with (first
                | (go_at_call 17; refine (rcapy _ _ x0 x1).mono ?_; rintro e wn ⟨rfl, rfl⟩; rw [HN.out])
                | (go_at_call 18; refine (trypush_yes v _ RA.out RQ.out n2 (by omega) hroom).mono ?_; rintro e w5 ⟨rfl, ⟨g5, h5, q5, t5, u5⟩, k5⟩; have H5 := Lib.hid h5; have Q5 := Lib.hid q5; have T5 := Lib.hid t5; have K5 := Lib.hid k5; have QA5 := Lib.hid (QAt.ring QA.out RA.out k5); have p2 := (PB.out.kept k5 (by have := k5.size; simp at this; omega)).val (i := 2) rfl; have hz5 := k5.size; (try simp at hz5); clear h5 q5 t5 u5 k5)
                | (at_builtin; refine wpList_qappend rfl (.tmp 46) (.tmp 49) rfl w.heap.size _ l v rfl (QA5.out.below ((Below.refl _ w5).alloc (Nat.le_refl _) (.cells #[.int .u64 v] 33))) (by omega) w5.heap.size rfl ((Blk.made w5 _ _).val rfl) (by simp; omega) ?_; intro v7 w7 hq7 hb7 hk7; have Q7 := Lib.hid hq7; have B7 := Lib.hid hb7; have H7 := Lib.hid ((H5.out.alloc_ _).kept hk7 (ring_not_ownU (H5.out.alloc_ _)).1 (ring_not_ownU (H5.out.alloc_ _)).2); obtain ⟨A7, c7, rfl⟩ := QAt.form hq7; clear hq7 hb7 hk7))
              go_roundw
              case rel => exact ⟨k + 1, l ++ [v], g5, by omega, by omega, by go_num, H7.out, Q5.out, by rw [T5.out]; omega, by have := Q7.out; simp only [List.length_append, List.length_cons, List.length_nil] at this; exact this, ((BA.out.trans (K5.out.below (B := w.heap.size) (fun g hg => by omega) (by simp; omega))).alloc (by omega) _).trans B7.out⟩
              case measure => simp [intOf]; omega
            · have hr1 : decide ((l.length : Int) < (n : Int)) = false := decide_eq_false (by omega)
              have hr2 : decide (l.length < n) = false := decide_eq_false hroom
              have hfull : l.length = n := by omega
              have HFULL := Lib.hid hfull
              clear hfull
              go_wp2_with (first
                | (go_at_call 17; refine (rcapy _ _ x0 x1).mono ?_; rintro e wn ⟨rfl, rfl⟩; rw [HN.out])
                | (go_at_call 18; refine (trypush_no v _ RA.out RQ.out n2 (by omega) HFULL.out).mono ?_; rintro e w5 ⟨rfl, h5, k5⟩; have H5 := Lib.hid h5; have K5 := Lib.hid k5; have QA5 := Lib.hid (QAt.ring QA.out RA.out k5); clear h5 k5))
              go_roundw
              case rel => exact ⟨k + 1, l, g, by omega, by omega, by go_num, H5.out, RQ.out, by omega, QA5.out, BA.out.trans (K5.out.below (B := w.heap.size) (fun g hg => by omega) (by simp; omega))⟩
              case measure => simp [intOf]; omega
          · have hdt : (d.tmod 2 == 0) = false := by rw [ht, beq_eq_false_iff_ne]; exact hd
            clear ht hd
            cases l with
            | nil =>
              go_wp2_with (go_at_call 13; refine (trypop_no _ RA.out RQ.out (by omega)).mono ?_; rintro e w5 ⟨rfl, h5, k5⟩; have H5 := Lib.hid h5; have K5 := Lib.hid k5; have QA5 := Lib.hid (QAt.ring QA.out RA.out k5); clear h5 k5)
              go_roundw
              case rel => exact ⟨k + 1, [], g, by omega, by omega, by go_num, H5.out, RQ.out, by omega, QA5.out, BA.out.trans (K5.out.below (B := w.heap.size) (fun g hg => by omega) (by simp; omega))⟩
              case measure => simp [intOf]; omega
            | cons y t =>
              have hpos : (0 : Int) < (t.length : Int) + 1 := by omega
              have hpd : decide ((0 : Int) < (t.length : Int) + 1) = true := decide_eq_true hpos
              obtain ⟨gq, oq, rfl, hc1, hcell, htl⟩ := QAt.tail QA.out
              have QT := Lib.hid htl
              clear htl
              by_cases hcq : cq = 1
              · subst hcq
                go_wp2_with (go_at_call 13; refine (trypop_yes (x := y) (l := t) _ RA.out RQ.out (by omega)).mono ?_; rintro e w5 ⟨rfl, ⟨g5, h5, q5, t5, u5⟩, k5⟩; have H5 := Lib.hid h5; have Q5 := Lib.hid q5; have T5 := Lib.hid t5; have K5 := Lib.hid k5; have QA5 := Lib.hid (QAt.ring QT.out RA.out k5); obtain ⟨gx, ox, ex, _, d5, _⟩ := QAt.tail (QAt.ring QA.out RA.out k5); cases ex; clear h5 q5 t5 u5 k5)
                go_roundw
                case rel => exact ⟨k + 1, t, g5, by omega, by omega, by go_num, H5.out, Q5.out, by rw [T5.out]; omega, by have := QA5.out; simpa using this, BA.out.trans (K5.out.below (B := w.heap.size) (fun g hg => by omega) (by simp; omega))⟩
                case measure => simp [intOf]; omega
              · go_wp2_with (go_at_call 13; refine (trypop_yes (x := y) (l := t) _ RA.out RQ.out (by omega)).mono ?_; rintro e w5 ⟨rfl, ⟨g5, h5, q5, t5, u5⟩, k5⟩; have H5 := Lib.hid h5; have Q5 := Lib.hid q5; have T5 := Lib.hid t5; have K5 := Lib.hid k5; have QA5 := Lib.hid (QAt.ring QT.out RA.out k5); obtain ⟨gx, ox, ex, _, d5, _⟩ := QAt.tail (QAt.ring QA.out RA.out k5); cases ex; clear h5 q5 t5 u5 k5)
                go_roundw
                case rel => exact ⟨k + 1, t, g5, by omega, by omega, by go_num, H5.out, Q5.out, by rw [T5.out]; omega, by have := QA5.out; rw [if_neg hcq] at this; exact this, BA.out.trans (K5.out.below (B := w.heap.size) (fun g hg => by omega) (by simp; omega))⟩
                case measure => simp [intOf]; omega
        · clear ht
          go_wp2
          go_meet
          exact ⟨l, g, hr1.alloc_ _, hq1, by omega, hqa.below ((Below.refl _ wr).alloc (Nat.le_refl _) _), hbr.alloc hzr _⟩
      · go_wp2
        go_meet
        exact ⟨l, g, hr1, hq1, by omega, hqa, hbr⟩
  case rest =>
    obtain ⟨l, g, hr1, hq1, hT, hqa, hb2⟩ := hcut
    obtain ⟨Aq, cq, rfl⟩ := QAt.form hqa
    have hln := hq1.len
    have htl := hq1.tail
    have heq : ((g.T : Int) - (g.H : Int) == (l.length : Int)) = true := by rw [htl]; simp; omega
    have RA := Lib.hid hr1
    have htl2 : (g.H : Int) ≤ (g.T : Int) := by omega
    have hwl : IntKind.u64.wrap (l.length : Int) = (l.length : Int) := IntWalk.u64_in _ (by omega)
    have hwd : IntKind.u64.wrap ((g.T : Int) - (g.H : Int)) = (g.T : Int) - (g.H : Int) := IntWalk.u64_in _ (by omega)
    clear hr1 hq1 hqa htl H1 R1 T1 B1
    go_wp2_with (first
      | (go_at_call 14; refine (rtail _ RA.out).mono ?_; rintro e wn ⟨rfl, rfl⟩)
      | (go_at_call 15; refine (rhead _ RA.out).mono ?_; rintro e wn ⟨rfl, rfl⟩)
      | (go_at_call 19; refine (rcap _ RA.out).mono ?_; rintro e wn ⟨rfl, rfl⟩)
      | (go_at_call 17; refine (rcapy _ _ x0 x1).mono ?_; rintro e wn ⟨rfl, rfl⟩; rw [HN.out]))
    go_ret
    exact ⟨rfl, hb2⟩
set_option maxRecDepth 100000 in
theorem lifted (os : Os) (started : os.Started) (H : Type) (enc : TypeId × Value → H) :
    ReturnsInHanded {} Try.checked os 6 .any (Rows.ringAloneSpec.pre6 enc Try.prog Try.f6 Rows.ringAloneRow.domain false) (Rows.ringAloneSpec.post enc Try.prog Try.f6 false true false false) := by
  refine returnsInHanded_of_change (C := Try.checked) own started (by kernel_rfl) Try.func6
    (ChangeSpec.witness6 (enc := enc) (C := Try.checked) false ⟨#[], #[.int .u8 0, .slice none 0 0], []⟩ 8 (by kernel_rfl) (by kernel_rfl) (by kernel_rfl) (by kernel_rfl)) ?_
  intro W base args ds gs before hval0 hW hcnd _
  have hval : ∀ (j : Nat) t v, Try.f6.params[j]? = some t → args[j]? = some v → Value.okWide Try.prog W .any base t v := hval0
  have hW' := hW
  obtain ⟨p, q, hA0, hV, rfl, hfz, hnd⟩ := hW
  have hA : DataW.TrodAll enc Try.prog W 0 (fun _ => true) true Try.f6.params.toList args.toList ds p := hA0
  rw [Try.params6] at hA hval
  obtain ⟨v0, vs0, d0, ds0, p0, q0, hargs, rfl, rfl, h0, r0⟩ := trodAll_cons hA
  obtain ⟨v1, vs1, d1, ds1, p1, q1, rfl, rfl, rfl, h1, r1⟩ := trodAll_cons r0
  obtain ⟨rfl, rfl, rfl⟩ := trodAll_nil r1
  obtain rfl : args = #[v0, v1] := by cases args; simp_all
  obtain ⟨rfl, rfl⟩ := trodVars_none hV
  obtain ⟨a0, rfl, rfl, rfl, w0⟩ := open_int Try.underlying5 (hval 0 _ v0 rfl rfl) h0
  obtain ⟨A1, len1, cap1, rfl⟩ := okWide_slice Try.underlying22 (hval 1 _ v1 rfl rfl)
  obtain ⟨fu1, g1⟩ := h1
  obtain ⟨s1, t1, Q1, u1, o1⟩ := open_pks g1
  clear hA0 hval0
  obtain ⟨l0, m0⟩ := wf_u8 w0
  refine (walk a0 A1 len1 cap1 Q1 W s1 t1 u1 o1 l0 m0).mono fun e W' ⟨he, hg⟩ => ?_
  subst he
  exact ⟨_, rfl, post_of_law hW' rfl laidOut reads rfl Try.underlying4 rfl rfl rfl hg⟩
theorem over : Rows.ringAloneRow.holds Try.pinned (OpenSpec.ofChange Rows.ringAloneSpec) :=
  OpenClaim.holds_of_wide 6 Try.f6 rfl rfl rfl rfl rfl rfl rfl ⟨rfl, rfl, rfl, rfl, rfl⟩ rfl rfl rfl rfl rfl (by kernel_rfl) Try.func6 (by kernel_rfl)
    (of_decide_eq_true (by kernel_rfl)) (by unfold Func.isWrapper; first | (rw [if_pos (by decide +kernel)]; kernel_rfl) | (rw [if_neg (by decide +kernel)]; exact ⟨rfl, rfl⟩))
    (fun os started H enc _ => lifted os started H enc)
theorem proved : Rows.RingAloneSaid := over
end Go.Proofs.Ythpmkebofbempaa.ringAlone
