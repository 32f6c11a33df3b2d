/- TallyApart is true of every list of outcomes, every outcome and number, and changes nothing that it was given. -/
import Derived.Test.YtidkemgibehpcaaTlr
import Derived.Test.YtidkemgibehpcaaOst6
import Derived.Test.YtidkemgibehpcaaRowb
import Derived.Test.YtidkemgibehpcaaRows
import Derived.WalkKit
import Derived.ProofKit
import Derived.OpenShut
import Derived.Deep.DeepCutAuto
namespace Go.Proofs.Ytidkemgibehpcaa.tallyApart
open Go.ChangeShapes Go.WideShapes Go.ChangeAt Go.RowKit
set_option linter.unusedVariables false
theorem own : ownKnob Try.prog.godebug = none := by kernel_rfl
theorem laidOut : laidOutB Try.prog = true := by kernel_rfl
theorem reads : (Try.f5.params.toList.all fun t => Try.prog.readableRec t && decide (t < Try.prog.types.size)) = true := by kernel_rfl
attribute [local go_sem] Oper.semAt_some
set_option maxRecDepth 100000 in
set_option maxHeartbeats 8000000 in
theorem walk (A : Option Addr) (len cap : Nat) (Q : Nat → Oc) (oa ob oc od oe of_ stop : Int) (w : World) (hlc : len ≤ cap) (hcm : cap ≤ maxLen) (hQ : SeqAt w w.heap.size A len 6 (fun i => ocRow (Q i))) (hok : ∀ i, (Q i).ok) (_ : 0 ≤ oa) (_ : oa ≤ 18446744073709551615) (_ : -9223372036854775808 ≤ ob) (_ : ob ≤ 9223372036854775807) (_ : -9223372036854775808 ≤ oc) (_ : oc ≤ 9223372036854775807) (_ : 0 ≤ od) (_ : od ≤ 255) (_ : -9223372036854775808 ≤ oe) (_ : oe ≤ 9223372036854775807) (_ : -9223372036854775808 ≤ of_) (_ : of_ ≤ 9223372036854775807) (z0 : 0 ≤ stop) (z1 : stop ≤ 255) :
    Calls Try.prog 5 #[.slice A len cap, .agg #[.int .u64 oa, .int .i64 ob, .int .i64 oc, .int .u8 od, .int .i64 oe, .int .i64 of_], .int .u8 stop] w fun e w' => e = .returned (.bool true) ∧ Below w.heap.size w w' := by
  obtain ⟨L, hL⟩ : ∃ L, takeF Q (min len 60) = L := ⟨_, rfl⟩
  have h60 : L.length ≤ 60 := by rw [← hL, takeF_len]; omega
  have HFIL := Lib.hid (fun W hW => fil_of (W := W) hQ hlc hcm hok hW hL rfl)
  obtain ⟨s, hs20⟩ : ∃ s : Nat, stop % 20 = (s : Int) := ⟨(stop % 20).toNat, by omega⟩
  have s20 : s < 20 := by omega
  have ht20 : stop.tmod 20 = (s : Int) := by rw [Int.tmod_eq_emod_of_nonneg z0]; exact hs20
  have HT20 := Lib.hid ht20
  clear hlc hcm hQ hok hL hs20 ht20
  refine (callsIn_wide (n := 9)).1 ?_
  refine callsIn_of_wp_marks Try.func5 rfl trivial ?_ rfl
  simp only [Try.ntmps5, List.size_toArray, List.length_cons, List.length_nil, Nat.reduceAdd, Nat.reduceSub, Array.replicate_succ, Array.replicate_zero, List.push_toArray, List.append_toArray, List.nil_append, List.cons_append]
  gi_wp2
  refine ⟨trivial, ?_⟩
  gi_at_call 7
  obtain ⟨W0, hW0⟩ : ∃ W0, ((w.alloc (Obj.cells #[.int .u64 oa, .int .i64 ob, .int .i64 oc, .int .u8 od, .int .i64 oe, .int .i64 of_] tT)).alloc (Obj.cells #[.int .u8 stop] 5)).alloc (Obj.cells #[.bool false] 4) = W0 := ⟨_, rfl⟩
  have hB0 : Below w.heap.size w W0 := by rw [← hW0]; exact (((Below.refl _ w).alloc (Nat.le_refl _) _).alloc (by simp) _).alloc (by simp; omega) _
  have hz0 : W0.heap.size = w.heap.size + 3 := by rw [← hW0]; simp
  have i4 : Blk W0 w.heap.size tT #[.int .u64 oa, .int .i64 ob, .int .i64 oc, .int .u8 od, .int .i64 oe, .int .i64 of_] := by rw [← hW0]; exact ((Blk.made w _ _).alloc_ _).alloc_ _
  have i5 : Boxed W0 (w.heap.size + 1) 5 (.int .u8 stop) := by rw [← hW0]; have := Boxed.new (w.alloc (Obj.cells #[.int .u64 oa, .int .i64 ob, .int .i64 oc, .int .u8 od, .int .i64 oe, .int .i64 of_] tT)) 5 (.int .u8 stop); rw [World.size_alloc] at this; exact this.alloc _
  have i6 : Boxed W0 (w.heap.size + 1 + 1) 4 (.bool false) := by rw [← hW0]; have := Boxed.new ((w.alloc (Obj.cells #[.int .u64 oa, .int .i64 ob, .int .i64 oc, .int .u8 od, .int .i64 oe, .int .i64 of_] tT)).alloc (Obj.cells #[.int .u8 stop] 5)) 4 (.bool false); rw [World.size_alloc, World.size_alloc] at this; exact this
  rw [hW0]
  clear hW0
  refine (callsIn_wide.2 (lawake _)).mono ?_
  rintro e w1 ⟨rfl, hb1⟩
  have hz1 : w.heap.size + 3 ≤ w1.heap.size := by have := hb1.size; omega
  have HI := Lib.hid (show Blk w1 w.heap.size tT #[.int .u64 oa, .int .i64 ob, .int .i64 oc, .int .u8 od, .int .i64 oe, .int .i64 of_] ∧ Boxed w1 (w.heap.size + 1) 5 (.int .u8 stop) ∧ Boxed w1 (w.heap.size + 1 + 1) 4 (.bool false) from ⟨i4.below_ hb1 i4.size, bxb i5 hb1, bxb i6 hb1⟩)
  have hBw1 : Below w.heap.size w w1 := hB0.trans (hb1.mono (by omega))
  clear i4 i5 i6 hB0 hb1 hz0
  gi_wp2_with (refine ⟨trivial, ?_⟩; gi_at_call 8; refine (callsIn_wide.2 (HFIL.out w1 hBw1)).mono ?_; rintro e w2 ⟨p, r, Af, cf, rfl, hf, hb2⟩)
  have St : ∀ W, Below w1.heap.size w1 W → Blk W w.heap.size tT #[.int .u64 oa, .int .i64 ob, .int .i64 oc, .int .u8 od, .int .i64 oe, .int .i64 of_] ∧ Boxed W (w.heap.size + 1) 5 (.int .u8 stop) ∧ Boxed W (w.heap.size + 1 + 1) 4 (.bool false) := fun W hW => ⟨HI.out.1.below_ hW HI.out.1.size, bxb HI.out.2.1 hW, bxb HI.out.2.2 hW⟩
  refine ⟨trivial, ?_⟩
  gi_at_call 22
  refine (callsIn_wide.2 (tcopy w2 hf.log (by omega))).mono ?_
  rintro e w3 ⟨pc, rc, rfl, hpc, hlc, hb3⟩
  have hz2 := hb2.size
  have hz3 := hb3.size
  have hb13 : Below w1.heap.size w1 w3 := hb2.trans (hb3.mono hz2)
  have q := (St w3 hb13).1
  have q0 := q.val (i := 0) rfl
  have q1 := q.val (i := 1) rfl
  have q2 := q.val (i := 2) rfl
  have q3 := q.val (i := 3) rfl
  have q4 := q.val (i := 4) rfl
  have q5 := q.val (i := 5) rfl
  have HST := Lib.hid St
  have HF := Lib.hid hf
  have HLC := Lib.hid hlc
  clear q St hf hlc
  gi_wp2
  refine ⟨trivial, ?_⟩
  gi_at_call 23
  refine (callsIn_wide.2 (tadd ⟨oa, ob, oc, od, oe, of_⟩ w3 HLC.out (by omega) hz3)).mono ?_
  rintro e w4 ⟨rfl, rc', hrc, hl4, hk4⟩
  have hb4 := kept_below_log hk4 HLC.out hpc hz3
  have hb24 : Below w2.heap.size w2 w4 := hb3.trans hb4
  have hb14 : Below w1.heap.size w1 w4 := hb2.trans (hb24.mono hz2)
  have hf4 := HF.out.below hb24
  have hz4 := hb24.size
  have HLC4 := Lib.hid hl4
  have HB14 := Lib.hid hb14
  clear HF HLC hrc hl4 hk4 hb4 hb24 hb14 hb13 hb3 hb2 q0 q1 q2 q3 q4 q5
  have HF := Lib.hid hf4
  clear hf4
  gi_wp2
  refine ⟨trivial, ?_⟩
  gi_at_call 18
  refine (callsIn_wide.2 (HF.out.since_ 0 (S := L) rfl)).mono ?_
  rintro e w5 ⟨Ax, cx, rfl, ho5, hb5⟩
  have hti := tick_of ho5
  have hz5 := hb5.size
  have HTI := Lib.hid hti
  have HB5 := Lib.hid hb5
  clear hti ho5 hb5
  gi_wp2
  gi_loopw [32] (fun v wr => ∃ j : Nat, j ≤ L.length ∧ v = .int .i64 (j : Int) ∧ TickAt wr w4.heap.size Ax L.length ∧ Below w4.heap.size w4 wr) (fun v _ => L.length - (intOf v).toNat)
  case atStart => exact ⟨0, Nat.zero_le _, rfl, HTI.out, HB5.out⟩
  case round =>
    obtain ⟨j, hj, rfl, hti, hbr⟩ := hrel
    have hzr := hbr.size
    by_cases hlt : j < L.length
    · obtain ⟨g, rfl, hg, cs, hcs, hx⟩ := hti (by omega)
      obtain ⟨z, hz⟩ := hx j hlt
      have e0 := hcs.val hz
      have f0 := hcs.free (j * 6)
      have HCS := Lib.hid (And.intro hcs hx)
      have HBR := Lib.hid hbr
      obtain ⟨z', hz'⟩ : ∃ z', IntKind.u64.wrap (z + 1) = z' := ⟨_, rfl⟩
      have k0 : (0 : Int) ≤ (j : Int) := by omega
      have k1 : (j : Int) < (L.length : Int) := by omega
      clear hti hcs hx hbr hz
      gi_wp2
      go_roundw
      case rel =>
        refine ⟨j + 1, hlt, by go_num, fun _ => ⟨g, rfl, hg, _, HCS.out.1.set_ (j * 6) (.int .u64 z'), fun i hi => ?_⟩, HBR.out.setCell (p := ⟨g, j * 6, none⟩) hg _⟩
        obtain ⟨y, hy⟩ := HCS.out.2 i hi
        by_cases hij : j * 6 = i * 6
        · rw [← hij] at hy ⊢
          refine ⟨z', get_set_same ?_ _⟩
          rcases Nat.lt_or_ge (j * 6) cs.size with h | h
          · exact h
          · rw [Array.getElem?_eq_none h] at hy; cases hy
        · exact ⟨y, by rw [get_set_far hij]; exact hy⟩
      case measure => simp [intOf]; omega
    · obtain rfl : j = L.length := by omega
      have hf6 := HF.out.below hbr
      have hlc6 := HLC4.out.below hbr
      have hst6 := HST.out wr (HB14.out.trans (hbr.mono (by have := HB14.out.size; omega)))
      have hw6 : Below w.heap.size w wr := hf6.bel
      have HF6 := Lib.hid hf6
      have HLC6 := Lib.hid hlc6
      have HST6 := Lib.hid hst6
      clear hti hbr hf6 hlc6 hst6 HF HLC4 HST HB14 HTI HB5 HI HFIL hlt hj
      gi_wp2
      refine ⟨trivial, ?_⟩
      gi_at_call 21
      obtain ⟨W6, hW6⟩ : ∃ W6, wr.alloc (Obj.cells #[.int .i64 0] 3) = W6 := ⟨_, rfl⟩
      have hbW6 : Below wr.heap.size wr W6 := by rw [← hW6]; exact (Below.refl _ _).alloc (Nat.le_refl _) _
      have hzW6 : W6.heap.size = wr.heap.size + 1 := by rw [← hW6]; simp
      have im6 : Boxed W6 wr.heap.size 3 (.int .i64 ((0 : Nat) : Int)) := by rw [← hW6]; exact Boxed.new _ _ _
      rw [hW6]
      clear hW6
      refine (callsIn_wide.2 (tall_made (some ⟨p, 0, none⟩) 0 W6)).mono ?_
      rintro e W7 ⟨rfl, c0, c1, hb7, hz7⟩
      obtain ⟨k, hk⟩ : ∃ k, W6.heap.size = k := ⟨_, rfl⟩
      rw [hk] at c0 c1 hb7 hz7 hzW6 ⊢
      have im7 : Boxed W7 wr.heap.size 3 (.int .i64 ((0 : Nat) : Int)) := (hb7.block _ (by omega)).trans im6
      have hbr7 : Below wr.heap.size wr W7 := hbW6.trans (hb7.mono (by omega))
      have hlog7 := HF6.out.log.below hbr7
      have hS := its_lt hlog7 (k := k) (by omega)
      obtain ⟨f, hf⟩ : ∃ f : Nat → Bool, ∀ i, f i = whyB 0 (nth L i) := ⟨_, fun _ => rfl⟩
      have hfall : fl f L.length = List.range L.length := by
        unfold fl
        rw [List.filter_eq_self]
        intro i _
        rw [hf]; rfl
      have hN : ¬ ItsT k p r wr.heap.size := fun hi => by
        rcases hi with e | e | e | e
        · omega
        · omega
        · have := HF6.out.log.lt; omega
        · obtain ⟨_, cs, hc⟩ := HF6.out.log.row e; have := hc.size; omega
      have hlo : Lo (ItsT k p r) wr W7 W7 := ⟨Same.refl _ _, Nat.le_refl _, hbr7⟩
      have hseq := tstops W7 (n := 8) (k := k) (why := 0) (fun i _ => hf i) (by omega) (by omega) (by omega) c0 c1 hlog7
      rw [hfall, List.length_range] at hseq
      have HZK := Lib.hid (And.intro hzW6 hz7)
      clear c0 c1 hb7 im6 hbW6 hlog7 hf hfall hzW6 hk hz7
      gi_wp2
      have hzW6 := HZK.out.1
      have hz7 := HZK.out.2
      have HSS := Lib.hid hS
      have HNN := Lib.hid hN
      refine wpIn_range_skip rfl (by omega) (gf := 30) (lb := tlv k) rfl trivial (enters_of Try.func30 (by kernel_rfl) rfl)
        hseq Same.trans (same_put hS) (Below.refl _ _) (fun _ => rfl)
        (fun pre W => Boxed W wr.heap.size 3 (.int .i64 (pre.length : Int)) ∧ pre.length ≤ s ∧ Lo (ItsT k p r) wr W7 W)
        (fun c pre W => c = .exit 2 ∧ Boxed W wr.heap.size 3 (.int .i64 (pre.length : Int)) ∧ pre.length = s + 1 ∧ Lo (ItsT k p r) wr W7 W)
        (fun pre A B row h hg hr => ⟨boxed_stay hg hr h.1, h.2.1, h.2.2.stay hg hr hS (by omega)⟩)
        (fun c pre A B row h hg hr => ⟨h.1, boxed_stay hg hr h.2.1, h.2.2.1, h.2.2.2.stay hg hr hS (by omega)⟩)
        ⟨im7, Nat.zero_le _, hlo⟩ ?body ?done ?stop (fun _ => Same.refl _ _)
      case body =>
        rintro l pre x W hl ⟨im, hps, hlo⟩ hlt
        have i5 := bxb HST6.out.2.1 hlo.below
        have d5 := i5.cell
        have d12 := im.cell
        have f12 := im.frozen
        have ht := HT20.out
        have hw1 : IntKind.i64.wrap (s : Int) = (s : Int) := IntWalk.i64_in _ (by omega)
        have hw2 : IntKind.i64.wrap ((pre.length : Int) + 1) = (pre.length : Int) + 1 := IntWalk.i64_in _ (by omega)
        have HIM := Lib.hid im
        have HLO := Lib.hid hlo
        have hx' : (pre ++ [x]).length = pre.length + 1 := by simp
        have HX' := Lib.hid hx'
        clear im hlo hx' hseq im7 hzW6 hz7
        by_cases hp2 : pre.length + 1 ≤ s
        · have hc : decide ((s : Int) < (pre.length : Int) + 1) = false := decide_eq_false (by omega)
          gi_wp2
          exact ⟨(KeepsOthers.setCell _ _ _).from _, (Same.refl _ _).set HNN.out _, by rw [HX'.out, show ((pre.length + 1 : Nat) : Int) = (pre.length : Int) + 1 from by omega]; exact HIM.out.set _, by rw [HX'.out]; exact hp2, HLO.out.set HNN.out (Nat.le_refl _) _⟩
        · have hc : decide ((s : Int) < (pre.length : Int) + 1) = true := decide_eq_true (by omega)
          gi_wp2
          exact ⟨(KeepsOthers.setCell _ _ _).from _, rfl, by rw [HX'.out, show ((pre.length + 1 : Nat) : Int) = (pre.length : Int) + 1 from by omega]; exact HIM.out.set _, by rw [HX'.out]; omega, HLO.out.set HNN.out (Nat.le_refl _) _⟩
      case done =>
        rintro D ys W hD rfl ⟨im, hps, hlo⟩ hK
        rw [List.length_range] at im hps
        have hmt : min (L.length : Int) ((s : Int) + 1) = (L.length : Int) := by omega
        obtain ⟨mt, hmt2⟩ : ∃ mt : Int, (L.length : Int) = mt := ⟨_, rfl⟩
        have im : Boxed W wr.heap.size 3 (.int .i64 mt) := by rw [← hmt2]; exact im
        have hmt3 : min (L.length : Int) ((s : Int) + 1) = mt := hmt.trans hmt2
        clear hmt hmt2 hps
        obtain ⟨L2, hL2⟩ : ∃ L2, L ++ [(⟨oa, ob, oc, od, oe, of_⟩ : Oc)] = L2 := ⟨_, rfl⟩
        have hL2l : ((L2.length : Nat) : Int) = (L.length : Int) + 1 := by rw [← hL2, List.length_append]; simp
        have hbW := hlo.below
        have hap : Ap w w1.heap.size w2.heap.size W p r Af cf L pc rc' L2 wr.heap.size mt (w.heap.size + 1) stop (w.heap.size + 1 + 1) := ⟨HF6.out.below hbW, by rw [← hL2]; exact HLC6.out.below hbW, im, bxb HST6.out.2.1 hbW, bxb HST6.out.2.2 hbW⟩
        have q := HST6.out.1.below_ hbW HST6.out.1.size
        have q0 := q.val (i := 0) rfl
        have q1 := q.val (i := 1) rfl
        have q2 := q.val (i := 2) rfl
        have q3 := q.val (i := 3) rfl
        have q4 := q.val (i := 4) rfl
        have q5 := q.val (i := 5) rfl
        have HAP := Lib.hid hap
        have HK := Lib.hid hK
        have HL2L := Lib.hid hL2l
        have hDW := obj_lt hK
        have hDw : w.heap.size ≤ D := by have := hw6.size; omega
        clear q hap hK hL2 hL2l hlo im hbW hseq im7 hzW6 hz7 hS hN hD HZK HNN HSS HF6 HLC6 HST6
        gi_wp2
        refine ⟨trivial, ?_⟩
        gi_at_call 23
        refine (callsIn_wide.2 (tadd_nil ⟨oa, ob, oc, od, oe, of_⟩ W)).mono ?_
        rintro e w8 ⟨rfl, hb8⟩
        clear q0 q1 q2 q3 q4 q5
        gi_wp2
        refine ⟨trivial, ?_⟩
        gi_at_call 21
        refine (callsIn_wide.2 (tall_made none 0 w8)).mono ?_
        rintro e w9 ⟨rfl, c0, c1, hb9, hz9⟩
        have hb89 : Below W.heap.size W w9 := hb8.trans (hb9.mono hb8.size)
        obtain ⟨k2, hk2⟩ : ∃ k2, w8.heap.size = k2 := ⟨_, rfl⟩
        rw [hk2] at c0 hz9 ⊢
        have hseq2 := tstops_nil (L := L) w9 (n := 8) (k := k2) (Kp := Same NoS) (by omega) (by omega) c0
        have hlo9 : Lo NoS W w9 w9 := ⟨Same.refl _ _, Nat.le_refl _, hb89⟩
        have HZ9 := Lib.hid hb89.size
        clear c0 c1 hb9 hb8 hb89 hz9 hk2
        gi_wp2
        refine wpIn_range_skip rfl (by omega) (gf := 30) (lb := tlv k2) rfl trivial (enters_of Try.func30 (by kernel_rfl) rfl)
          hseq2 Same.trans (same_put (noS_lt _)) (Below.refl _ _) (fun _ => rfl)
          (fun pre W' => Lo NoS W w9 W') (fun _ _ _ => False)
          (fun pre A B row h hg hr => h.stay hg hr (noS_lt _) HZ9.out)
          (fun _ _ _ _ _ hs _ _ => hs) hlo9 ?body2 ?done2 ?stop2 (fun _ => Same.refl _ _)
        case body2 =>
          intro l pre x W' hl hI hlt
          exact absurd hlt (Nat.not_lt_zero _)
        case stop2 =>
          rintro D2 c pre W' hD2 hpre hF hK2
          exact hF.elim
        case done2 =>
          rintro D2 ys W' hD2 rfl hlo2 hK2
          have hap2 := HAP.out.below hlo2.below
          have hk3 := obj_below HK.out hlo2.below
          have hdd : D ≠ D2 := by have := HZ9.out; omega
          clear HAP HK
          have HAP := Lib.hid hap2
          have HK1 := Lib.hid hk3
          have HK2 := Lib.hid hK2
          have d12 := hap2.met.cell
          have d5 := hap2.five.cell
          have d6 := hap2.six.cell
          have f6 := hap2.six.frozen
          have ht := HT20.out
          have hw1 : IntKind.i64.wrap (s : Int) = (s : Int) := IntWalk.i64_in _ (by omega)
          have hw2 : IntKind.i64.wrap ((s : Int) + 1) = (s : Int) + 1 := IntWalk.i64_in _ (by omega)
          have hw3 : IntKind.i64.wrap ((L.length : Int) + 1) = (L.length : Int) + 1 := IntWalk.i64_in _ (by omega)
          have hl1000 : L.length ≤ 1000 := by omega
          clear hap2 hk3 hK2 hlo2 hseq2 hlo9
          gi_wp2_with (first | (refine ⟨trivial, ?_⟩; gi_at_call 10; (with_reducible refine (callsIn_wide.2 (tlongest_nil (-1) _)).mono ?_); rintro e wx ⟨rfl, hbx⟩; have hapx := HAP.out.below hbx; have hk1x := obj_below HK1.out hbx; have hk2x := obj_below HK2.out hbx; clear HAP HK1 HK2 d12 d5 d6 f6; have HAP := Lib.hid hapx; have HK1 := Lib.hid hk1x; have HK2 := Lib.hid hk2x; have d12 := hapx.met.cell; have d5 := hapx.five.cell; have d6 := hapx.six.cell; have f6 := hapx.six.frozen; clear hapx hk1x hk2x hbx) | (refine ⟨trivial, ?_⟩; gi_at_call 11; (with_reducible refine (callsIn_wide.2 HAP.out.fil.len_).mono ?_); rintro e wx ⟨rfl, rfl⟩; skip) | (refine ⟨trivial, ?_⟩; gi_at_call 11; (with_reducible refine (callsIn_wide.2 (tlen _ HAP.out.cpy)).mono ?_); rintro e wx ⟨rfl, rfl⟩; rw [HL2L.out]) | (refine ⟨trivial, ?_⟩; gi_at_call 18; (with_reducible refine (callsIn_wide.2 (HAP.out.fil.since_ (-1) (S := L) rfl)).mono ?_); rintro e wx ⟨Ax2, cx2, rfl, hox, hbx⟩; have HT1 := Lib.hid hox; clear hox; have hapx := HAP.out.below hbx; have hk1x := obj_below HK1.out hbx; have hk2x := obj_below HK2.out hbx; clear HAP HK1 HK2 d12 d5 d6 f6; have HAP := Lib.hid hapx; have HK1 := Lib.hid hk1x; have HK2 := Lib.hid hk2x; have d12 := hapx.met.cell; have d5 := hapx.five.cell; have d6 := hapx.six.cell; have f6 := hapx.six.frozen; clear hapx hk1x hk2x hbx) | (refine ⟨trivial, ?_⟩; gi_at_call 17; (with_reducible refine (callsIn_wide.2 (own_ HT1.out hl1000)).mono ?_); rintro e wx ⟨Ax3, cx3, rfl, hox, hbx⟩; clear HT1; have HR1 := Lib.hid hox; clear hox; have hapx := HAP.out.below hbx; have hk1x := obj_below HK1.out hbx; have hk2x := obj_below HK2.out hbx; clear HAP HK1 HK2 d12 d5 d6 f6; have HAP := Lib.hid hapx; have HK1 := Lib.hid hk1x; have HK2 := Lib.hid hk2x; have d12 := hapx.met.cell; have d5 := hapx.five.cell; have d6 := hapx.six.cell; have f6 := hapx.six.frozen; clear hapx hk1x hk2x hbx) | (refine ⟨trivial, ?_⟩; gi_at_call 16; (with_reducible refine (callsIn_wide.2 (same_ HR1.out HAP.out.fil.row hl1000)).mono ?_); rintro e wx ⟨rfl, hbx⟩; clear HR1; have hapx := HAP.out.below hbx; have hk1x := obj_below HK1.out hbx; have hk2x := obj_below HK2.out hbx; clear HAP HK1 HK2 d12 d5 d6 f6; have HAP := Lib.hid hapx; have HK1 := Lib.hid hk1x; have HK2 := Lib.hid hk2x; have d12 := hapx.met.cell; have d5 := hapx.five.cell; have d6 := hapx.six.cell; have f6 := hapx.six.frozen; clear hapx hk1x hk2x hbx) | (refine ⟨trivial, ?_⟩; gi_at_call 11; (with_reducible refine (callsIn_wide.2 (tlen_nil _)).mono ?_); rintro e wx ⟨rfl, rfl⟩; skip) | (refine ⟨trivial, ?_⟩; gi_at_call 12; (with_reducible refine (callsIn_wide.2 (tcount_nil (-1) 0 _)).mono ?_); rintro e wx ⟨rfl, hbx⟩; have hapx := HAP.out.below hbx; have hk1x := obj_below HK1.out hbx; have hk2x := obj_below HK2.out hbx; clear HAP HK1 HK2 d12 d5 d6 f6; have HAP := Lib.hid hapx; have HK1 := Lib.hid hk1x; have HK2 := Lib.hid hk2x; have d12 := hapx.met.cell; have d5 := hapx.five.cell; have d6 := hapx.six.cell; have f6 := hapx.six.frozen; clear hapx hk1x hk2x hbx) | (refine ⟨trivial, ?_⟩; gi_at_call 18; (with_reducible refine (callsIn_wide.2 (tsince_nil 0 _)).mono ?_); rintro e wx ⟨rfl, rfl⟩; skip) | (refine ⟨trivial, ?_⟩; gi_at_call 14; (with_reducible refine (callsIn_wide.2 (tspread_nil (-1) _)).mono ?_); rintro e wx ⟨rfl, hbx⟩; have hapx := HAP.out.below hbx; have hk1x := obj_below HK1.out hbx; have hk2x := obj_below HK2.out hbx; clear HAP HK1 HK2 d12 d5 d6 f6; have HAP := Lib.hid hapx; have HK1 := Lib.hid hk1x; have HK2 := Lib.hid hk2x; have d12 := hapx.met.cell; have d5 := hapx.five.cell; have d6 := hapx.six.cell; have f6 := hapx.six.frozen; clear hapx hk1x hk2x hbx) | (refine ⟨trivial, ?_⟩; gi_at_call 22; (with_reducible refine (callsIn_wide.2 (tcopy_nil _)).mono ?_); rintro e wx ⟨rfl, rfl⟩; skip))
          have hK2' := (KeepsOthers.setCell wx ⟨w.heap.size + 1 + 1, 0, none⟩ (.bool true)).same D2 _ HK2.out rfl
          have hK1' := (KeepsOthers.setCell wx ⟨w.heap.size + 1 + 1, 0, none⟩ (.bool true)).same D _ HK1.out rfl
          have hcc : (wx.setCell ⟨w.heap.size + 1 + 1, 0, none⟩ (.bool true)).cell? ⟨w.heap.size + 1 + 1, 0, none⟩ = some (.bool true) := World.cell?_setCell_same' wx ⟨w.heap.size + 1 + 1, 0, none⟩ (.bool true) (by rw [HAP.out.six.cell]; rfl)
          have hc2 := cell_kept hcc (grownBy_putObj' _ D2 (.deferred none)) (fun r e => by cases e; exact ⟨_, hK2', rfl⟩)
          have hK1'' : ((wx.setCell ⟨w.heap.size + 1 + 1, 0, none⟩ (.bool true)).putObj D2 (.deferred none)).heap[D]? = some (.deferred (some [])) := (World.putObj_heap_other (by omega)).trans hK1'
          have hc3 := cell_kept hc2 (grownBy_putObj' _ D (.deferred none)) (fun r e => by cases e; exact ⟨_, hK1'', rfl⟩)
          have hbel : Below w.heap.size w (wx.setCell ⟨w.heap.size + 1 + 1, 0, none⟩ (.bool true)) := HAP.out.fil.bel.setCell (p := ⟨w.heap.size + 1 + 1, 0, none⟩) (by show w.heap.size ≤ w.heap.size + 1 + 1; omega) _
          refine ⟨by simp, .inl ⟨_, _, rfl, run_takeDeferred hK2', ⟨by simp, .inl ⟨_, _, rfl, run_takeDeferred hK1'', ?_⟩⟩⟩⟩
          refine ⟨.bool true, ?_, rfl, (hbel.trans (belowK_b (w := w) (Nat.le_refl _) _ D2 _ _ (by have := HZ9.out; omega) hK2' rfl rfl)).trans (belowK_b (w := w) (Nat.le_refl _) _ D _ _ hDw hK1'' rfl rfl)⟩
          simp [results, Try.f5, go_sem, hc3]
      case stop =>
        rintro D c pre W hD hpre ⟨rfl, im, hps, hlo⟩ hK
        have hpl := hpre.length_le
        rw [List.length_range, hps] at hpl
        rw [hps] at im
        have hmt : min (L.length : Int) ((s : Int) + 1) = (((s + 1 : Nat)) : Int) := by omega
        obtain ⟨mt, hmt2⟩ : ∃ mt : Int, (((s + 1 : Nat)) : Int) = mt := ⟨_, rfl⟩
        have im : Boxed W wr.heap.size 3 (.int .i64 mt) := by rw [← hmt2]; exact im
        have hmt3 : min (L.length : Int) ((s : Int) + 1) = mt := hmt.trans hmt2
        clear hmt hmt2 hps hpl hpre
        obtain ⟨L2, hL2⟩ : ∃ L2, L ++ [(⟨oa, ob, oc, od, oe, of_⟩ : Oc)] = L2 := ⟨_, rfl⟩
        have hL2l : ((L2.length : Nat) : Int) = (L.length : Int) + 1 := by rw [← hL2, List.length_append]; simp
        have hbW := hlo.below
        have hap : Ap w w1.heap.size w2.heap.size W p r Af cf L pc rc' L2 wr.heap.size mt (w.heap.size + 1) stop (w.heap.size + 1 + 1) := ⟨HF6.out.below hbW, by rw [← hL2]; exact HLC6.out.below hbW, im, bxb HST6.out.2.1 hbW, bxb HST6.out.2.2 hbW⟩
        have q := HST6.out.1.below_ hbW HST6.out.1.size
        have q0 := q.val (i := 0) rfl
        have q1 := q.val (i := 1) rfl
        have q2 := q.val (i := 2) rfl
        have q3 := q.val (i := 3) rfl
        have q4 := q.val (i := 4) rfl
        have q5 := q.val (i := 5) rfl
        have HAP := Lib.hid hap
        have HK := Lib.hid hK
        have HL2L := Lib.hid hL2l
        have hDW := obj_lt hK
        have hDw : w.heap.size ≤ D := by have := hw6.size; omega
        clear q hap hK hL2 hL2l hlo im hbW hseq im7 hzW6 hz7 hS hN hD HZK HNN HSS HF6 HLC6 HST6
        gi_wp2
        refine ⟨trivial, ?_⟩
        gi_at_call 23
        refine (callsIn_wide.2 (tadd_nil ⟨oa, ob, oc, od, oe, of_⟩ W)).mono ?_
        rintro e w8 ⟨rfl, hb8⟩
        clear q0 q1 q2 q3 q4 q5
        gi_wp2
        refine ⟨trivial, ?_⟩
        gi_at_call 21
        refine (callsIn_wide.2 (tall_made none 0 w8)).mono ?_
        rintro e w9 ⟨rfl, c0, c1, hb9, hz9⟩
        have hb89 : Below W.heap.size W w9 := hb8.trans (hb9.mono hb8.size)
        obtain ⟨k2, hk2⟩ : ∃ k2, w8.heap.size = k2 := ⟨_, rfl⟩
        rw [hk2] at c0 hz9 ⊢
        have hseq2 := tstops_nil (L := L) w9 (n := 8) (k := k2) (Kp := Same NoS) (by omega) (by omega) c0
        have hlo9 : Lo NoS W w9 w9 := ⟨Same.refl _ _, Nat.le_refl _, hb89⟩
        have HZ9 := Lib.hid hb89.size
        clear c0 c1 hb9 hb8 hb89 hz9 hk2
        gi_wp2
        refine wpIn_range_skip rfl (by omega) (gf := 30) (lb := tlv k2) rfl trivial (enters_of Try.func30 (by kernel_rfl) rfl)
          hseq2 Same.trans (same_put (noS_lt _)) (Below.refl _ _) (fun _ => rfl)
          (fun pre W' => Lo NoS W w9 W') (fun _ _ _ => False)
          (fun pre A B row h hg hr => h.stay hg hr (noS_lt _) HZ9.out)
          (fun _ _ _ _ _ hs _ _ => hs) hlo9 ?body2 ?done2 ?stop2 (fun _ => Same.refl _ _)
        case body2 =>
          intro l pre x W' hl hI hlt
          exact absurd hlt (Nat.not_lt_zero _)
        case stop2 =>
          rintro D2 c pre W' hD2 hpre hF hK2
          exact hF.elim
        case done2 =>
          rintro D2 ys W' hD2 rfl hlo2 hK2
          have hap2 := HAP.out.below hlo2.below
          have hk3 := obj_below HK.out hlo2.below
          have hdd : D ≠ D2 := by have := HZ9.out; omega
          clear HAP HK
          have HAP := Lib.hid hap2
          have HK1 := Lib.hid hk3
          have HK2 := Lib.hid hK2
          have d12 := hap2.met.cell
          have d5 := hap2.five.cell
          have d6 := hap2.six.cell
          have f6 := hap2.six.frozen
          have ht := HT20.out
          have hw1 : IntKind.i64.wrap (s : Int) = (s : Int) := IntWalk.i64_in _ (by omega)
          have hw2 : IntKind.i64.wrap ((s : Int) + 1) = (s : Int) + 1 := IntWalk.i64_in _ (by omega)
          have hw3 : IntKind.i64.wrap ((L.length : Int) + 1) = (L.length : Int) + 1 := IntWalk.i64_in _ (by omega)
          have hl1000 : L.length ≤ 1000 := by omega
          clear hap2 hk3 hK2 hlo2 hseq2 hlo9
          gi_wp2_with (first | (refine ⟨trivial, ?_⟩; gi_at_call 10; (with_reducible refine (callsIn_wide.2 (tlongest_nil (-1) _)).mono ?_); rintro e wx ⟨rfl, hbx⟩; have hapx := HAP.out.below hbx; have hk1x := obj_below HK1.out hbx; have hk2x := obj_below HK2.out hbx; clear HAP HK1 HK2 d12 d5 d6 f6; have HAP := Lib.hid hapx; have HK1 := Lib.hid hk1x; have HK2 := Lib.hid hk2x; have d12 := hapx.met.cell; have d5 := hapx.five.cell; have d6 := hapx.six.cell; have f6 := hapx.six.frozen; clear hapx hk1x hk2x hbx) | (refine ⟨trivial, ?_⟩; gi_at_call 11; (with_reducible refine (callsIn_wide.2 HAP.out.fil.len_).mono ?_); rintro e wx ⟨rfl, rfl⟩; skip) | (refine ⟨trivial, ?_⟩; gi_at_call 11; (with_reducible refine (callsIn_wide.2 (tlen _ HAP.out.cpy)).mono ?_); rintro e wx ⟨rfl, rfl⟩; rw [HL2L.out]) | (refine ⟨trivial, ?_⟩; gi_at_call 18; (with_reducible refine (callsIn_wide.2 (HAP.out.fil.since_ (-1) (S := L) rfl)).mono ?_); rintro e wx ⟨Ax2, cx2, rfl, hox, hbx⟩; have HT1 := Lib.hid hox; clear hox; have hapx := HAP.out.below hbx; have hk1x := obj_below HK1.out hbx; have hk2x := obj_below HK2.out hbx; clear HAP HK1 HK2 d12 d5 d6 f6; have HAP := Lib.hid hapx; have HK1 := Lib.hid hk1x; have HK2 := Lib.hid hk2x; have d12 := hapx.met.cell; have d5 := hapx.five.cell; have d6 := hapx.six.cell; have f6 := hapx.six.frozen; clear hapx hk1x hk2x hbx) | (refine ⟨trivial, ?_⟩; gi_at_call 17; (with_reducible refine (callsIn_wide.2 (own_ HT1.out hl1000)).mono ?_); rintro e wx ⟨Ax3, cx3, rfl, hox, hbx⟩; clear HT1; have HR1 := Lib.hid hox; clear hox; have hapx := HAP.out.below hbx; have hk1x := obj_below HK1.out hbx; have hk2x := obj_below HK2.out hbx; clear HAP HK1 HK2 d12 d5 d6 f6; have HAP := Lib.hid hapx; have HK1 := Lib.hid hk1x; have HK2 := Lib.hid hk2x; have d12 := hapx.met.cell; have d5 := hapx.five.cell; have d6 := hapx.six.cell; have f6 := hapx.six.frozen; clear hapx hk1x hk2x hbx) | (refine ⟨trivial, ?_⟩; gi_at_call 16; (with_reducible refine (callsIn_wide.2 (same_ HR1.out HAP.out.fil.row hl1000)).mono ?_); rintro e wx ⟨rfl, hbx⟩; clear HR1; have hapx := HAP.out.below hbx; have hk1x := obj_below HK1.out hbx; have hk2x := obj_below HK2.out hbx; clear HAP HK1 HK2 d12 d5 d6 f6; have HAP := Lib.hid hapx; have HK1 := Lib.hid hk1x; have HK2 := Lib.hid hk2x; have d12 := hapx.met.cell; have d5 := hapx.five.cell; have d6 := hapx.six.cell; have f6 := hapx.six.frozen; clear hapx hk1x hk2x hbx) | (refine ⟨trivial, ?_⟩; gi_at_call 11; (with_reducible refine (callsIn_wide.2 (tlen_nil _)).mono ?_); rintro e wx ⟨rfl, rfl⟩; skip) | (refine ⟨trivial, ?_⟩; gi_at_call 12; (with_reducible refine (callsIn_wide.2 (tcount_nil (-1) 0 _)).mono ?_); rintro e wx ⟨rfl, hbx⟩; have hapx := HAP.out.below hbx; have hk1x := obj_below HK1.out hbx; have hk2x := obj_below HK2.out hbx; clear HAP HK1 HK2 d12 d5 d6 f6; have HAP := Lib.hid hapx; have HK1 := Lib.hid hk1x; have HK2 := Lib.hid hk2x; have d12 := hapx.met.cell; have d5 := hapx.five.cell; have d6 := hapx.six.cell; have f6 := hapx.six.frozen; clear hapx hk1x hk2x hbx) | (refine ⟨trivial, ?_⟩; gi_at_call 18; (with_reducible refine (callsIn_wide.2 (tsince_nil 0 _)).mono ?_); rintro e wx ⟨rfl, rfl⟩; skip) | (refine ⟨trivial, ?_⟩; gi_at_call 14; (with_reducible refine (callsIn_wide.2 (tspread_nil (-1) _)).mono ?_); rintro e wx ⟨rfl, hbx⟩; have hapx := HAP.out.below hbx; have hk1x := obj_below HK1.out hbx; have hk2x := obj_below HK2.out hbx; clear HAP HK1 HK2 d12 d5 d6 f6; have HAP := Lib.hid hapx; have HK1 := Lib.hid hk1x; have HK2 := Lib.hid hk2x; have d12 := hapx.met.cell; have d5 := hapx.five.cell; have d6 := hapx.six.cell; have f6 := hapx.six.frozen; clear hapx hk1x hk2x hbx) | (refine ⟨trivial, ?_⟩; gi_at_call 22; (with_reducible refine (callsIn_wide.2 (tcopy_nil _)).mono ?_); rintro e wx ⟨rfl, rfl⟩; skip))
          have hK2' := (KeepsOthers.setCell wx ⟨w.heap.size + 1 + 1, 0, none⟩ (.bool true)).same D2 _ HK2.out rfl
          have hK1' := (KeepsOthers.setCell wx ⟨w.heap.size + 1 + 1, 0, none⟩ (.bool true)).same D _ HK1.out rfl
          have hcc : (wx.setCell ⟨w.heap.size + 1 + 1, 0, none⟩ (.bool true)).cell? ⟨w.heap.size + 1 + 1, 0, none⟩ = some (.bool true) := World.cell?_setCell_same' wx ⟨w.heap.size + 1 + 1, 0, none⟩ (.bool true) (by rw [HAP.out.six.cell]; rfl)
          have hc2 := cell_kept hcc (grownBy_putObj' _ D2 (.deferred none)) (fun r e => by cases e; exact ⟨_, hK2', rfl⟩)
          have hK1'' : ((wx.setCell ⟨w.heap.size + 1 + 1, 0, none⟩ (.bool true)).putObj D2 (.deferred none)).heap[D]? = some (.deferred (some [])) := (World.putObj_heap_other (by omega)).trans hK1'
          have hc3 := cell_kept hc2 (grownBy_putObj' _ D (.deferred none)) (fun r e => by cases e; exact ⟨_, hK1'', rfl⟩)
          have hbel : Below w.heap.size w (wx.setCell ⟨w.heap.size + 1 + 1, 0, none⟩ (.bool true)) := HAP.out.fil.bel.setCell (p := ⟨w.heap.size + 1 + 1, 0, none⟩) (by show w.heap.size ≤ w.heap.size + 1 + 1; omega) _
          refine ⟨by simp, .inl ⟨_, _, rfl, run_takeDeferred hK2', ⟨by simp, .inl ⟨_, _, rfl, run_takeDeferred hK1'', ?_⟩⟩⟩⟩
          refine ⟨.bool true, ?_, rfl, (hbel.trans (belowK_b (w := w) (Nat.le_refl _) _ D2 _ _ (by have := HZ9.out; omega) hK2' rfl rfl)).trans (belowK_b (w := w) (Nat.le_refl _) _ D _ _ hDw hK1'' rfl rfl)⟩
          simp [results, Try.f5, go_sem, hc3]
set_option maxRecDepth 100000 in
theorem lifted (os : Os) (started : os.Started) (H : Type) (enc : TypeId × Value → H) :
    ReturnsInHanded {} Try.checked os 5 .any (Rows.tallyApartSpec.pre6 enc Try.prog Try.f5 Rows.tallyApartRow.domain false) (Rows.tallyApartSpec.post enc Try.prog Try.f5 false true false false) := by
  refine returnsInHanded_of_change (C := Try.checked) own started (by kernel_rfl) Try.func5
    (ChangeSpec.witness6 (enc := enc) (C := Try.checked) false ⟨#[], #[.slice none 0 0, .agg #[.int .u64 0, .int .i64 0, .int .i64 0, .int .u8 0, .int .i64 0, .int .i64 0], .int .u8 0], []⟩ 8 (by kernel_rfl) (by kernel_rfl) (by kernel_rfl) (by kernel_rfl)) ?_
  intro W base args ds gs before hval0 hW hcnd _
  have hval : ∀ (j : Nat) t v, Try.f5.params[j]? = some t → args[j]? = some v → Value.okWide Try.prog W .any base t v := hval0
  have hW' := hW
  obtain ⟨p, q, hA0, hV, rfl, hfz, hnd⟩ := hW
  have hA : DataW.TrodAll enc Try.prog W 0 (fun _ => true) true Try.f5.params.toList args.toList ds p := hA0
  rw [Try.params5] at hA hval
  obtain ⟨v0, vs0, d0, ds0, p0, q0, hargs, rfl, rfl, h0, r0⟩ := trodAll_cons hA
  obtain ⟨v1, vs1, d1, ds1, p1, q1, rfl, rfl, rfl, h1, r1⟩ := trodAll_cons r0
  obtain ⟨v2, vs2, d2, ds2, p2, q2, rfl, rfl, rfl, h2, r2⟩ := trodAll_cons r1
  obtain ⟨rfl, rfl, rfl⟩ := trodAll_nil r2
  obtain rfl : args = #[v0, v1, v2] := by cases args; simp_all
  obtain ⟨rfl, rfl⟩ := trodVars_none hV
  obtain ⟨A0, len0, cap0, rfl⟩ := okWide_slice Try.underlying22 (hval 0 _ v0 rfl rfl)
  obtain ⟨fu0, g0⟩ := h0
  obtain ⟨s0, t0, Q0, u0, o0⟩ := open_ocs g0
  obtain ⟨x10, x11, x12, x13, x14, x15, y10, y11, y12, y13, y14, y15, n1, rfl, g10, g11, g12, g13, g14, g15⟩ := open_six Try.underlying45 (by kernel_rfl) (by kernel_rfl) (hval 1 _ v1 rfl rfl) h1
  obtain ⟨a10, e10, ez10, w10⟩ := DataW.trod_int Try.underlying31 g10
  simp at e10
  subst e10
  obtain ⟨a11, e11, ez11, w11⟩ := DataW.trod_int Try.underlying3 g11
  simp at e11
  subst e11
  obtain ⟨a12, e12, ez12, w12⟩ := DataW.trod_int Try.underlying3 g12
  simp at e12
  subst e12
  obtain ⟨a13, e13, ez13, w13⟩ := DataW.trod_int Try.underlying5 g13
  simp at e13
  subst e13
  obtain ⟨a14, e14, ez14, w14⟩ := DataW.trod_int Try.underlying2 g14
  simp at e14
  subst e14
  obtain ⟨a15, e15, ez15, w15⟩ := DataW.trod_int Try.underlying2 g15
  simp at e15
  subst e15
  obtain ⟨a2, rfl, rfl, rfl, w2⟩ := open_int Try.underlying5 (hval 2 _ v2 rfl rfl) h2
  clear hA0 hval0
  obtain ⟨l10, m10⟩ := wf_u64 w10
  obtain ⟨l11, m11⟩ := wf_i64 w11
  obtain ⟨l12, m12⟩ := wf_i64 w12
  obtain ⟨l13, m13⟩ := wf_u8 w13
  obtain ⟨l14, m14⟩ := wf_i64 w14
  obtain ⟨l15, m15⟩ := wf_i64 w15
  obtain ⟨l2, m2⟩ := wf_u8 w2
  refine (walk A0 len0 cap0 Q0 a10 a11 a12 a13 a14 a15 a2 W s0 t0 u0 o0 l10 m10 l11 m11 l12 m12 l13 m13 l14 m14 l15 m15 l2 m2).mono fun e W' ⟨he, hg⟩ => ?_
  subst he
  exact ⟨_, rfl, post_of_law hW' rfl laidOut reads rfl Try.underlying4 rfl rfl rfl hg⟩
theorem over : Rows.tallyApartRow.holds Try.pinned (OpenSpec.ofChange Rows.tallyApartSpec) :=
  OpenClaim.holds_of_wide 5 Try.f5 rfl rfl rfl rfl rfl rfl rfl ⟨rfl, rfl, rfl, rfl, rfl⟩ rfl rfl rfl rfl rfl (by kernel_rfl) Try.func5 (by kernel_rfl)
    (of_decide_eq_true (by kernel_rfl)) (by unfold Func.isWrapper; first | (rw [if_pos (by decide +kernel)]; kernel_rfl) | (rw [if_neg (by decide +kernel)]; exact ⟨rfl, rfl⟩))
    (fun os started H enc _ => lifted os started H enc)
theorem proved : Rows.TallyApartSaid := over
end Go.Proofs.Ytidkemgibehpcaa.tallyApart
