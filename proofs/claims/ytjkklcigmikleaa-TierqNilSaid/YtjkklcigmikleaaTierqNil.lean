/- TierqNil is true of all numbers of tiers and rooms, every handle and every request, and changes nothing that it was given. -/
import Derived.Test.YtjkklcigmikleaaTqx
import Derived.Test.YtjkklcigmikleaaHelpc
import Derived.Test.YtjkklcigmikleaaAny
import Derived.Test.YtjkklcigmikleaaRowb
import Derived.Test.YtjkklcigmikleaaRows
import Derived.WalkKit
import Derived.ProofKit
import Derived.OpenShut
import Derived.Deep.DeepCutAuto
import Derived.Sort.BigQuietIn
import Derived.Sort.QuietTacIn
import Derived.Sort.CutIn
namespace Go.Proofs.Ytjkklcigmikleaa.tierqNil
open Go.ChangeShapes Go.WideShapes Go.ChangeAt Go.RowKit
set_option linter.unusedVariables false
theorem own : ownKnob Try.prog.godebug = none := by kernel_rfl
theorem laidOut : laidOutB Try.prog = true := by kernel_rfl
theorem reads : (Try.f4.params.toList.all fun t => Try.prog.readableRec t && decide (t < Try.prog.types.size)) = true := by kernel_rfl
attribute [local go_sem] Oper.semAt_some
abbrev L3 (B : Nat) (a b k d e stop : Int) (r : Bool) : List Bx1 := [(B, 33, [.int .u64 a, .int .i64 b, .int .i64 k, .int .i64 d, .int .i64 e]), (B + 1, 5, [.int .u8 stop]), (B + 1 + 1, 4, [.bool r])]
set_option maxRecDepth 100000 in
set_option maxHeartbeats 8000000 in
theorem walk (tiers room h a b k d e stop : Int) (w : World) (n0 : -9223372036854775808 ≤ tiers) (n1 : tiers ≤ 9223372036854775807) (m0 : -9223372036854775808 ≤ room) (m1 : room ≤ 9223372036854775807) (h0 : 0 ≤ h) (h1 : h ≤ 18446744073709551615)
    (a0 : 0 ≤ a) (a1 : a ≤ 18446744073709551615) (b0 : -9223372036854775808 ≤ b) (b1 : b ≤ 9223372036854775807) (c0 : -9223372036854775808 ≤ k) (c1 : k ≤ 9223372036854775807) (d0 : -9223372036854775808 ≤ d) (d1 : d ≤ 9223372036854775807) (e0 : -9223372036854775808 ≤ e) (e1 : e ≤ 9223372036854775807) (z0 : 0 ≤ stop) (z1 : stop ≤ 255) :
    Calls Try.prog 4 #[.int .i64 tiers, .int .i64 room, .int .u64 h, .agg #[.int .u64 a, .int .i64 b, .int .i64 k, .int .i64 d, .int .i64 e], .int .u8 stop] w fun x w' => x = .returned (.bool true) ∧ Below w.heap.size w w' := by
  refine (callsIn_wide (n := 9)).1 ?_
  refine callsIn_of_wp_marks Try.func4 rfl trivial ?_ rfl
  simp only [Try.ntmps4, List.size_toArray, List.length_cons, List.length_nil, Nat.reduceAdd, Nat.reduceSub, Array.replicate_succ, Array.replicate_zero, List.push_toArray, List.append_toArray, List.nil_append, List.cons_append]
  have HE := Lib.hid (And.intro (And.intro n0 n1) (And.intro m0 m1))
  clear n0 n1 m0 m1 h0 h1 a0 a1 b0 b1 c0 c1 d0 d1 e0 e1
  gi_wp2
  refine ⟨trivial, ?_⟩
  gi_at_call 5
  obtain ⟨W0, hW0⟩ : ∃ W0, ((w.alloc (Obj.cells #[.int .u64 a, .int .i64 b, .int .i64 k, .int .i64 d, .int .i64 e] 33)).alloc (Obj.cells #[.int .u8 stop] 5)).alloc (Obj.cells #[.bool false] 4) = W0 := ⟨_, rfl⟩
  have bx : Bxs w W0 (L3 w.heap.size a b k d e stop false) := by rw [← hW0]; exact (((Bxs.nil_ w).alloc_ _ _ rfl).alloc_ _ _ (by simp)).alloc_ _ _ (by simp)
  rw [hW0]
  clear hW0
  refine (callsIn_wide.2 (awake9 _)).mono ?_
  rintro x w1 ⟨rfl, hb1⟩
  replace bx := bx.below hb1
  have HB := Lib.hid bx
  clear bx hb1
  gi_wp2
  refine ⟨trivial, ?_⟩
  gi_at_call 6
  refine (callsIn_wide.2 (tqnew_any _ _ _ HE.out.1.1 HE.out.1.2 HE.out.2.1 HE.out.2.2)).mono ?_
  obtain ⟨er, her⟩ : ∃ er : Int, (if Fit tiers room then (0 : Int) else 1) = er := ⟨_, rfl⟩
  rw [her]
  rintro x w2 ⟨⟨o, rfl, hqo⟩, hb2⟩
  have HQO := Lib.hid (And.intro her hqo)
  clear her
  have bx := HB.out.below hb2
  clear HB hb2 hqo
  have HB := Lib.hid bx
  have f0 := (bx.bl 0 _ _ _ rfl).val (i := 0) rfl
  have f1 := (bx.bl 0 _ _ _ rfl).val (i := 1) rfl
  have f2 := (bx.bl 0 _ _ _ rfl).val (i := 2) rfl
  have f3 := (bx.bl 0 _ _ _ rfl).val (i := 3) rfl
  have f4 := (bx.bl 0 _ _ _ rfl).val (i := 4) rfl
  clear bx
  gi_wp2
  refine ⟨trivial, ?_⟩
  gi_at_call 8
  refine (callsIn_wide.2 (tput_nil a b k d e _)).mono ?_
  rintro x wx ⟨rfl, hbx⟩
  have bx := HB.out.below (hbx)
  clear HB hbx f0 f1 f2 f3 f4
  have HB := Lib.hid bx
  have f0 := (bx.bl 0 _ _ _ rfl).val (i := 0) rfl
  have f1 := (bx.bl 0 _ _ _ rfl).val (i := 1) rfl
  have f2 := (bx.bl 0 _ _ _ rfl).val (i := 2) rfl
  have f3 := (bx.bl 0 _ _ _ rfl).val (i := 3) rfl
  have f4 := (bx.bl 0 _ _ _ rfl).val (i := 4) rfl
  clear bx
  gi_wp2
  refine ⟨trivial, ?_⟩
  gi_at_call 10
  refine (callsIn_wide.2 (tget_nil _ _)).mono ?_
  rintro x wx ⟨hx, hbx⟩
  obtain rfl : x = .returned (.tuple #[.agg #[.int .u64 0, .int .i64 0, .int .i64 0, .int .i64 0, .int .i64 0], .int .i64 3]) := hx
  have bx := HB.out.below (hbx)
  clear HB hbx f0 f1 f2 f3 f4
  have HB := Lib.hid bx
  have f0 := (bx.bl 0 _ _ _ rfl).val (i := 0) rfl
  have f1 := (bx.bl 0 _ _ _ rfl).val (i := 1) rfl
  have f2 := (bx.bl 0 _ _ _ rfl).val (i := 2) rfl
  have f3 := (bx.bl 0 _ _ _ rfl).val (i := 3) rfl
  have f4 := (bx.bl 0 _ _ _ rfl).val (i := 4) rfl
  clear bx
  gi_wp2
  refine ⟨trivial, ?_⟩
  gi_at_call 14
  refine (callsIn_wide.2 (ttake_nil _ _)).mono ?_
  rintro x wx ⟨hx, hbx⟩
  obtain rfl : x = .returned (.tuple #[.agg #[.int .u64 0, .int .i64 0, .int .i64 0, .int .i64 0, .int .i64 0], .int .i64 3]) := hx
  have bx := HB.out.below (((Below.refl _ _).alloc (Nat.le_refl _) _).trans (hbx.mono (by simp)))
  clear HB hbx f0 f1 f2 f3 f4
  have HB := Lib.hid bx
  have f0 := (bx.bl 0 _ _ _ rfl).val (i := 0) rfl
  have f1 := (bx.bl 0 _ _ _ rfl).val (i := 1) rfl
  have f2 := (bx.bl 0 _ _ _ rfl).val (i := 2) rfl
  have f3 := (bx.bl 0 _ _ _ rfl).val (i := 3) rfl
  have f4 := (bx.bl 0 _ _ _ rfl).val (i := 4) rfl
  clear bx
  have hsz : w.heap.size + 3 ≤ wx.heap.size := by have := (HB.out.bl 2 _ _ _ rfl).size; omega
  gi_upto_region 8 with fail
  obtain ⟨W3, hW3⟩ : ∃ W3, wx.alloc (Obj.cells #[.int .u64 0, .int .i64 0, .int .i64 0, .int .i64 0, .int .i64 0] 33) = W3 := ⟨_, rfl⟩
  rw [hW3]
  have bx : Bxs w W3 (L3 w.heap.size a b k d e stop false) := by rw [← hW3]; exact HB.out.below ((Below.refl _ _).alloc (Nat.le_refl _) _)
  clear HB hsz hW3 f0 f1 f2 f3 f4
  have HB := Lib.hid bx
  have f0 := (bx.bl 0 _ _ _ rfl).val (i := 0) rfl
  have f1 := (bx.bl 0 _ _ _ rfl).val (i := 1) rfl
  have f2 := (bx.bl 0 _ _ _ rfl).val (i := 2) rfl
  have f3 := (bx.bl 0 _ _ _ rfl).val (i := 3) rfl
  have f4 := (bx.bl 0 _ _ _ rfl).val (i := 4) rfl
  clear bx
  gi_wp2
  refine ⟨trivial, ?_⟩
  gi_at_call 17
  refine (callsIn_wide.2 (thead_nil _ _)).mono ?_
  rintro x _ ⟨rfl, rfl⟩
  gi_wp2
  refine ⟨trivial, ?_⟩
  gi_at_call 18
  refine (callsIn_wide.2 (ttail_nil _ _)).mono ?_
  rintro x wx ⟨rfl, rfl⟩
  gi_wp2
  refine ⟨trivial, ?_⟩
  gi_at_call 19
  refine (callsIn_wide.2 (tfirst_nil _)).mono ?_
  rintro x wx ⟨rfl, rfl⟩
  gi_wp2
  refine ⟨trivial, ?_⟩
  gi_at_call 20
  refine (callsIn_wide.2 (tlast_nil _)).mono ?_
  rintro x wx ⟨rfl, rfl⟩
  gi_wp2
  refine ⟨trivial, ?_⟩
  gi_at_call 21
  refine (callsIn_wide.2 (tqall_made none _)).mono ?_
  rintro x wx ⟨rfl, hk, hb4⟩
  obtain ⟨k1, hk1⟩ : ∃ k1, W3.heap.size = k1 := ⟨_, rfl⟩
  have hb4' : Below W3.heap.size W3 wx := hb4
  rw [hk1] at hk ⊢
  have bx := HB.out.below hb4
  clear HB hb4 hb4' hk1 f0 f1 f2 f3 f4
  have HB := Lib.hid bx
  have f0 := (bx.bl 0 _ _ _ rfl).val (i := 0) rfl
  have f1 := (bx.bl 0 _ _ _ rfl).val (i := 1) rfl
  have f2 := (bx.bl 0 _ _ _ rfl).val (i := 2) rfl
  have f3 := (bx.bl 0 _ _ _ rfl).val (i := 3) rfl
  have f4 := (bx.bl 0 _ _ _ rfl).val (i := 4) rfl
  clear bx
  have hsq := tq_way_nil (m := 8) (encs := fun _ => #[.int .u64 0, .agg #[.int .u64 0, .int .i64 0, .int .i64 0, .int .i64 0, .int .i64 0]]) (Kp := fun _ _ => True) wx (by omega) hk
  clear hk
  gi_wp2
  refine wpIn_rangeP rfl (by omega) (gf := 50) (lb := #[.pointer (some ⟨k1, 0, none⟩)]) rfl trivial (enters_of Try.func50 (by kernel_rfl) rfl)
    hsq (fun _ _ => trivial) (fun _ _ _ _ _ _ _ _ => trivial) (Below.refl _ _) (fun _ => rfl)
    (fun _ X => Bxs w X (L3 w.heap.size a b k d e stop false)) (fun _ _ _ => False)
    (fun pre X Y row h hg hr => h.own HB.out.be.size hg hr) (fun c pre X Y row h hg hr => h.elim) HB.out (fun _ _ _ => True) (fun _ _ _ _ _ _ h _ _ => h) ?assign ?body ?done ?stop
  case assign => intro lz pre x X K hi hlen hK; exact absurd hlen.length_le (by simp)
  case body => intro lz pre x a' X hlz hrec hi ha hlen; exact absurd hlen.length_le (by simp)
  case stop => intro D c pre W hD hpre hF hK; exact hF.elim
  case done =>
    rintro D W hD bx hK
    have HD := Lib.hid (And.intro (Nat.le_trans HB.out.be.size hD) hK)
    clear HB hsq f0 f1 f2 f3 f4
    have HB := Lib.hid bx
    have f0 := (bx.bl 0 _ _ _ rfl).val (i := 0) rfl
    have f1 := (bx.bl 0 _ _ _ rfl).val (i := 1) rfl
    have f2 := (bx.bl 0 _ _ _ rfl).val (i := 2) rfl
    have f3 := (bx.bl 0 _ _ _ rfl).val (i := 3) rfl
    have f4 := (bx.bl 0 _ _ _ rfl).val (i := 4) rfl
    clear bx hD hK
    gi_upto_region 14 with fail
    gi_cut [146] from 86 (fun c wx => c = .bool false ∧ ∃ j, wx = W.drewN j)
    case first =>
      rcases Decidable.em (Fit tiers room) with hF | hF
      · obtain rfl : er = 0 := by have := HQO.out.1; rw [if_pos hF] at this; exact this.symm
        obtain ⟨q, rfl⟩ : ∃ q, o = some q := by
          cases o with
          | none => exact absurd hF (HQO.out.2.1 rfl)
          | some q => exact ⟨q, rfl⟩
        have HR : ∀ W : World, Calls Try.prog 22 #[.int .i64 tiers, .int .i64 room] W fun e w' => e = .returned (.bool true) ∧ w' = W := fun W => by
          have k := r6right tiers room W HE.out.1.1 HE.out.1.2 HE.out.2.1 HE.out.2.2
          rw [decide_eq_true hF] at k
          exact k.mono fun _ _ h => ⟨h.1, h.2.symm⟩
        have HH := Lib.hid HR
        clear HR hF
        refine wpIn_region_quiet_lit rfl (by kernel_rfl) (by kernel_rfl) ?_
        repeat (first
          | gi_big_quiet_skip
          | (gi_big_quiet_want; gi_big_quiet_op; go_big_quiet_on)
          | (refine wpQuietIn_step (by go_simp; intros; trivial) (fun K hK => ?_)
             go_simp
             first
               | (refine hK _ ?_; clear hK K)
               | (apply Exists.intro
                  refine ⟨fun _ => ?_, hK _ ?_⟩
                  (first
                    | (gi_at_call 22; refine CallsIn.quiet_of_same (callsIn_wide.2 (HH.out _)))
                    | (gi_at_call 23; refine CallsIn.quiet_of_same ((callsIn_wide.2 (tcount_nil _ _)).mono fun _ _ h => ⟨h.1, h.2.symm⟩))
                    | (gi_at_call 24; refine CallsIn.quiet_of_same ((callsIn_wide.2 (tlen_nil _)).mono fun _ _ h => ⟨h.1, h.2.symm⟩))
                    | (gi_at_call 12; refine CallsIn.quiet_of_same ((callsIn_wide.2 (tdue_nil _ _)).mono fun _ _ h => ⟨h.1, h.2.symm⟩)))
                  clear hK K)))
        refine wpQuietIn_nil ?_
        rintro _ ⟨nq, rfl⟩
        gi_wp2
        gi_meet
        exact ⟨rfl, nq, rfl⟩
      · obtain rfl : er = 1 := by have := HQO.out.1; rw [if_neg hF] at this; exact this.symm
        obtain rfl : o = none := HQO.out.2.2 hF
        have HR : ∀ W : World, Calls Try.prog 22 #[.int .i64 tiers, .int .i64 room] W fun e w' => e = .returned (.bool false) ∧ w' = W := fun W => by
          have k := r6right tiers room W HE.out.1.1 HE.out.1.2 HE.out.2.1 HE.out.2.2
          rw [decide_eq_false hF] at k
          exact k.mono fun _ _ h => ⟨h.1, h.2.symm⟩
        have HH := Lib.hid HR
        clear HR hF
        refine wpIn_region_quiet_lit rfl (by kernel_rfl) (by kernel_rfl) ?_
        repeat (first
          | gi_big_quiet_skip
          | (gi_big_quiet_want; gi_big_quiet_op; go_big_quiet_on)
          | (refine wpQuietIn_step (by go_simp; intros; trivial) (fun K hK => ?_)
             go_simp
             first
               | (refine hK _ ?_; clear hK K)
               | (apply Exists.intro
                  refine ⟨fun _ => ?_, hK _ ?_⟩
                  (first
                    | (gi_at_call 22; refine CallsIn.quiet_of_same (callsIn_wide.2 (HH.out _)))
                    | (gi_at_call 23; refine CallsIn.quiet_of_same ((callsIn_wide.2 (tcount_nil _ _)).mono fun _ _ h => ⟨h.1, h.2.symm⟩))
                    | (gi_at_call 24; refine CallsIn.quiet_of_same ((callsIn_wide.2 (tlen_nil _)).mono fun _ _ h => ⟨h.1, h.2.symm⟩))
                    | (gi_at_call 12; refine CallsIn.quiet_of_same ((callsIn_wide.2 (tdue_nil _ _)).mono fun _ _ h => ⟨h.1, h.2.symm⟩)))
                  clear hK K)))
        refine wpQuietIn_nil ?_
        rintro _ ⟨nq, rfl⟩
        gi_wp2
        gi_meet
        exact ⟨rfl, nq, rfl⟩
    case rest =>
      obtain ⟨rfl, j, hwc⟩ := hcut
      have bx : Bxs w wc (L3 w.heap.size a b k d e stop false) := by rw [hwc]; exact HB.out.drewN_ j
      have hK : wc.heap[D]? = some (.deferred (some [])) := by rw [hwc]; exact HD.out.2
      have hD1 : w.heap.size ≤ D := HD.out.1
      clear HB HD f0 f1 f2 f3 f4 HQO HE hwc
      have HB := Lib.hid (And.intro bx (And.intro hK hD1))
      clear bx hK hD1
      gi_wp2
      refine ⟨trivial, ?_⟩
      gi_at_call 6
      refine (callsIn_wide.2 (tq_new 2 9 _ (by omega) (by omega) (by omega) (by omega))).mono ?_
      rintro x w5 ⟨q, rfl, hq, hb5⟩
      have hN : (newS 9).m = 9 - 0 ∧ ((newS 9).L 0).length + ((newS 9).L 1).length = 0 := ⟨rfl, rfl⟩
      obtain ⟨s0, hs0⟩ : ∃ s0, newS 9 = s0 := ⟨_, rfl⟩
      rw [hs0] at hq hN
      have HI := Lib.hid (And.intro hq (And.intro hN (hb5.mono (Nat.le_refl _))))
      clear hq hN hb5 hs0
      gi_upto_region 18 with fail
      gi_loopg [151] 9 (fun g s wr => ∃ (k : Nat) (t : Ts), k + g = 9 ∧ s = .int .i64 (k : Int) ∧ TqL wr wc.heap.size q 2 9 k t ∧ t.m = 9 - k ∧ (t.L 0).length + (t.L 1).length = k ∧ Below wc.heap.size wc wr)
      case atStart => exact ⟨0, s0, rfl, rfl, HI.out.1, HI.out.2.1.1, HI.out.2.1.2, HI.out.2.2⟩
      case round =>
        obtain ⟨k, t, hkg, rfl, hq, hm, hl, hbr⟩ := hrel
        by_cases hk : k < 9
        · obtain ⟨r, hr⟩ : ∃ r : Nat, k % 2 = r := ⟨_, rfl⟩
          have ht : (k : Int).tmod 2 = (r : Int) := by rw [Int.tmod_eq_emod_of_nonneg (by omega)]; omega
          have k0 : (0 : Int) ≤ (k : Int) := by omega
          have k1 : (k : Int) < 9 := by omega
          have kw : IntKind.i64.wrap ((k : Int) + 1) = (k : Int) + 1 := IntWalk.i64_in _ (by omega)
          have r2 : r < 2 := by omega
          have HR := Lib.hid (And.intro hq (And.intro hm (And.intro hl (And.intro hbr (And.intro hkg hr)))))
          clear hq hm hl hbr hkg hr HI
          gi_wp2
          refine ⟨trivial, ?_⟩
          gi_at_call 8
          refine (callsIn_wide.2 (tq_put (m := 8 - k) (i := t.F (8 - k)) ⟨0, (r : Int), 0, 0, 0⟩ HR.out.1 (by have := HR.out.2.1; omega) rfl (by show (0 : Int) ≤ r; omega) (by show (r : Int) < (2 : Nat); omega) (by omega))).mono ?_
          rintro x w6 ⟨rfl, hq6, hb6, -⟩
          have HQ6 := Lib.hid (And.intro hq6 hb6)
          clear hq6 hb6
          gi_wp2
          gi_roundg (9 - (k + 1))
          case rel =>
            refine ⟨k + 1, _, by omega, by rfl, HQ6.out.1, by show 8 - k = 9 - (k + 1); omega, ?_, HR.out.2.2.2.1.trans HQ6.out.2⟩
            show (pushL t.L ((r : Int).toNat) (t.F (8 - k)) 0).length + (pushL t.L ((r : Int).toNat) (t.F (8 - k)) 1).length = k + 1
            rw [pushL_len, pushL_len]
            have := HR.out.2.2.1
            have e : (r : Int).toNat = r := by omega
            rw [e]
            split <;> split <;> omega
          all_goals (have := HR.out.2.2.2.2.1; omega)
        · obtain rfl : k = 9 := by omega
          have k9 : ¬ (((9 : Nat) : Int) < 9) := by omega
          have HQ := Lib.hid (And.intro hq (And.intro hm (And.intro hl hbr)))
          clear hq hm hl hbr hkg hk HI
          gi_upto_region 23 with fail
          obtain ⟨W6, hW6⟩ : ∃ W6, wr.alloc (Obj.cells #[.int .i64 0] tyI) = W6 := ⟨_, rfl⟩
          have im6 : Blk W6 wr.heap.size tyI #[.int .i64 (([] : List Nat).length : Int)] := by rw [← hW6]; exact Blk.made _ _ _
          have hb6 : Below wr.heap.size wr W6 := by rw [← hW6]; exact (Below.refl _ _).alloc (Nat.le_refl _) _
          have hz6 : W6.heap.size = wr.heap.size + 1 := by rw [← hW6]; simp
          rw [hW6]
          clear hW6
          have H6 := Lib.hid (And.intro im6 (And.intro hb6 hz6))
          clear im6 hb6 hz6
          gi_wp2
          refine ⟨trivial, ?_⟩
          gi_at_call 21
          refine (callsIn_wide.2 (tqall_made (some ⟨q, 0, none⟩) W6)).mono ?_
          rintro x W7 ⟨rfl, hk7, hb7⟩
          obtain ⟨k2, hk2⟩ : ∃ k2, W6.heap.size = k2 := ⟨_, rfl⟩
          have hkb : wr.heap.size < k2 := by rw [← hk2]; have := H6.out.2.2; omega
          have im7 : Blk W7 wr.heap.size tyI #[.int .i64 (([] : List Nat).length : Int)] := H6.out.1.below_ hb7 H6.out.1.size
          have hbr7 : Below wr.heap.size wr W7 := H6.out.2.1.trans (hb7.mono (by have := H6.out.2.2; omega))
          rw [hk2] at hk7 ⊢
          have hsq := tq_way (m := 8) (k := k2) wr W7 HQ.out.1 (by omega) (by omega) (by omega) hbr7 (by omega) hk7
          have hlen : (allT t.L 2).length = 9 := by
            rw [allT_succ, allT_succ, List.length_append, List.length_append]
            have := HQ.out.2.2.1
            have e : (allT t.L 0).length = 0 := rfl
            omega
          obtain ⟨s, hs9⟩ : ∃ s : Nat, stop % 9 = (s : Int) := ⟨(stop % 9).toNat, by omega⟩
          have s9 : s < 9 := by omega
          have ht9 : stop.tmod 9 = (s : Int) := by rw [Int.tmod_eq_emod_of_nonneg z0]; exact hs9
          have hw1 : IntKind.i64.wrap (s : Int) = (s : Int) := IntWalk.i64_in _ (by omega)
          have HT := Lib.hid (And.intro ht9 hw1)
          have H7 := Lib.hid (And.intro im7 (And.intro hbr7 (And.intro hlen hkb)))
          clear hb7 H6 im7 hbr7 hk7 hk2 hlen hs9 ht9 hw1
          gi_wp2
          refine wpIn_rangeP_skip rfl (by omega) (gf := 50) (lb := #[.pointer (some ⟨k2, 0, none⟩)]) rfl trivial (enters_of Try.func50 (by kernel_rfl) rfl)
            hsq KpQ.trans (fun X l o o' hl ho hc _ => KpQ.put X l o o' (Nat.le_trans H7.out.2.1.size hl) ho hc) (Below.refl _ _) (fun _ => rfl)
            (fun pre X => Below wr.heap.size wr X ∧ Blk X wr.heap.size tyI #[.int .i64 (pre.length : Int)] ∧ pre.length ≤ s)
            (fun c pre X => c = .exit 4 ∧ Below wr.heap.size wr X ∧ Blk X wr.heap.size tyI #[.int .i64 (pre.length : Int)] ∧ pre.length = s + 1)
            (fun pre X Y row h hg hr => ⟨h.1.grown hg h.1.size (fun r e => Nat.le_trans H7.out.2.1.size (hr r e).1), blk_stay h.2.1 hg hr, h.2.2⟩)
            (fun c pre X Y row h hg hr => ⟨h.1, h.2.1.grown hg h.2.1.size (fun r e => Nat.le_trans H7.out.2.1.size (hr r e).1), blk_stay h.2.2.1 hg hr, h.2.2.2⟩)
            ⟨H7.out.2.1, H7.out.1, Nat.zero_le _⟩ ?body2 ?done2 ?stop2 (KpQ.refl _ _)
          case done2 =>
            rintro D2 W hD2 ⟨-, -, hle⟩ hK2
            rw [H7.out.2.2.1] at hle
            omega
          case body2 =>
            rintro l pre x W hl ⟨hbW, im, hps⟩ hlen
            have bx := HB.out.1.below (HQ.out.2.2.2.trans (hbW.mono HQ.out.2.2.2.size))
            have d5 := (bx.bl 1 _ _ _ rfl).val (i := 0) rfl
            have d31 := im.val (i := 0) rfl
            have f31 := im.free 0
            have hne : w.heap.size + 1 < wr.heap.size := Nat.lt_of_lt_of_le (HB.out.1.bl 1 _ _ _ rfl).size HQ.out.2.2.2.size
            have ht := HT.out.1
            have hw1 := HT.out.2
            have hw2 : IntKind.i64.wrap ((pre.length : Int) + 1) = (pre.length : Int) + 1 := IntWalk.i64_in _ (by omega)
            have HW := Lib.hid (And.intro hbW im)
            have hx' : (pre ++ [x]).length = pre.length + 1 := by simp
            have HX := Lib.hid hx'
            have HLL := Lib.hid hlen
            clear hbW im bx hx' hsq hlen
            rcases Nat.lt_or_ge s (pre.length + 1) with hc | hc
            · have hc1 : decide ((s : Int) < (pre.length : Int) + 1) = true := decide_eq_true (by omega)
              have hc2 : pre.length + 1 = s + 1 := by omega
              have HC := Lib.hid hc2
              clear hc2
              gi_wp2
              exact ⟨(KeepsOthers.setCell _ _ _).from _, rfl, HW.out.1.setCell (p := ⟨wr.heap.size, 0, none⟩) (Nat.le_refl _) _, by rw [HX.out, show ((pre.length + 1 : Nat) : Int) = (pre.length : Int) + 1 from by omega]; exact HW.out.2.set_ 0 _, by rw [HX.out]; exact HC.out⟩
            · have hc1 : decide ((s : Int) < (pre.length : Int) + 1) = false := decide_eq_false (by omega)
              gi_wp2
              exact ⟨(KeepsOthers.setCell _ _ _).from _, KpQ.set_ _ (Nat.le_refl _) H7.out.2.2.2 _, HW.out.1.setCell (p := ⟨wr.heap.size, 0, none⟩) (Nat.le_refl _) _, by rw [HX.out, show ((pre.length + 1 : Nat) : Int) = (pre.length : Int) + 1 from by omega]; exact HW.out.2.set_ 0 _, by rw [HX.out]; exact hc⟩
          case stop2 =>
            rintro D2 c pre W hD2 hpre ⟨rfl, hbW, im, hps⟩ hK2
            rw [hps] at im
            have bx := HB.out.1.below (HQ.out.2.2.2.trans (hbW.mono HQ.out.2.2.2.size))
            have hK := mark_below HB.out.2.1 (HQ.out.2.2.2.trans (hbW.mono HQ.out.2.2.2.size))
            have d5 := (bx.bl 1 _ _ _ rfl).val (i := 0) rfl
            have d31 := im.val (i := 0) rfl
            have ht := HT.out.1
            have hw1 := HT.out.2
            have hw2 : IntKind.i64.wrap ((s : Int) + 1) = (s : Int) + 1 := IntWalk.i64_in _ (by omega)
            have hsc : (((s + 1 : Nat)) : Int) = (s : Int) + 1 := by omega
            have hmn : min (9 : Int) ((s : Int) + 1) = (s : Int) + 1 := by omega
            rw [hsc] at d31
            have hDD : D ≠ D2 := by
              have h1 := (Array.getElem?_eq_some_iff.1 HB.out.2.1).1
              have h2 := HQ.out.2.2.2.size
              have h3 := H7.out.2.1.size
              omega
            have HW := Lib.hid (And.intro bx (And.intro hK (And.intro hK2 (And.intro hDD (Nat.le_trans HB.out.2.2 (Nat.le_trans (Nat.le_of_lt (Array.getElem?_eq_some_iff.1 HB.out.2.1).1) (Nat.le_trans HQ.out.2.2.2.size (Nat.le_trans H7.out.2.1.size hD2))))))))
            have HQW := Lib.hid (HQ.out.1.below hbW)
            clear bx hK im hK2 hpre hps hsq hDD hsc hbW
            gi_wp2
            refine ⟨trivial, ?_⟩
            gi_at_call 24
            refine (callsIn_wide.2 (tq_len HQW.out)).mono ?_
            rintro x w8 ⟨rfl, hb8⟩
            have bx := HW.out.1.below hb8
            have hK := mark_below HW.out.2.1 hb8
            have hK2 := mark_below HW.out.2.2.1 hb8
            have c10 := (bx.bl 2 _ _ _ rfl).val (i := 0) rfl
            have z10 := (bx.bl 2 _ _ _ rfl).size
            have f10 := (bx.bl 2 _ _ _ rfl).free 0
            have hm0 : ((9 : Nat) : Int) - (t.m : Int) = 9 := by have := HQ.out.2.1; omega
            rw [hm0]
            have HZ := Lib.hid (And.intro bx (And.intro hK hK2))
            clear bx hK hK2 hm0 hb8 d5 d31 hmn ht hw1 hw2
            gi_wp2
            have bx2 : Bxs w (w8.setCell ⟨w.heap.size + 1 + 1, 0, none⟩ (.bool true)) (L3 w.heap.size a b k d e stop true) := HZ.out.1.set_ 2 0 rfl (.bool true)
            have hK1' := (KeepsOthers.setCell w8 ⟨w.heap.size + 1 + 1, 0, none⟩ (.bool true)).same D _ HZ.out.2.1 rfl
            have hK2' := (KeepsOthers.setCell w8 ⟨w.heap.size + 1 + 1, 0, none⟩ (.bool true)).same D2 _ HZ.out.2.2 rfl
            refine leaves_marksC (B := w.heap.size) (v := .bool true) (fun W => Bxs w W (L3 w.heap.size a b k d e stop true)) (fun W h => ?_) (fun _ X Y row h hg hr => h.own (Nat.le_refl _) hg hr) (fun W h => ⟨rfl, h.be⟩) _ _ ⟨?_, ?_⟩ bx2
            · have c := (h.bl 2 _ _ _ rfl).val (i := 0) rfl
              simp [results, Try.f4, go_sem, c]
            · simp only [List.map_cons, List.map_nil, List.nodup_cons, List.mem_cons, List.not_mem_nil, or_false, not_false_eq_true, List.nodup_nil, and_true]
              intro e
              injection e with e
              exact HW.out.2.2.2.1 e.symm
            · intro dd hd
              rcases List.mem_cons.1 hd with rfl | hd
              · exact ⟨D2, rfl, HW.out.2.2.2.2, hK2'⟩
              · rcases List.mem_cons.1 hd with rfl | hd
                · exact ⟨D, rfl, HB.out.2.2, hK1'⟩
                · cases hd
set_option maxRecDepth 100000 in
theorem lifted (os : Os) (started : os.Started) (H : Type) (enc : TypeId × Value → H) :
    ReturnsInHanded {} Try.checked os 4 .any (Rows.tierqNilSpec.pre6 enc Try.prog Try.f4 Rows.tierqNilRow.domain false) (Rows.tierqNilSpec.post enc Try.prog Try.f4 false true false false) := by
  refine returnsInHanded_of_change (C := Try.checked) own started (by kernel_rfl) Try.func4
    (ChangeSpec.witness6 (enc := enc) (C := Try.checked) false ⟨#[], #[.int .i64 0, .int .i64 0, .int .u64 0, .agg #[.int .u64 0, .int .i64 0, .int .i64 0, .int .i64 0, .int .i64 0], .int .u8 0], []⟩ 8 (by kernel_rfl) (by kernel_rfl) (by kernel_rfl) (by kernel_rfl)) ?_
  intro W base args ds gs before hval0 hW hcnd _
  have hval : ∀ (j : Nat) t v, Try.f4.params[j]? = some t → args[j]? = some v → Value.okWide Try.prog W .any base t v := hval0
  have hW' := hW
  obtain ⟨p, q, hA0, hV, rfl, hfz, hnd⟩ := hW
  have hA : DataW.TrodAll enc Try.prog W 0 (fun _ => true) true Try.f4.params.toList args.toList ds p := hA0
  rw [Try.params4] at hA hval
  obtain ⟨v0, vs0, d0, ds0, p0, q0, hargs, rfl, rfl, h0, r0⟩ := trodAll_cons hA
  obtain ⟨v1, vs1, d1, ds1, p1, q1, rfl, rfl, rfl, h1, r1⟩ := trodAll_cons r0
  obtain ⟨v2, vs2, d2, ds2, p2, q2, rfl, rfl, rfl, h2, r2⟩ := trodAll_cons r1
  obtain ⟨v3, vs3, d3, ds3, p3, q3, rfl, rfl, rfl, h3, r3⟩ := trodAll_cons r2
  obtain ⟨v4, vs4, d4, ds4, p4, q4, rfl, rfl, rfl, h4, r4⟩ := trodAll_cons r3
  obtain ⟨rfl, rfl, rfl⟩ := trodAll_nil r4
  obtain rfl : args = #[v0, v1, v2, v3, v4] := by cases args; simp_all
  obtain ⟨rfl, rfl⟩ := trodVars_none hV
  obtain ⟨a0, rfl, rfl, rfl, w0⟩ := open_int Try.underlying3 (hval 0 _ v0 rfl rfl) h0
  obtain ⟨a1, rfl, rfl, rfl, w1⟩ := open_int Try.underlying3 (hval 1 _ v1 rfl rfl) h1
  obtain ⟨a2, rfl, rfl, rfl, w2⟩ := open_int Try.underlying30 (hval 2 _ v2 rfl rfl) h2
  obtain ⟨x30, x31, x32, x33, x34, y30, y31, y32, y33, y34, n3, rfl, g30, g31, g32, g33, g34⟩ := open_five Try.underlying33 (by kernel_rfl) (by kernel_rfl) (hval 3 _ v3 rfl rfl) h3
  obtain ⟨a30, e30, ez30, w30⟩ := DataW.trod_int Try.underlying30 g30
  simp at e30
  subst e30
  obtain ⟨a31, e31, ez31, w31⟩ := DataW.trod_int Try.underlying3 g31
  simp at e31
  subst e31
  obtain ⟨a32, e32, ez32, w32⟩ := DataW.trod_int Try.underlying3 g32
  simp at e32
  subst e32
  obtain ⟨a33, e33, ez33, w33⟩ := DataW.trod_int Try.underlying2 g33
  simp at e33
  subst e33
  obtain ⟨a34, e34, ez34, w34⟩ := DataW.trod_int Try.underlying2 g34
  simp at e34
  subst e34
  obtain ⟨a4, rfl, rfl, rfl, w4⟩ := open_int Try.underlying5 (hval 4 _ v4 rfl rfl) h4
  clear hA0 hval0
  obtain ⟨l0, m0⟩ := wf_i64 w0
  obtain ⟨l1, m1⟩ := wf_i64 w1
  obtain ⟨l2, m2⟩ := wf_u64 w2
  obtain ⟨l30, m30⟩ := wf_u64 w30
  obtain ⟨l31, m31⟩ := wf_i64 w31
  obtain ⟨l32, m32⟩ := wf_i64 w32
  obtain ⟨l33, m33⟩ := wf_i64 w33
  obtain ⟨l34, m34⟩ := wf_i64 w34
  obtain ⟨l4, m4⟩ := wf_u8 w4
  refine (walk a0 a1 a2 a30 a31 a32 a33 a34 a4 W l0 m0 l1 m1 l2 m2 l30 m30 l31 m31 l32 m32 l33 m33 l34 m34 l4 m4).mono fun e W' ⟨he, hg⟩ => ?_
  subst he
  exact ⟨_, rfl, post_of_law hW' rfl laidOut reads rfl Try.underlying4 rfl rfl rfl hg⟩
theorem over : Rows.tierqNilRow.holds Try.pinned (OpenSpec.ofChange Rows.tierqNilSpec) :=
  OpenClaim.holds_of_wide 4 Try.f4 rfl rfl rfl rfl rfl rfl rfl ⟨rfl, rfl, rfl, rfl, rfl⟩ rfl rfl rfl rfl rfl (by kernel_rfl) Try.func4 (by kernel_rfl)
    (of_decide_eq_true (by kernel_rfl)) (by unfold Func.isWrapper; first | (rw [if_pos (by decide +kernel)]; kernel_rfl) | (rw [if_neg (by decide +kernel)]; exact ⟨rfl, rfl⟩))
    (fun os started H enc _ => lifted os started H enc)
theorem proved : Rows.TierqNilSaid := over
end Go.Proofs.Ytjkklcigmikleaa.tierqNil
