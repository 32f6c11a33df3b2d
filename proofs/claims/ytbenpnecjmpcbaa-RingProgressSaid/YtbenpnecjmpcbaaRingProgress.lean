/- RingProgress is true of every capacity's number and every list of picks, and changes nothing that it was given. -/
import Derived.Test.YtbenpnecjmpcbaaTj
import Derived.Test.YtbenpnecjmpcbaaRact
import Derived.Test.YtbenpnecjmpcbaaUnk
import Derived.Test.YtbenpnecjmpcbaaRowb
import Derived.Test.YtbenpnecjmpcbaaRows
import Derived.WalkKit
import Derived.ProofKit
import Derived.OpenShut
import Derived.Deep.DeepCutAuto
namespace Go.Proofs.Ytbenpnecjmpcbaa.ringProgress
open Go.ChangeShapes Go.WideShapes Go.ChangeAt Go.RowKit
set_option linter.unusedVariables false
theorem own : ownKnob Try.prog.godebug = none := by kernel_rfl
theorem laidOut : laidOutB Try.prog = true := by kernel_rfl
theorem reads : (Try.f6.params.toList.all fun t => Try.prog.readableRec t && decide (t < Try.prog.types.size)) = true := by kernel_rfl
theorem seq_up {w : World} {B B' : Nat} {A : Option Addr} {len sz : Nat} {row : Nat → List Value} (h : SeqAt w B A len sz row) (hb : B ≤ B') : SeqAt w B' A len sz row := fun h0 => by
  obtain ⟨b, off, e, h1, h2⟩ := h h0
  exact ⟨b, off, e, Nat.lt_of_lt_of_le h1 hb, h2⟩
set_option maxRecDepth 100000 in
set_option maxHeartbeats 4000000 in
theorem walk (x : Int) (A : Option Addr) (len cap : Nat) (Q : Nat → Pk) (w : World) (hl : len ≤ cap) (hc : cap ≤ maxLen) (hQ : SeqAt w w.heap.size A len 3 (fun i => pkRow (Q i))) (hok : ∀ i, i < len → (Q i).ok) (x0 : 0 ≤ x) (x1 : x ≤ 255) :
    Calls Try.prog 6 #[.int .u8 x, .slice A len cap] w fun e w' => e = .returned (.bool true) ∧ Below w.heap.size w w' := by
  have n2 : 2 ≤ capE x := by have := capE_cases x; omega
  have HQ := Lib.hid hQ
  have HOK := Lib.hid hok
  clear hQ hok
  go_enter Try.func6, Try.ntmps6
  go_wp2_with (first
    | (go_at_call 7; refine (awaker _).mono ?_; rintro e w0 ⟨rfl, hb0⟩)
    | (go_at_call 8; refine (topen _ x0 x1).mono ?_; rintro e w1 ⟨T, rfl, hT, hb1⟩; have hz0 := hb0.size; have hz1 := hb1.size)
    | (go_at_call 9; refine (trun (B := w0.heap.size) w1 n2 hz1 hT (ts0_ok (by omega) _) ((seq_up (HQ.out.below hb0) hz0).below hb1) HOK.out hl hc).mono ?_; rintro e w2 ⟨v2, T2, rfl, et2, hT2, ok2, ho2, hb2⟩; have hz2 := hb2.size; have p2 := tsRun_P (Q := Q) (ts0_ok (n := capE x) (by omega) (fun _ => 0)) n2 (ts0_P _ _) (min len 200) (by omega); obtain ⟨S, hS⟩ : ∃ X, tsRun (capE x) Q (min len 200) (ts0 (rg0 (capE x)) (fun _ => 0)) = X := ⟨_, rfl⟩; rw [hS] at hT2 ok2 ho2 p2; obtain ⟨rt, cl, hP⟩ := p2; have hbound := hP.bound ok2; have hre := hP.re; have hlen := ok2.len; obtain ⟨Ao, co, ev, hrd, -⟩ := ho2.rd; subst ev; have RD := Lib.hid hrd; have RE := Lib.hid hre; have BND := Lib.hid hbound; have T2H := Lib.hid hT2; have BB := Lib.hid ((hb0.trans (hb1.mono hz0)).trans (hb2.mono hz0)); obtain ⟨tt, htt⟩ : ∃ t, T.t = t := ⟨_, rfl⟩; have ET := Lib.hid (et2.trans htt); rw [htt]; have TB := Lib.hid ok2.bd; have hn1 := hT2.ring.n1; have RG := Lib.hid hT2.ring; have t0 : w2.cell? ⟨tt, 0, none⟩ = some (.pointer (some ⟨T2.r, 0, none⟩)) := (by rw [← ET.out]; exact hT2.t0); have ltt : tt < w2.heap.size := (by rw [← ET.out]; exact hT2.lt _ (.inl rfl)); clear hS hT2 ok2 ho2 hP hbound hre hrd hb0 hb1 hb2 hT et2 htt))
  go_loopw [8, 25] (fun s8 s25 wr => ∃ k, k ≤ S.out.length ∧ s25 = .int .i64 (k : Nat) ∧ s8 = .int .i64 (sumRe (S.out.take k)) ∧ Below w2.heap.size w2 wr) (fun _ i _ => S.out.length - (intOf i).toNat)
  case atStart => exact ⟨0, Nat.zero_le _, rfl, rfl, Below.refl _ _⟩
  case round =>
    obtain ⟨k, hk, rfl, rfl, hbr⟩ := hrel
    have hz := sumRe_le (L := S.out.take k) (fun d hd => RE.out d (List.mem_of_mem_take hd))
    have hlk : (S.out.take k).length ≤ 200 := by rw [List.length_take]; omega
    have hz3 := hbr.size
    by_cases hlt : k < S.out.length
    · have hnx := sumRe_take hlt
      have hd := RE.out (S.out[k]!) (by rw [getElem!_pos S.out k hlt]; exact List.getElem_mem _)
      obtain ⟨kb, ko, rfl, hkb, hkc⟩ := RD.out (by omega)
      have hq : ∀ j, j < 6 → wr.cell? ⟨kb, ko + k * 6 + j, none⟩ = (dnRow (S.out[k]!))[j]? := fun j hj => (hbr.cell (by omega)).trans (hkc k hlt j hj)
      obtain ⟨⟨dk, dv, db, de, dw, dr⟩, hde⟩ : ∃ d, S.out[k]! = d := ⟨_, rfl⟩
      rw [hde] at hq hd hnx
      have hd0 : 0 ≤ dr := hd.1
      have hd1 : dr ≤ 200 := hd.2
      obtain ⟨z, hzz⟩ : ∃ z, sumRe (S.out.take k) = z := ⟨_, rfl⟩
      rw [hzz] at hz hnx ⊢
      have q0 : wr.cell? ⟨kb, ko + k * 6, none⟩ = some (.int .i64 dk) := hq 0 (by omega)
      have q1 : wr.cell? ⟨kb, ko + k * 6 + 1, none⟩ = some (.int .u64 dv) := hq 1 (by omega)
      have q2 : wr.cell? ⟨kb, ko + k * 6 + 2, none⟩ = some (.int .i64 db) := hq 2 (by omega)
      have q3 : wr.cell? ⟨kb, ko + k * 6 + 3, none⟩ = some (.int .i64 de) := hq 3 (by omega)
      have q4 : wr.cell? ⟨kb, ko + k * 6 + 4, none⟩ = some (.bool dw) := hq 4 (by omega)
      have q5 : wr.cell? ⟨kb, ko + k * 6 + 5, none⟩ = some (.int .i64 dr) := hq 5 (by omega)
      have z0 : 0 ≤ z := hz.1
      have z1 : z ≤ 40000 := by have := hz.2; omega
      have HNX := Lib.hid hnx
      clear hq hkc hde hd hz hnx hzz
      go_wp2
      go_roundw
      case measure => simp [intOf]; omega
      case rel => exact ⟨k + 1, by omega, by go_num, by rw [HNX.out], hbr.alloc hz3 _⟩
    · have ek : k = S.out.length := by omega
      subst ek
      rw [List.take_length] at hz ⊢
      obtain ⟨z, hzz⟩ : ∃ z, sumRe S.out = z := ⟨_, rfl⟩
      have hb5 := BND.out
      rw [hzz] at hz hb5 ⊢
      have hT := TB.out.t
      have hH := TB.out.h
      have z0 : 0 ≤ z := hz.1
      have z1 : z ≤ 40000 := by have := hz.2; omega
      have hw1 : IntKind.u64.wrap ((S.g.T : Int) + (S.g.H : Int)) = (S.g.T : Int) + (S.g.H : Int) := IntWalk.u64_in _ (by omega)
      have hw4 : IntKind.i64.wrap ((S.g.T : Int) + (S.g.H : Int)) = (S.g.T : Int) + (S.g.H : Int) := IntWalk.i64_in _ (by omega)
      have hw5 : IntKind.i64.wrap (5 * ((S.g.T : Int) + (S.g.H : Int))) = 5 * ((S.g.T : Int) + (S.g.H : Int)) := IntWalk.i64_in _ (by omega)
      have HB5 := Lib.hid hb5
      have hdc : decide (z ≤ 5 * ((S.g.T : Int) + (S.g.H : Int))) = true := decide_eq_true hb5
      clear hz hzz hb5
      go_upto_region 13 with fail
      obtain ⟨w3, hw3⟩ : ∃ x, wr.drew = x := ⟨_, rfl⟩
      have s0 : w3.cell? ⟨tt, 0, none⟩ = some (.pointer (some ⟨T2.r, 0, none⟩)) := by rw [← hw3]; exact (hbr.cell ltt).trans t0
      have R3 : RingAt w3 T2.r T2.s (capE x) S.g := by rw [← hw3]; exact (RG.out.below hbr RG.out.lts.1 RG.out.lts.2).drew_
      have C1 := Lib.hid (rtail w3 R3)
      have C2 := Lib.hid (rhead w3 R3)
      have HW := Lib.hid hw3
      have HBR := Lib.hid hbr
      clear hw3 R3 hbr
      refine wp_region_noPanic ?_
      refine wp_region_all [none, none, none, none, some (.bool true), none, none, none, none, none, none, none, none, none, none, none, none, none, none, none, none, none, none, none, none, none, none, none, none, none, none, none, none, none, some (.int .i64 z), some (.pointer (some ⟨tt, 0, none⟩)), some (.pointer (some ⟨tt, 0, none⟩)), some (.pointer (some ⟨tt, 0, none⟩)), some (.pointer (some ⟨T2.r, 0, none⟩)), some (.int .u64 (S.g.T : Int)), some (.pointer (some ⟨tt, 0, none⟩)), some (.pointer (some ⟨tt, 0, none⟩)), some (.pointer (some ⟨tt, 0, none⟩)), some (.pointer (some ⟨T2.r, 0, none⟩)), some (.int .u64 (S.g.H : Int)), some (.int .u64 ((S.g.T : Int) + (S.g.H : Int))), some (.int .i64 ((S.g.T : Int) + (S.g.H : Int))), some (.int .i64 (5 * ((S.g.T : Int) + (S.g.H : Int)))), some (.bool true)] (fun w' => w' = w3) (by kernel_rfl) (by kernel_rfl) (by kernel_rfl) (by kernel_rfl) HW.out ?F ?hF ?_
      case hF => dsimp only [overL]; exact rfl
      refine ⟨?_, ?_⟩
      · refine ⟨?_, ?_⟩
        · exact YieldsS.of_if (Or.inl ⟨by kernel_rfl, fun wS hSw => by subst hSw; (first | (go_simp; done) | (go_simp; with_reducible rfl))⟩)
        refine ⟨?_, ?_⟩
        · exact YieldsS.of_if (Or.inl ⟨by kernel_rfl, fun wS hSw => by subst hSw; (first | (go_simp; done) | (go_simp; with_reducible rfl))⟩)
        refine ⟨?_, ?_⟩
        · exact YieldsS.of_if (Or.inl ⟨by kernel_rfl, fun wS hSw => by subst hSw; (first | (go_simp; done) | (go_simp; with_reducible rfl))⟩)
        refine ⟨?_, ?_⟩
        · exact YieldsS.of_if (Or.inl ⟨by kernel_rfl, fun wS hSw => by subst hSw; (first | (go_simp; done) | (go_simp; with_reducible rfl))⟩)
        refine ⟨?_, ?_⟩
        · exact YieldsS.of_if (Or.inl ⟨by kernel_rfl, fun wS hSw => by subst hSw; (first | (go_simp; done) | (go_simp; with_reducible rfl))⟩)
        refine ⟨?_, ?_⟩
        · refine YieldsS.of_call (by kernel_rfl) (f := 12) (args := #[(.pointer (some ⟨T2.r, 0, none⟩))]) (fun wS hSw => by first | rfl | (go_simp; done)) (fun wS hSw => ?_)
          subst hSw
          refine C1.out.mono ?_
          rintro e wn ⟨rfl, rfl⟩
          exact ⟨rfl, rfl, Below.refl _ _⟩
        refine ⟨?_, ?_⟩
        · exact YieldsS.of_if (Or.inl ⟨by kernel_rfl, fun wS hSw => by subst hSw; (first | (go_simp; done) | (go_simp; with_reducible rfl))⟩)
        refine ⟨?_, ?_⟩
        · exact YieldsS.of_if (Or.inl ⟨by kernel_rfl, fun wS hSw => by subst hSw; (first | (go_simp; done) | (go_simp; with_reducible rfl))⟩)
        refine ⟨?_, ?_⟩
        · exact YieldsS.of_if (Or.inl ⟨by kernel_rfl, fun wS hSw => by subst hSw; (first | (go_simp; done) | (go_simp; with_reducible rfl))⟩)
        refine ⟨?_, ?_⟩
        · exact YieldsS.of_if (Or.inl ⟨by kernel_rfl, fun wS hSw => by subst hSw; (first | (go_simp; done) | (go_simp; with_reducible rfl))⟩)
        refine ⟨?_, ?_⟩
        · refine YieldsS.of_call (by kernel_rfl) (f := 13) (args := #[(.pointer (some ⟨T2.r, 0, none⟩))]) (fun wS hSw => by first | rfl | (go_simp; done)) (fun wS hSw => ?_)
          subst hSw
          refine C2.out.mono ?_
          rintro e wn ⟨rfl, rfl⟩
          exact ⟨rfl, rfl, Below.refl _ _⟩
        refine ⟨?_, ?_⟩
        · exact YieldsS.of_if (Or.inl ⟨by kernel_rfl, fun wS hSw => by subst hSw; (first | (go_simp; done) | (go_simp; with_reducible rfl))⟩)
        refine ⟨?_, ?_⟩
        · exact YieldsS.of_if (Or.inl ⟨by kernel_rfl, fun wS hSw => by subst hSw; (first | (go_simp; done) | (go_simp; with_reducible rfl))⟩)
        refine ⟨?_, ?_⟩
        · exact YieldsS.of_if (Or.inl ⟨by kernel_rfl, fun wS hSw => by subst hSw; (first | (go_simp; done) | (go_simp; with_reducible rfl))⟩)
        refine ⟨?_, ?_⟩
        · exact YieldsS.of_if (Or.inl ⟨by kernel_rfl, fun wS hSw => by subst hSw; (first | (go_simp; done) | (go_simp; with_reducible rfl))⟩)
        refine ⟨?_, ?_⟩
        · exact YieldsS.of_if (Or.inl ⟨by kernel_rfl, fun wS hSw => by subst hSw; (first | (go_simp; done) | (go_simp; with_reducible rfl))⟩)
        exact trivial
      · intro w7 hS7
        subst hS7
        refine NoPanic.normal ?_
        go_wp2
        go_ret
        refine ⟨rfl, ?_⟩
        rw [← HW.out]
        exact (BB.out.trans (HBR.out.mono (by have := BB.out.size; omega))).drew
set_option maxRecDepth 100000 in
theorem lifted (os : Os) (started : os.Started) (H : Type) (enc : TypeId × Value → H) :
    ReturnsInHanded {} Try.checked os 6 .any (Rows.ringProgressSpec.pre6 enc Try.prog Try.f6 Rows.ringProgressRow.domain false) (Rows.ringProgressSpec.post enc Try.prog Try.f6 false true false false) := by
  refine returnsInHanded_of_change (C := Try.checked) own started (by kernel_rfl) Try.func6
    (ChangeSpec.witness6 (enc := enc) (C := Try.checked) false ⟨#[], #[.int .u8 0, .slice none 0 0], []⟩ 8 (by kernel_rfl) (by kernel_rfl) (by kernel_rfl) (by kernel_rfl)) ?_
  intro W base args ds gs before hval0 hW hcnd _
  have hval : ∀ (j : Nat) t v, Try.f6.params[j]? = some t → args[j]? = some v → Value.okWide Try.prog W .any base t v := hval0
  have hW' := hW
  obtain ⟨p, q, hA0, hV, rfl, hfz, hnd⟩ := hW
  have hA : DataW.TrodAll enc Try.prog W 0 (fun _ => true) true Try.f6.params.toList args.toList ds p := hA0
  rw [Try.params6] at hA hval
  obtain ⟨v0, vs0, d0, ds0, p0, q0, hargs, rfl, rfl, h0, r0⟩ := trodAll_cons hA
  obtain ⟨v1, vs1, d1, ds1, p1, q1, rfl, rfl, rfl, h1, r1⟩ := trodAll_cons r0
  obtain ⟨rfl, rfl, rfl⟩ := trodAll_nil r1
  obtain rfl : args = #[v0, v1] := by cases args; simp_all
  obtain ⟨rfl, rfl⟩ := trodVars_none hV
  obtain ⟨a0, rfl, rfl, rfl, w0⟩ := open_int Try.underlying5 (hval 0 _ v0 rfl rfl) h0
  obtain ⟨A1, len1, cap1, rfl⟩ := okWide_slice Try.underlying22 (hval 1 _ v1 rfl rfl)
  obtain ⟨fu1, g1⟩ := h1
  obtain ⟨s1, t1, Q1, u1, o1⟩ := open_pks g1
  clear hA0 hval0
  obtain ⟨l0, m0⟩ := wf_u8 w0
  refine (walk a0 A1 len1 cap1 Q1 W s1 t1 u1 o1 l0 m0).mono fun e W' ⟨he, hg⟩ => ?_
  subst he
  exact ⟨_, rfl, post_of_law hW' rfl laidOut reads rfl Try.underlying4 rfl rfl rfl hg⟩
theorem over : Rows.ringProgressRow.holds Try.pinned (OpenSpec.ofChange Rows.ringProgressSpec) :=
  OpenClaim.holds_of_wide 6 Try.f6 rfl rfl rfl rfl rfl rfl rfl ⟨rfl, rfl, rfl, rfl, rfl⟩ rfl rfl rfl rfl rfl (by kernel_rfl) Try.func6 (by kernel_rfl)
    (of_decide_eq_true (by kernel_rfl)) (by unfold Func.isWrapper; first | (rw [if_pos (by decide +kernel)]; kernel_rfl) | (rw [if_neg (by decide +kernel)]; exact ⟨rfl, rfl⟩))
    (fun os started H enc _ => lifted os started H enc)
theorem proved : Rows.RingProgressSaid := over
end Go.Proofs.Ytbenpnecjmpcbaa.ringProgress
