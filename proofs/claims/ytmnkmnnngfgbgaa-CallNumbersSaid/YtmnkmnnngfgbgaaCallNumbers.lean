/- CallNumbers is true of every row of bytes and every number, and changes nothing that it was given. -/
import Derived.Test.YtmnkmnnngfgbgaaClk
import Derived.Test.YtmnkmnnngfgbgaaRowb
import Derived.Test.YtmnkmnnngfgbgaaRows
import Derived.WalkKit
import Derived.ProofKit
import Derived.OpenShut
import Derived.Deep.DeepCutAuto
namespace Go.Proofs.Ytmnkmnnngfgbgaa.callNumbers
open Go.ChangeShapes Go.WideShapes Go.ChangeAt Go.RowKit
set_option linter.unusedVariables false
theorem own : ownKnob Try.prog.godebug = none := by kernel_rfl
theorem laidOut : laidOutB Try.prog = true := by kernel_rfl
theorem reads : (Try.f3.params.toList.all fun t => Try.prog.readableRec t && decide (t < Try.prog.types.size)) = true := by kernel_rfl
set_option maxRecDepth 100000 in
set_option maxHeartbeats 8000000 in
theorem walk (A : Option Addr) (len cap : Nat) (K : Nat → Int) (n : Int) (w : World) (hlc : len ≤ cap) (hcm : cap ≤ maxLen) (hK : SeqAt w w.heap.size A len 1 (fun i => [.int .u8 (K i)])) (hok : (∀ i, 0 ≤ K i ∧ K i ≤ 255) ∧ (A = none → cap = 0)) (n0 : -9223372036854775808 ≤ n) (n1 : n ≤ 9223372036854775807) :
    Calls Try.prog 3 #[.slice A len cap, .int .i64 n] w fun e w' => e = .returned (.bool true) ∧ Below w.heap.size w w' := by
  unfold maxLen at hcm
  obtain ⟨m, hm⟩ : ∃ m, min len 40 = m := ⟨_, rfl⟩
  have hm1 : m ≤ len := by omega
  have hm2 : m ≤ 40 := by omega
  have hmin : min (len : Int) 40 = (m : Int) := by omega
  obtain ⟨F, hF⟩ : ∃ F, takeI K m = F := ⟨_, rfl⟩
  have hFl : F.length = m := by rw [← hF, takeI_len]
  have hrd : RdK .u8 w w.heap.size A F := by rw [← hF]; exact rd_takeI hK hm1
  have hz10 := encN_len n0 n1
  have hzp := encN_pos n
  obtain ⟨z, hz⟩ : ∃ z, (encN n).length = z := ⟨_, rfl⟩
  rw [hz] at hz10 hzp
  have HR := Lib.hid hrd
  have HNO := Lib.hid hok.2
  have HFL := Lib.hid hFl
  have HZ := Lib.hid hz
  have HM := Lib.hid hm
  clear hok hK hF hFl hrd hz hm hmin
  go_enter Try.func3, Try.ntmps3
  go_wp2_with fail
  refine (lawake _).mono ?_
  rintro e w1 ⟨rfl, hb1⟩
  have HB1 := Lib.hid hb1
  clear hb1
  go_upto_region 3 with fail
  go_cut [0] (fun s0 wc => s0 = .slice A m cap ∧ wc = w1)
  case first =>
    by_cases h40 : len ≤ 40
    · obtain rfl : m = len := by have := HM.out; omega
      go_wp2
      go_meet
      exact ⟨rfl, rfl⟩
    · obtain rfl : m = 40 := by have := HM.out; omega
      go_wp2
      go_meet
      exact ⟨rfl, rfl⟩
  case rest =>
    obtain ⟨rfl, rfl⟩ := hcut
    have hmc : m ≤ cap := by omega
    clear hm1 HM
    have HRC := Lib.hid (HR.out.below HB1.out)
    go_wp2_with fail
    have hca := clone_any (w := wc) (c := cap) HRC.out HB1.out.size (by rw [HFL.out]; omega) HNO.out
    rw [HFL.out] at hca
    refine hca.mono ?_
    rintro e w2 ⟨v2, rfl, ho2, hb2⟩
    have HO2 := Lib.hid ho2
    have HB2 := Lib.hid (HB1.out.trans (hb2.mono HB1.out.size))
    have HBZ := Lib.hid hb2
    clear ho2 hb2 hca
    go_wp2_with (at_builtin; refine wpList_byte (v := v2) (base := wc.heap.size) (L := F) (z := 90) (g := w2.heap.size) rfl (.tmp 18) (.tmp 19) rfl rfl rfl ((show PB w2 wc.heap.size v2 F from .inl HO2.out).alloc_ HBZ.out.size _) (Blk.made _ _ _) (by rw [HFL.out]; omega) (Nat.le_trans HBZ.out.size (by simp)) ?_; intro v5 w5 ho5 hg5; obtain ⟨A5, c5, e5, hc5, hm5, hr5, _, hx5⟩ := ho5.rd; obtain ⟨b5, off5, ea5, _, _⟩ := hr5 (by simp); obtain ⟨g5, eb5, _, _, hg5s, _⟩ := hx5 _ ea5; have HR5 := Lib.hid hr5; have HB5 := Lib.hid (HB2.out.trans ((hg5.alloc0 HBZ.out.size).below_.mono HB1.out.size)); rw [eb5] at e5 HR5; subst e5; have hl5 : (F ++ [(90 : Int)]).length = m + 1 := (by simp [HFL.out]); rw [hl5] at hc5 ⊢; clear ho5 hg5 hr5 hx5 ea5 eb5 hl5)
    have hFt : (F ++ [(90 : Int)]).take m = F := by rw [List.take_left' HFL.out]
    have hpb : PB w5 w5.heap.size (.slice (some ⟨g5, 0, none⟩) m m) F := .inr ⟨⟨g5, 0, none⟩, by rw [HFL.out], hg5s, by have h := HR5.out.less m; rwa [hFt] at h⟩
    refine (number_any (base := w5.heap.size) (L := F) w5 (spare_some ⟨g5, 0, none⟩ m c5 w5 (by omega) hm5) hpb (Nat.le_refl _) (by rw [HFL.out]; omega) n0 n1).mono ?_
    rintro e w6 ⟨v6, rfl, hg6, ho6⟩
    have hb6 := hg6.below
    have hc90 : w6.cell? ⟨g5, m, none⟩ = some (.int .u8 90) := by
      obtain ⟨b, off, e, _, hc⟩ := HR5.out (by simp)
      injection e with e
      injection e with e1 e2
      have h := hc m 90 (by rw [List.getElem?_append_right (by rw [HFL.out]; exact Nat.le_refl _), HFL.out]; simp)
      rw [← e1, ← e2, Nat.zero_add] at h
      exact (hb6.cell hg5s).trans h
    obtain ⟨P, hP⟩ : ∃ P, F ++ encN n = P := ⟨_, rfl⟩
    have hPl : P.length = m + z := by rw [← hP, List.length_append, HFL.out, HZ.out]
    have hPd : P.drop m = encN n := by rw [← hP, List.drop_left' HFL.out]
    rw [hP] at ho6
    obtain ⟨A6, c6, e6, hc6, hm6, hr6, _, hx6⟩ := ho6.rd
    rw [hPl] at hc6 e6
    obtain ⟨b6, off6, ea6, _, _⟩ := hr6 (by omega)
    obtain ⟨g6, eb6, _, _, hg6s, _⟩ := hx6 _ ea6
    rw [eb6] at e6 hr6
    subst e6
    have HR6 := Lib.hid hr6
    have hd6 : RdK .u8 w6 w6.heap.size (some ⟨g6, m, none⟩) (encN n) := by
      have h := hr6.cut (n := m) (c := c6) (by rw [hPl]; exact hc6)
      rw [if_neg (by omega), Option.map_some, add_at, Nat.zero_add, hPd] at h
      exact h
    have HD6 := Lib.hid hd6
    have HB6 := Lib.hid (HB5.out.trans (hb6.mono HB5.out.size))
    have HP := Lib.hid hP
    have HPL := Lib.hid hPl
    unfold maxLen at hm5 hm6
    clear hFt hpb hg6 ho6 hb6 hP hPl hPd hr6 hx6 ea6 eb6 hd6
    go_wp2_with fail
    have hre := read_any (w := w6) (T := []) (R := []) (n := n) (c := c6 - m) HD6.out rfl (by rw [HZ.out]; omega) n0 n1
    rw [HZ.out] at hre
    refine hre.mono ?_
    rintro e w7 ⟨rfl, (⟨hq, _⟩ | ⟨_, hq, _⟩ | ⟨_, rfl⟩)⟩
    · exact absurd (congrArg List.length hq) (by rw [HZ.out]; simp; omega)
    · exact absurd hq (Nat.lt_irrefl _)
    clear hre
    rw [HZ.out]
    go_wp2_with fail
    have hca := clone_any (w := w6) (c := cap) (HR.out.below HB6.out) HB6.out.size (by rw [HFL.out]; omega) HNO.out
    rw [HFL.out] at hca
    refine hca.mono ?_
    rintro e w7 ⟨v7, rfl, ho7, hb7⟩
    have HO7 := Lib.hid ho7
    have HB7 := Lib.hid hb7
    clear ho7 hb7 hca
    go_wp2_with fail
    refine (rnum_any n _ n0 n1).mono ?_
    rintro e w8 ⟨v8, rfl, ho8, hb8⟩
    have HO8 := Lib.hid ho8
    have HB8 := Lib.hid hb8
    clear ho8 hb8
    go_wp2_with (at_builtin; refine wpList_bytes (base := w6.heap.size) (L := F) (M := encN n) rfl (.tmp 41) (.tmp 43) rfl rfl rfl (HO7.out.below HB8.out) HO8.out (encN_pos n) (by rw [HFL.out, HZ.out]; omega) (Nat.le_trans HB7.out.size HB8.out.size) ?_; intro v9 w9 ho9 hg9; rw [HP.out] at ho9; obtain ⟨A9, c9, e9, _, _, hr9, _⟩ := ho9.rd; rw [HPL.out] at e9; subst e9; have HR9 := Lib.hid hr9; have hb9 := (HB7.out.trans (HB8.out.mono HB7.out.size)).trans hg9.below_; have HB9 := Lib.hid hb9; have hc9 := (hb9.cell (p := ⟨g5, m, none⟩) (klt hc90)).trans hc90; clear ho9 hg9 hr9 hb9)
    have heq := equal_yes (w := w9) (c := c6) (c' := c9) (HR6.out.below HB9.out) HR9.out
    rw [HPL.out] at heq
    refine heq.mono ?_
    rintro e wa ⟨rfl, rfl⟩
    clear heq hc90
    go_wp2
    go_ret
    exact ⟨by first | rfl | (simp; omega) | simp, HB6.out.trans (HB9.out.mono HB6.out.size)⟩
set_option maxRecDepth 100000 in
theorem lifted (os : Os) (started : os.Started) (H : Type) (enc : TypeId × Value → H) :
    ReturnsInHanded {} Try.checked os 3 .any (Rows.callNumbersSpec.pre6 enc Try.prog Try.f3 Rows.callNumbersRow.domain false) (Rows.callNumbersSpec.post enc Try.prog Try.f3 false true false false) := by
  refine returnsInHanded_of_change (C := Try.checked) own started (by kernel_rfl) Try.func3
    (ChangeSpec.witness6 (enc := enc) (C := Try.checked) false ⟨#[], #[.slice none 0 0, .int .i64 0], []⟩ 8 (by kernel_rfl) (by kernel_rfl) (by kernel_rfl) (by kernel_rfl)) ?_
  intro W base args ds gs before hval0 hW hcnd _
  have hval : ∀ (j : Nat) t v, Try.f3.params[j]? = some t → args[j]? = some v → Value.okWide Try.prog W .any base t v := hval0
  have hW' := hW
  obtain ⟨p, q, hA0, hV, rfl, hfz, hnd⟩ := hW
  have hA : DataW.TrodAll enc Try.prog W 0 (fun _ => true) true Try.f3.params.toList args.toList ds p := hA0
  rw [Try.params3] at hA hval
  obtain ⟨v0, vs0, d0, ds0, p0, q0, hargs, rfl, rfl, h0, r0⟩ := trodAll_cons hA
  obtain ⟨v1, vs1, d1, ds1, p1, q1, rfl, rfl, rfl, h1, r1⟩ := trodAll_cons r0
  obtain ⟨rfl, rfl, rfl⟩ := trodAll_nil r1
  obtain rfl : args = #[v0, v1] := by cases args; simp_all
  obtain ⟨rfl, rfl⟩ := trodVars_none hV
  obtain ⟨A0, len0, cap0, rfl⟩ := okWide_slice Try.underlying22 (hval 0 _ v0 rfl rfl)
  obtain ⟨fu0, g0⟩ := h0
  obtain ⟨s0, t0, Q0, u0, o0⟩ := open_u8n g0
  obtain ⟨a1, rfl, rfl, rfl, w1⟩ := open_int Try.underlying2 (hval 1 _ v1 rfl rfl) h1
  clear hA0 hval0
  obtain ⟨l1, m1⟩ := wf_i64 w1
  refine (walk A0 len0 cap0 Q0 a1 W s0 t0 u0 o0 l1 m1).mono fun e W' ⟨he, hg⟩ => ?_
  subst he
  exact ⟨_, rfl, post_of_law hW' rfl laidOut reads rfl Try.underlying4 rfl rfl rfl hg⟩
theorem over : Rows.callNumbersRow.holds Try.pinned (OpenSpec.ofChange Rows.callNumbersSpec) :=
  OpenClaim.holds_of_wide 3 Try.f3 rfl rfl rfl rfl rfl rfl rfl ⟨rfl, rfl, rfl, rfl, rfl⟩ rfl rfl rfl rfl rfl (by kernel_rfl) Try.func3 (by kernel_rfl)
    (of_decide_eq_true (by kernel_rfl)) (by unfold Func.isWrapper; first | (rw [if_pos (by decide +kernel)]; kernel_rfl) | (rw [if_neg (by decide +kernel)]; exact ⟨rfl, rfl⟩))
    (fun os started H enc _ => lifted os started H enc)
theorem proved : Rows.CallNumbersSaid := over
end Go.Proofs.Ytmnkmnnngfgbgaa.callNumbers
