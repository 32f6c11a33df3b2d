/- CallScripts is true of every script and every cut, and changes nothing that it was given. -/
import Derived.Test.YtmnkmnnngfgbgaaCll
import Derived.Test.YtmnkmnnngfgbgaaMapi
import Derived.Test.YtmnkmnnngfgbgaaRowb
import Derived.Test.YtmnkmnnngfgbgaaRows
import Derived.WalkKit
import Derived.ProofKit
import Derived.OpenShut
import Derived.Deep.DeepCutAuto
import Derived.Deep.QuietTactic
import Derived.BigQuiet
namespace Go.Proofs.Ytmnkmnnngfgbgaa.callScripts
open Go.ChangeShapes Go.WideShapes Go.ChangeAt Go.RowKit
set_option linter.unusedVariables false
theorem own : ownKnob Try.prog.godebug = none := by kernel_rfl
theorem laidOut : laidOutB Try.prog = true := by kernel_rfl
theorem reads : (Try.f5.params.toList.all fun t => Try.prog.readableRec t && decide (t < Try.prog.types.size)) = true := by kernel_rfl
/-- The ends of the first calls. -/
def ends (L : List OpV) : Nat → List Int
  | 0 => [0]
  | j + 1 => ((ES (L.take (j + 1))).length : Int) :: ends L j
theorem ends_mem (L : List OpV) (x : Int) : ∀ j, x ∈ ends L j ↔ ∃ i, i ≤ j ∧ x = ((ES (L.take i)).length : Int)
  | 0 => by
    constructor
    · intro h; exact ⟨0, Nat.le_refl _, by simpa [ends, ES] using h⟩
    · rintro ⟨i, hi, rfl⟩
      obtain rfl : i = 0 := by omega
      simp [ends, ES]
  | j + 1 => by
    rw [ends, List.mem_cons, ends_mem L x j]
    constructor
    · rintro (h | ⟨i, hi, h⟩)
      · exact ⟨j + 1, Nat.le_refl _, h⟩
      · exact ⟨i, by omega, h⟩
    · rintro ⟨i, hi, h⟩
      rcases Nat.lt_or_ge j i with h1 | h1
      · obtain rfl : i = j + 1 := by omega
        exact .inl h
      · exact .inr ⟨i, h1, h⟩
theorem ends_len (L : List OpV) : ∀ j, (ends L j).length = j + 1
  | 0 => rfl
  | j + 1 => by rw [ends, List.length_cons, ends_len L j]
theorem ES_step (L : List OpV) {j : Nat} (h : j < L.length) : (ES (L.take j)).length < (ES (L.take (j + 1))).length := by
  rw [take_succ_get L h, ES_append, List.length_append]
  have := enc_pos L[j]!
  simp [ES]
  exact enc_pos _
theorem ends_new (L : List OpV) {j : Nat} (h : j < L.length) : ((ES (L.take (j + 1))).length : Int) ∉ ends L j := by
  rw [ends_mem]
  rintro ⟨i, hi, he⟩
  have h1 := ES_mono L hi
  have h2 := ES_step L h
  omega
theorem ES_all (L : List OpV) {j : Nat} (hj : j ≤ L.length) (h : (ES L).length = (ES (L.take j)).length) : j = L.length := by
  rcases Nat.lt_or_ge j L.length with h1 | h1
  · have h2 := ES_step L h1
    have h3 := ES_mono L (show j + 1 ≤ L.length by omega)
    rw [List.take_length] at h3
    omega
  · omega
def takeQ (Q : Nat → OpV) (m : Nat) : List OpV := (List.range m).map Q
theorem takeQ_len (Q : Nat → OpV) (m : Nat) : (takeQ Q m).length = m := by simp [takeQ]
theorem rd_takeQ {w : World} {B len m : Nat} {A : Option Addr} {Q : Nat → OpV} (h : SeqAt w B A len 4 fun i => opRow (Q i)) (hm : m ≤ len) : RdQ w B A (takeQ Q m) := by
  intro h0
  rw [takeQ_len] at h0
  obtain ⟨b, off, e, hb, hc⟩ := h (by omega)
  refine ⟨b, off, e, hb, fun i hi j hj => ?_⟩
  rw [takeQ_len] at hi
  have h1 : (takeQ Q m)[i]! = Q i := by rw [getElem!_pos _ i (by rw [takeQ_len]; exact hi)]; simp [takeQ]
  show _ = (opRow (takeQ Q m)[i]!)[j]?
  rw [hc i (by omega) j hj, h1]
theorem okQ_takeQ {Q : Nat → OpV} (h : ∀ i, (Q i).ok) (m : Nat) : OkQ (takeQ Q m) := by
  intro o ho
  unfold takeQ at ho
  obtain ⟨i, _, rfl⟩ := List.mem_map.1 ho
  exact h i
/-- While the calls are written one by one: what has been written, and their ends. -/
structure At (w : World) (L : List OpV) (gm bp base : Nat) (Ap : Option Addr) (v : Value) (j : Nat) (W : World) : Prop where
  ow : OwK .u8 5 W base v (ES (L.take j))
  mp : MapAt W gm (ends L j)
  rd : RdK .u8 W bp Ap (ES L)
  be : Below w.heap.size w W
  sz : base ≤ W.heap.size
set_option maxRecDepth 100000 in
set_option maxHeartbeats 8000000 in
theorem walk (A : Option Addr) (len cap : Nat) (Q : Nat → OpV) (cut : Int) (w : World) (hlc : len ≤ cap) (hcm : cap ≤ maxLen) (hQ : SeqAt w w.heap.size A len 4 (fun i => opRow (Q i))) (hok : ∀ i, (Q i).ok) (u0 : 0 ≤ cut) (u1 : cut ≤ 65535) :
    Calls Try.prog 5 #[.slice A len cap, .int .u16 cut] w fun e w' => e = .returned (.bool true) ∧ Below w.heap.size w w' := by
  unfold maxLen at hcm
  obtain ⟨m, hm⟩ : ∃ m, min len 30 = m := ⟨_, rfl⟩
  have hm1 : m ≤ len := by omega
  have hm2 : m ≤ 30 := by omega
  obtain ⟨L, hL⟩ : ∃ L, takeQ Q m = L := ⟨_, rfl⟩
  have hLl : L.length = m := by rw [← hL, takeQ_len]
  have hrd : RdQ w w.heap.size A L := by rw [← hL]; exact rd_takeQ hQ hm1
  have hokL : OkQ L := by rw [← hL]; exact okQ_takeQ hok m
  have hes := ES_len hokL
  obtain ⟨p, hp⟩ : ∃ p, (ES L).length = p := ⟨_, rfl⟩
  rw [hp, hLl] at hes
  have hp9 : p ≤ 930 := by omega
  have HR := Lib.hid hrd
  have HOK := Lib.hid hokL
  have HLL := Lib.hid hLl
  have HM := Lib.hid hm
  have HP := Lib.hid hp
  clear hok hQ hL hLl hrd hokL hes hm hp
  go_enter Try.func5, Try.ntmps5
  go_wp2_with fail
  refine (lawake _).mono ?_
  rintro e w1 ⟨rfl, hb1⟩
  have HB1 := Lib.hid hb1
  clear hb1
  go_upto_region 3 with fail
  go_cut [0] (fun s0 wc => s0 = .slice A m cap ∧ wc = w1)
  case first =>
    by_cases h40 : len ≤ 30
    · obtain rfl : m = len := by have := HM.out; omega
      go_wp2
      go_meet
      exact ⟨rfl, rfl⟩
    · obtain rfl : m = 30 := by have := HM.out; omega
      go_wp2
      go_meet
      exact ⟨rfl, rfl⟩
  case rest =>
    obtain ⟨rfl, rfl⟩ := hcut
    obtain ⟨wA, rfl⟩ : ∃ wA, wA = wc := ⟨_, rfl⟩
    have hmc : m ≤ cap := by omega
    clear hm1 HM
    have hsc := script_any (w := wA) (c := cap) (SeqAt.below HR.out HB1.out) HB1.out.size HOK.out (by rw [HLL.out]; exact hm2)
    rw [HLL.out] at hsc
    go_wp2_with fail
    refine hsc.mono ?_
    rintro e wp ⟨vp, rfl, hop, hbp⟩
    obtain ⟨Ap, cp, rfl, hcp, hmp, hrp, _, _⟩ := hop.rd
    rw [HP.out] at hcp ⊢
    have HRP := Lib.hid hrp
    have HBP := Lib.hid (HB1.out.trans (hbp.mono HB1.out.size))
    clear hsc hop hbp hrp
    have hmm := @run_makeMap Try.prog
    go_wp2_with (refine wpList_ins rfl _ _ _ rfl (MapAt.made _) (by simp) (k := 0) (by simp) (by decide) (by decide) rfl rfl rfl ?_; intro w4 hm4 hg4; have HM4 := Lib.hid hm4; have HB4 := Lib.hid (HBP.out.trans (((Below.refl w.heap.size wp).alloc HBP.out.size (.map #[] 0)).grown hg4 (by have := HBP.out.size; simp; omega) (fun k hk => by have := HBP.out.size; injection hk with hk; omega))); have HR4 := Lib.hid ((HRP.out.below ((Below.refl _ _).alloc (Nat.le_refl _) _)).below ((Below.refl wp.heap.size (wp.alloc (.map #[] 0))).grown hg4 (by simp) (fun k hk => by injection hk with hk; omega))); have HS4 := Lib.hid (show wp.heap.size < w4.heap.size by have := hg4.size; simp at this; omega); clear hm4 hg4)
    clear hmm
    obtain ⟨gm, hgm⟩ : ∃ gm, wp.heap.size = gm := ⟨_, rfl⟩
    have HM5 := Lib.hid (show MapAt w4 gm (ends L 0) by rw [← hgm]; exact HM4.out)
    have hgs : gm < w4.heap.size := by rw [← hgm]; exact HS4.out
    have HGW := Lib.hid (show w.heap.size ≤ gm by rw [← hgm]; exact HBP.out.size)
    rw [hgm] at HR4 ⊢
    clear HM4 HS4 hgm
    go_loopw [6, 29] (fun s6 s29 wr => ∃ j : Nat, j ≤ m ∧ s29 = .int .i64 (j : Int) ∧ At w L gm gm w4.heap.size Ap s6 j wr) (fun _ s _ => m - (intOf s).toNat)
    case atStart => exact ⟨0, Nat.zero_le _, rfl, OwK.nil_ _ _ _ _, HM5.out, HR4.out, HB4.out, Nat.le_refl _⟩
    case round =>
      obtain ⟨j, hj, rfl, hat⟩ := hrel
      have HA := Lib.hid hat
      clear hat
      by_cases hjm : j < m
      · have hjL : j < L.length := by rw [HLL.out]; exact hjm
        obtain ⟨b, off, hA, hbB, q0, q1, q2, q3⟩ := RdQ.cells (SeqAt.below HR.out HA.out.be) hjL
        subst hA
        obtain ⟨⟨yk, yt, yc, yn⟩, hy⟩ : ∃ y, L[j]! = y := ⟨_, rfl⟩
        have hyo : OpV.ok ⟨yk, yt, yc, yn⟩ := by rw [← hy, getElem!_pos L j hjL]; exact HOK.out _ (List.getElem_mem hjL)
        have htk := take_succ_get L hjL
        have hnew := ends_new L hjL
        rw [hy] at q0 q1 q2 q3 htk
        simp only at q0 q1 q2 q3
        have hle : (ES (L.take (j + 1))).length ≤ 930 := by
          have h1 := ES_len (L := L.take (j + 1)) (fun x hx => HOK.out x (List.mem_of_mem_take hx))
          rw [List.length_take] at h1; omega
        have he2 : ES (L.take (j + 1)) = ES (L.take j) ++ OpV.enc ⟨yk, yt, yc, yn⟩ := by rw [htk, ES_append]; simp [ES]
        have hle2 := congrArg List.length he2
        rw [List.length_append] at hle2
        obtain ⟨x, hx⟩ : ∃ x, (ES (L.take (j + 1))).length = x := ⟨_, rfl⟩
        rw [hx] at hnew hle hle2
        have HY := Lib.hid hyo
        have HE := Lib.hid he2
        have HX := Lib.hid hx
        have HNEW := Lib.hid hnew
        have HLE := Lib.hid hle2
        have HEL := Lib.hid (show (ends L j).length ≤ 4096 by rw [ends_len]; omega)
        clear hy hyo htk hnew he2 hle2 hx
        have k0 : (0 : Int) ≤ (j : Int) := by omega
        have hsw := HA.out.sz
        go_wp2_with fail
        refine (rop_any (o := ⟨yk, yt, yc, yn⟩) _ HY.out).mono ?_
        rintro e wx ⟨vx, rfl, hox, hbx⟩
        have HBX := Lib.hid (show Below wr.heap.size wr wx from ((Below.refl wr.heap.size wr).alloc (Nat.le_refl _) _).trans (hbx.mono (by simp)))
        have HOX := Lib.hid hox
        clear hox hbx
        go_wp2_with (first | (at_builtin; refine wpList_bytes (base := w4.heap.size) (v := u6) (L := ES (L.take j)) (M := OpV.enc ⟨yk, yt, yc, yn⟩) rfl (.tmp 33) (.tmp 35) rfl rfl rfl (HA.out.ow.below HBX.out) HOX.out (enc_pos _) (by have := HLE.out; omega) (Nat.le_trans hsw HBX.out.size) ?_; intro v7 w7 ho7 hg7; rw [← HE.out] at ho7; obtain ⟨A7, c7, e7, _, _, _, _, _⟩ := ho7.rd; rw [HX.out] at e7; subst e7; have HO7 := Lib.hid ho7; have HM7 := Lib.hid ((HA.out.mp.below HBX.out (Nat.lt_of_lt_of_le hgs hsw)).kept hg7.kept (fun hc => by have := hc.2; omega)); have HB7 := Lib.hid ((HBX.out.mono hsw).trans hg7.below_); clear ho7 hg7) | (at_mapUpdate; refine wpList_put rfl _ _ _ rfl HM7.out HEL.out (k := (x : Int)) HNEW.out (by omega) (by omega) rfl rfl rfl ?_; intro w8 hm8 hg8; have HM8 := Lib.hid hm8; have HK8 := Lib.hid ((Kept.refl (fun k => k = gm) w7).grown hg8 (fun k hk => by injection hk with hk; exact .inl hk.symm)); clear hm8 hg8))
        go_roundw
        case rel =>
          have hk := HK8.out
          have hz7 := HB7.out.size
          have hww : w.heap.size ≤ gm := HGW.out
          refine ⟨j + 1, by omega, by go_num, HO7.out.kept hk (fun g hg hc => by have := (HO7.out.own_lt hg).1; omega), by rw [ends, HX.out]; exact HM8.out, ?_, ?_, Nat.le_trans (Nat.le_trans hsw hz7) hk.size⟩
          · exact (HA.out.rd.below (HB7.out.mono (Nat.le_of_lt hgs))).kept hk (by omega) (fun g hg hc => by omega)
          · exact (HA.out.be.trans (HB7.out.mono (by omega))).trans (hk.below (fun k hk => by omega) (by omega))
        case measure => simp [intOf]; omega
      · obtain rfl : j = m := by omega
        obtain ⟨wo, rfl⟩ : ∃ wo, wo = wr := ⟨_, rfl⟩
        have htl : L.take j = L := by rw [← HLL.out, List.take_length]
        have how := HA.out.ow
        rw [htl] at how
        obtain ⟨Aw, cw, rfl, _, _, hrw, _, _⟩ := how.rd
        rw [HP.out]
        have HRW := Lib.hid hrw
        have HTL := Lib.hid htl
        clear how hrw htl
        have hrs := readscript_any (w := wo) (c := cp) (L := L) (M := ES L) (T := []) HA.out.rd (by have := HA.out.sz; omega) (by rw [HP.out]; exact hcp) (by simp) HOK.out (by rw [HLL.out]; omega)
        rw [HP.out] at hrs
        go_wp2_with fail
        refine hrs.mono ?_
        rintro e w9 ⟨hb9, (⟨j', v9, hj', hq, rfl, hob⟩ | ⟨hq, _⟩)⟩
        case inr => exact absurd (by rw [List.take_length]) (hq L.length (Nat.le_refl _))
        have hjj := ES_all L hj' (congrArg List.length hq)
        rw [hjj, List.take_length] at hob
        obtain ⟨Ab, cb, rfl, hrb⟩ := hob.rd
        rw [HLL.out]
        have HRB := Lib.hid hrb
        have HB9 := Lib.hid hb9
        clear hrs hq hjj hob hrb hb9 hj'
        go_wp2_with fail
        have heq := equal_yes (w := w9) (c := cp) (c' := cw) (HA.out.rd.below (HB9.out.mono (by have := HA.out.sz; omega))) (HRW.out.below HB9.out)
        rw [HP.out] at heq
        refine heq.mono ?_
        rintro e w9' ⟨rfl, rfl⟩
        clear heq
        go_wp2
        go_loopw [63] (fun s63 wq => ∃ i : Nat, i ≤ j ∧ s63 = .int .i64 (i : Int) ∧ Below w9.heap.size w9 wq) (fun s _ => j - (intOf s).toNat)
        case atStart => exact ⟨0, Nat.zero_le _, rfl, Below.refl _ _⟩
        case round =>
          obtain ⟨i, hi, rfl, hbq⟩ := hrel
          have HBQ := Lib.hid hbq
          clear hbq
          by_cases hij : i < j
          · have hiL : i < L.length := by rw [HLL.out]; exact hij
            obtain ⟨b1, off1, hA1, hb1B, q0, q1, q2, q3⟩ := RdQ.cells (SeqAt.below HRB.out HBQ.out) hiL
            obtain ⟨b2, off2, hA2, hb2B, r0, r1, r2, r3⟩ := RdQ.cells (SeqAt.below (SeqAt.below (SeqAt.below HR.out HA.out.be) (HB9.out.mono HA.out.be.size)) (HBQ.out.mono (Nat.le_trans HA.out.be.size HB9.out.size))) hiL
            subst hA1 hA2
            obtain ⟨⟨yk, yt, yc, yn⟩, hy⟩ : ∃ y, L[i]! = y := ⟨_, rfl⟩
            rw [hy] at q0 q1 q2 q3 r0 r1 r2 r3
            simp only at q0 q1 q2 q3 r0 r1 r2 r3
            have k0 : (0 : Int) ≤ (i : Int) := by omega
            clear hy
            go_upto_region 19 with fail
            go_quiet (fail)
            go_wp2
            go_roundw
            case rel => exact ⟨i + 1, by omega, by go_num, ⟨HBQ.out.os, HBQ.out.tape, HBQ.out.output, HBQ.out.size, HBQ.out.block⟩⟩
            case measure => simp [intOf]; omega
          · obtain rfl : i = j := by omega
            obtain ⟨wz, rfl⟩ : ∃ wz, wz = wr := ⟨_, rfl⟩
            have HBZ := Lib.hid (HB9.out.trans (HBQ.out.mono HB9.out.size))
            have hgz : gm ≤ wo.heap.size := by have := HA.out.sz; omega
            have HRZ := Lib.hid (HA.out.rd.below (HBZ.out.mono hgz))
            have HMZ := Lib.hid (HA.out.mp.below HBZ.out (Nat.lt_of_lt_of_le hgs HA.out.sz))
            obtain ⟨k, hk⟩ : ∃ k, cut.toNat % (p + 1) = k := ⟨_, rfl⟩
            have hkp : k ≤ p := by have := Nat.mod_lt cut.toNat (show p + 1 > 0 by omega); omega
            have hkk : cut.tmod ((p : Int) + 1) = (k : Int) := by
              have e : ((cut.toNat % (p + 1) : Nat) : Int) = (cut.toNat : Int) % ((p + 1 : Nat) : Int) := by first | exact Int.natCast_emod _ _ | exact Int.natCast_mod _ _ | rfl
              rw [Int.tmod_eq_emod_of_nonneg u0, ← hk, e, Int.toNat_of_nonneg u0]
              rfl
            have hkk2 : cut % ((p : Int) + 1) = (k : Int) := by rw [← hkk, Int.tmod_eq_emod_of_nonneg u0]
            have hnz : ¬ ((p : Int) + 1 = 0) := by omega
            have hw1 : IntKind.i64.wrap (k : Int) = (k : Int) := IntWalk.i64_in _ (by omega)
            have hw2 : IntKind.i64.wrap cut = cut := IntWalk.i64_in _ (by omega)
            obtain ⟨M, hM⟩ : ∃ M, (ES L).take k = M := ⟨_, rfl⟩
            have hMl : M.length = k := by rw [← hM, List.length_take, HP.out]; omega
            have hrs := readscript_any (w := wz) (c := cp) (L := L) (M := M) (T := (ES L).drop k) (A := Ap) (B := gm) (by rw [← hM]; exact HRZ.out.less k) (by have := HBZ.out.size; omega) (by rw [hMl]; omega) (by rw [← hM, List.take_append_drop]) HOK.out (by rw [HLL.out]; omega)
            rw [hMl] at hrs
            have HRS := Lib.hid hrs
            have HMM := Lib.hid hM
            have HML := Lib.hid hMl
            clear hrs hM hMl hk
            go_wp2_with fail
            refine HRS.out.mono ?_
            rintro e wy ⟨hby, (⟨j', v9, hj', hq, rfl, hob⟩ | ⟨hq, rfl⟩)⟩
            · have hmem : decide ((k : Int) ∈ ends L i) = true := by
                refine decide_eq_true ((ends_mem L _ i).2 ⟨j', by rw [HLL.out] at hj'; exact hj', ?_⟩)
                rw [← hq, HML.out]
              obtain ⟨Ao, co, rfl, _⟩ := hob.rd
              have hlk := (HMZ.out.below hby (by have h1 := HBZ.out.size; have h2 := HA.out.sz; omega)).look (k := (k : Int)) (by omega) (by omega)
              rw [hmem] at hlk
              have HF := Lib.hid ((HA.out.be.trans (HBZ.out.mono HA.out.be.size)).trans (hby.mono (Nat.le_trans HA.out.be.size HBZ.out.size)))
              clear hq hob hby hmem hj'
              go_wp2
              go_ret
              exact ⟨by first | rfl | simp, HF.out⟩
            · have hmem : decide ((k : Int) ∈ ends L i) = false := by
                refine decide_eq_false fun h => ?_
                obtain ⟨i', hi', he⟩ := (ends_mem L _ i).1 h
                exact hq i' (by rw [HLL.out]; exact hi') (by rw [HML.out]; omega)
              have hlk := (HMZ.out.below hby (by have h1 := HBZ.out.size; have h2 := HA.out.sz; omega)).look (k := (k : Int)) (by omega) (by omega)
              rw [hmem] at hlk
              have HF := Lib.hid ((HA.out.be.trans (HBZ.out.mono HA.out.be.size)).trans (hby.mono (Nat.le_trans HA.out.be.size HBZ.out.size)))
              clear hq hby hmem
              go_wp2
              go_ret
              exact ⟨by first | rfl | simp, HF.out⟩
set_option maxRecDepth 100000 in
theorem lifted (os : Os) (started : os.Started) (H : Type) (enc : TypeId × Value → H) :
    ReturnsInHanded {} Try.checked os 5 .any (Rows.callScriptsSpec.pre6 enc Try.prog Try.f5 Rows.callScriptsRow.domain false) (Rows.callScriptsSpec.post enc Try.prog Try.f5 false true false false) := by
  refine returnsInHanded_of_change (C := Try.checked) own started (by kernel_rfl) Try.func5
    (ChangeSpec.witness6 (enc := enc) (C := Try.checked) false ⟨#[], #[.slice none 0 0, .int .u16 0], []⟩ 8 (by kernel_rfl) (by kernel_rfl) (by kernel_rfl) (by kernel_rfl)) ?_
  intro W base args ds gs before hval0 hW hcnd _
  have hval : ∀ (j : Nat) t v, Try.f5.params[j]? = some t → args[j]? = some v → Value.okWide Try.prog W .any base t v := hval0
  have hW' := hW
  obtain ⟨p, q, hA0, hV, rfl, hfz, hnd⟩ := hW
  have hA : DataW.TrodAll enc Try.prog W 0 (fun _ => true) true Try.f5.params.toList args.toList ds p := hA0
  rw [Try.params5] at hA hval
  obtain ⟨v0, vs0, d0, ds0, p0, q0, hargs, rfl, rfl, h0, r0⟩ := trodAll_cons hA
  obtain ⟨v1, vs1, d1, ds1, p1, q1, rfl, rfl, rfl, h1, r1⟩ := trodAll_cons r0
  obtain ⟨rfl, rfl, rfl⟩ := trodAll_nil r1
  obtain rfl : args = #[v0, v1] := by cases args; simp_all
  obtain ⟨rfl, rfl⟩ := trodVars_none hV
  obtain ⟨A0, len0, cap0, rfl⟩ := okWide_slice Try.underlying48 (hval 0 _ v0 rfl rfl)
  obtain ⟨fu0, g0⟩ := h0
  obtain ⟨s0, t0, Q0, u0, o0⟩ := open_ops g0
  obtain ⟨a1, rfl, rfl, rfl, w1⟩ := open_int Try.underlying49 (hval 1 _ v1 rfl rfl) h1
  clear hA0 hval0
  obtain ⟨l1, m1⟩ := wf_u16 w1
  refine (walk A0 len0 cap0 Q0 a1 W s0 t0 u0 o0 l1 m1).mono fun e W' ⟨he, hg⟩ => ?_
  subst he
  exact ⟨_, rfl, post_of_law hW' rfl laidOut reads rfl Try.underlying4 rfl rfl rfl hg⟩
theorem over : Rows.callScriptsRow.holds Try.pinned (OpenSpec.ofChange Rows.callScriptsSpec) :=
  OpenClaim.holds_of_wide 5 Try.f5 rfl rfl rfl rfl rfl rfl rfl ⟨rfl, rfl, rfl, rfl, rfl⟩ rfl rfl rfl rfl rfl (by kernel_rfl) Try.func5 (by kernel_rfl)
    (of_decide_eq_true (by kernel_rfl)) (by unfold Func.isWrapper; first | (rw [if_pos (by decide +kernel)]; kernel_rfl) | (rw [if_neg (by decide +kernel)]; exact ⟨rfl, rfl⟩))
    (fun os started H enc _ => lifted os started H enc)
theorem proved : Rows.CallScriptsSaid := over
end Go.Proofs.Ytmnkmnnngfgbgaa.callScripts
