/- RingOrders is true of every capacity's number and every list of picks, and changes nothing that it was given. -/
import Derived.Test.YtbenpnecjmpcbaaTpq
import Derived.Test.YtbenpnecjmpcbaaRact
import Derived.Test.YtbenpnecjmpcbaaRowb
import Derived.Test.YtbenpnecjmpcbaaRows
import Derived.WalkKit
import Derived.SizedLaws
import Derived.ProofKit
import Derived.OpenShut
import Derived.Deep.DeepCutAuto
namespace Go.Proofs.Ytbenpnecjmpcbaa.ringOrders
open Go.ChangeShapes Go.WideShapes Go.ChangeAt Go.RowKit
set_option linter.unusedVariables false
theorem own : ownKnob Try.prog.godebug = none := by kernel_rfl
theorem laidOut : laidOutB Try.prog = true := by kernel_rfl
theorem reads : (Try.f5.params.toList.all fun t => Try.prog.readableRec t && decide (t < Try.prog.types.size)) = true := by kernel_rfl
theorem sized_len {H : Type} {enc : TypeId × Value → H} {P : Program} {w : World} {fuel : Nat} {t e : TypeId} {A : Option Addr} {len cap : Nat} {d : DataW H} {p : List MemPlace} {ts : List TypeId} {ds : List (DataW H)} {j : Nat} (ht : P.underlying t = some (.slice e)) (h : DataW.trod enc P w 0 (fun _ => true) true fuel t [.slice A len cap] = some (d, p))
    (hs : (DataW.weightsEach P ts ds).all (· ≤ reachBytes) = true) (hj : ts[j]? = some t) (hd : ds[j]? = some d) : len * P.bytesOf e ≤ 140737488351232 := by
  rcases Go.Deep.open_slice ht h with ⟨hc, _⟩ | ⟨a, len', cap', m, n, D, Pl, hc, _, hl, _, hm, hx, _⟩
  · simp only [List.cons.injEq, Value.slice.injEq, and_true] at hc
    obtain ⟨rfl, rfl, rfl⟩ := hc
    omega
  · simp only [List.cons.injEq, Value.slice.injEq, and_true] at hc
    obtain ⟨rfl, rfl, rfl⟩ := hc
    simp only [Prod.mk.injEq] at hx
    obtain ⟨rfl, rfl⟩ := hx
    have h1 := sized_slice hs hj hd ht
    simp only [List.length_map, List.length_range, reachBytes] at h1
    have : len * P.bytesOf e ≤ (len + (m - len)) * P.bytesOf e := Nat.mul_le_mul_right _ (by omega)
    omega
theorem seq_up {w : World} {B B' : Nat} {A : Option Addr} {len sz : Nat} {row : Nat → List Value} (h : SeqAt w B A len sz row) (hb : B ≤ B') : SeqAt w B' A len sz row := fun h0 => by
  obtain ⟨b, off, e, h1, h2⟩ := h h0
  exact ⟨b, off, e, Nat.lt_of_lt_of_le h1 hb, h2⟩
def ownL (Q : Nat → Pk) (k : Nat) : List Pk := (List.range k).map (ownQ Q)
theorem ownL_len (Q : Nat → Pk) (k : Nat) : (ownL Q k).length = k := by simp [ownL]
theorem ownL_succ (Q : Nat → Pk) (k : Nat) : ownL Q (k + 1) = ownL Q k ++ [ownQ Q k] := by simp [ownL, List.range_succ]
theorem ownL_get (Q : Nat → Pk) {k i : Nat} (h : i < k) : (ownL Q k)[i]! = ownQ Q i := by
  rw [getElem!_pos _ _ (by rw [ownL_len]; exact h)]
  simp [ownL]
theorem grown_below {w w' : World} {row : Option Nat} {B : Nat} (hg : w.grownBy w' row) (hr : ∀ k, row = some k → B ≤ k) (hB : B ≤ w.heap.size) : Below B w w' := ((Kept.refl (fun k => row = some k) w).grown hg (fun k hk => .inl hk)).below hr hB
theorem PopAt.more {w : World} {b m m' : Nat} {f : Int → Option Dn} (h : PopAt w b f m) (hm : m ≤ m' := by omega) : PopAt w b f m' := by
  obtain ⟨D, h1, h2⟩ := h
  exact ⟨D, h1.mono hm, h2⟩
set_option maxRecDepth 100000 in
set_option maxHeartbeats 8000000 in
theorem walk (x : Int) (A : Option Addr) (len cap : Nat) (Q : Nat → Pk) (w : World) (hl : len ≤ cap) (hc : cap ≤ maxLen) (hQ : SeqAt w w.heap.size A len 3 (fun i => pkRow (Q i))) (hok : ∀ i, i < len → (Q i).ok) (hsz : len * 16 ≤ 140737488351232) (x0 : 0 ≤ x) (x1 : x ≤ 255) :
    Calls Try.prog 5 #[.int .u8 x, .slice A len cap] w fun e w' => e = .returned (.bool true) ∧ Below w.heap.size w w' := by
  have n2 : 2 ≤ capE x := by have := capE_cases x; omega
  have HQ := Lib.hid hQ
  have HOK := Lib.hid hok
  clear hQ hok
  go_enter Try.func5, Try.ntmps5
  go_wp2_with (go_at_call 7; refine (awaker _).mono ?_; rintro e w0 ⟨rfl, hb0⟩)
  have hz0 := hb0.size
  have HB0 := Lib.hid hb0
  clear hb0
  go_loopw [5, 26] (fun s5 s26 wr => ∃ k, k ≤ len ∧ s26 = .int .i64 (k : Nat) ∧ OwK wr w0.heap.size s5 (ownL Q k) ∧ Below w0.heap.size w0 wr) (fun _ i _ => len - (intOf i).toNat)
  case atStart => exact ⟨0, Nat.zero_le _, rfl, OwK.nil_ _ _, Below.refl _ _⟩
  case round =>
    obtain ⟨k, hk, rfl, hW, hbr⟩ := hrel
    have hzr := hbr.size
    have hkm : (k : Int) ≤ 8796093021952 := by omega
    obtain ⟨Ao, co, e5, ⟨hlc, hcm⟩, hrd, hob⟩ := hW.rd
    rw [ownL_len] at e5 hlc hrd
    subst e5
    by_cases hlt : k < len
    · obtain ⟨kb, ko, rfl, hkb, hkc⟩ := HQ.out (by omega)
      have hq : ∀ j, j < 3 → wr.cell? ⟨kb, ko + k * 3 + j, none⟩ = (pkRow (Q k))[j]? := fun j hj => ((HB0.out.mono (Nat.le_refl _) |>.trans (hbr.mono hz0)).cell hkb).trans (hkc k hlt j hj)
      obtain ⟨⟨t, d, v⟩, hqe⟩ : ∃ q, Q k = q := ⟨_, rfl⟩
      rw [hqe] at hq
      have q0 : wr.cell? ⟨kb, ko + k * 3, none⟩ = some (.int .u8 t) := hq 0 (by omega)
      have q1 : wr.cell? ⟨kb, ko + k * 3 + 1, none⟩ = some (.int .u8 d) := hq 1 (by omega)
      have q2 : wr.cell? ⟨kb, ko + k * 3 + 2, none⟩ = some (.int .u64 v) := hq 2 (by omega)
      have hkr : kb < wr.heap.size := by omega
      have hw1 : IntKind.u64.wrap (k : Int) = (k : Int) := IntWalk.u64_in _ (by omega)
      have hw2 : IntKind.u64.wrap ((k : Int) + 1) = (k : Int) + 1 := IntWalk.u64_in _ (by omega)
      have HW := Lib.hid hW
      have HBR := Lib.hid hbr
      have HE := Lib.hid hqe
      clear hq hkc hqe hW hbr hrd hob
      go_wp2_with (at_builtin; refine wpList_pk (z := ⟨t, d, (k : Int) + 1⟩) (g := wr.heap.size + 1) Try.underlying22 rfl (.tmp 35) (.tmp 37) rfl rfl rfl (HW.out.below (((Below.refl _ _).alloc (Nat.le_refl _) _).alloc (by simp) _)) (Blk.new_ (by simp)) (by rw [ownL_len]; omega) (by simp; omega) ?_; intro v7 w7 hO7 hg7)
      have HO7 := Lib.hid hO7
      have HG7 := Lib.hid hg7
      clear hO7 hg7
      go_roundw
      case measure => simp [intOf]; omega
      case rel =>
        refine ⟨k + 1, by omega, by go_num, ?_, ?_⟩
        · rw [ownL_succ, show ownQ Q k = ⟨t, d, (k : Int) + 1⟩ from by unfold ownQ; rw [HE.out]]
          exact HO7.out
        · exact ((HBR.out.alloc hzr _).alloc (by simp; omega) _).trans (grown_below HG7.out (fun y hy => (HW.out.own_lt hy).1) (by simp; omega))
    · have ek : k = len := by omega
      subst ek
      have hsq : SeqAt wr wr.heap.size Ao k 3 (fun i => pkRow (ownQ Q i)) := fun h0 => by
        obtain ⟨b, off, e, hb, hcc⟩ := hrd h0
        exact ⟨b, off, e, hb, fun i hi j hj => by rw [hcc i hi j hj]; show (pkRow (ownL Q k)[i]!)[j]? = _; rw [ownL_get Q hi]⟩
      have hoq : ∀ i, i < k → (ownQ Q i).ok := fun i hi => by
        obtain ⟨h1, h2, h3⟩ := HOK.out i hi
        exact ⟨h1, h2, by show (0 : Int) ≤ (i : Int) + 1 ∧ (i : Int) + 1 ≤ _; omega⟩
      have HSQ := Lib.hid hsq
      have HOQ := Lib.hid hoq
      have HBR := Lib.hid (HB0.out.trans (hbr.mono hz0))
      clear hsq hoq hW hbr hrd hob hlt HQ HOK HB0
      have hmm := @run_makeMap Try.prog
      go_wp2_with (first
        | (go_at_call 8; refine (topen _ x0 x1).mono ?_; rintro e w1 ⟨T, rfl, hT, hb1⟩; have hz1 := hb1.size)
        | (go_at_call 9; refine (trun (B := wr.heap.size) (Q := ownQ Q) w1 n2 hz1 hT (ts0_ok (by omega) _) (HSQ.out.below hb1) HOQ.out hlc hcm).mono ?_; rintro e w2 ⟨v2, T2, rfl, et2, hT2, ok2, ho2, hb2⟩; have hz2 := hb2.size; have p2 := tsRun_T (Q := Q) (ts0_ok (n := capE x) (by omega) (fun _ => 0)) n2 ⟨_, _, _, _, _, ts0_OI _, ts0_TI _⟩ (min k 200) (by omega); obtain ⟨S, hS⟩ : ∃ X, tsRun (capE x) (ownQ Q) (min k 200) (ts0 (rg0 (capE x)) (fun _ => 0)) = X := ⟨_, rfl⟩; rw [hS] at hT2 ok2 ho2 p2; have HB2 := Lib.hid (hb1.trans hb2); clear hS hb1 hb2 hT hT2; obtain ⟨Ao2, co2, ev2, -, -⟩ := ho2.rd; subst ev2))
      obtain ⟨val, PL, OL, tT, tH, hOI, hTI⟩ := p2
      have hlo2 : S.out.length ≤ 200 := ok2.len
      have hPv : ∀ d, d ∈ S.out → d.well = true → 0 ≤ d.v ∧ d.v ≤ 18446744073709551615 := fun d hd hw => by
        rcases hTI.ok d hd with e | e
        · obtain ⟨p, p1, p2, -, -⟩ := hTI.oP d hd hw e
          have := hOI.uv p p1
          rw [p2]; omega
        · obtain ⟨p, -, p1, p2, -, -⟩ := hTI.oO d hd hw e
          have := hOI.uv p p1
          rw [p2]; omega
      have HPV := Lib.hid hPv
      have HOK2 := Lib.hid hTI.ok
      have HFI := Lib.hid (fun a b x y => fifo (a := a) (b := b) (x := x) (y := y) hOI.ci hTI)
      have HBL := Lib.hid (HBR.out.trans (HB2.out.mono HBR.out.size))
      clear hPv hOI hTI ok2 HBR HB2 HSQ HOQ
      clear hmm
      have hz2b := HBL.out.size
      go_loopw [13, 53] (fun s13 s53 wr => ∃ m f, m ≤ S.out.length ∧ s53 = .int .i64 (m : Nat) ∧ PopAt wr w2.heap.size f m ∧ (∀ v d, f v = some d → d ∈ S.out ∧ d.kind = 2 ∧ d.well = true ∧ d.v = v) ∧ OwD wr w1.heap.size (.slice Ao2 S.out.length co2) S.out ∧ Below w2.heap.size w2 wr) (fun _ i _ => S.out.length - (intOf i).toNat)
      case atStart => exact ⟨0, _, Nat.zero_le _, rfl, PopAt.made w2, fun v d h => (by cases h), ho2.below ((Below.refl _ _).alloc (Nat.le_refl _) _), (Below.refl _ _).alloc (Nat.le_refl _) _⟩
      case round =>
        obtain ⟨m, f, hm, rfl, hpa, hf, hod, hbl⟩ := hrel
        have hzl := hbl.size
        have hbz := hpa.lt
        by_cases hlt2 : m < S.out.length
        · obtain ⟨Ax, cx, ex, hrdx, -⟩ := hod.rd
          cases ex
          obtain ⟨kb, ko, rfl, hkb, hkc⟩ := hrdx (by omega)
          obtain ⟨⟨dk, dv, db, de, dw, dr⟩, hde⟩ : ∃ d, S.out[m]! = d := ⟨_, rfl⟩
          have hq : ∀ j, j < 6 → wr.cell? ⟨kb, ko + m * 6 + j, none⟩ = (dnRow ⟨dk, dv, db, de, dw, dr⟩)[j]? := fun j hj => by rw [← hde]; exact hkc m hlt2 j hj
          have hmem : (⟨dk, dv, db, de, dw, dr⟩ : Dn) ∈ S.out := by rw [← hde, getElem!_pos S.out m hlt2]; exact List.getElem_mem _
          have d0 : wr.cell? ⟨kb, ko + m * 6, none⟩ = some (.int .i64 dk) := hq 0 (by omega)
          have d1 : wr.cell? ⟨kb, ko + m * 6 + 1, none⟩ = some (.int .u64 dv) := hq 1 (by omega)
          have d2 : wr.cell? ⟨kb, ko + m * 6 + 2, none⟩ = some (.int .i64 db) := hq 2 (by omega)
          have d3 : wr.cell? ⟨kb, ko + m * 6 + 3, none⟩ = some (.int .i64 de) := hq 3 (by omega)
          have d4 : wr.cell? ⟨kb, ko + m * 6 + 4, none⟩ = some (.bool dw) := hq 4 (by omega)
          have d5 : wr.cell? ⟨kb, ko + m * 6 + 5, none⟩ = some (.int .i64 dr) := hq 5 (by omega)
          have HMEM := Lib.hid hmem
          have HPA := Lib.hid hpa
          have HF := Lib.hid hf
          have HOD := Lib.hid hod
          have HBL2 := Lib.hid hbl
          have hAL := ((Below.refl wr.heap.size wr).alloc (Nat.le_refl _) (.cells #[.int .i64 dk, .int .u64 dv, .int .i64 db, .int .i64 de, .bool dw, .int .i64 dr] dnT))
          have HAL := Lib.hid hAL
          clear hq hkc hde hmem hpa hf hod hbl hrdx hAL
          by_cases hkd : dk = 2
          · subst hkd
            cases dw with
            | true =>
              obtain ⟨v0, v1⟩ := HPV.out _ HMEM.out rfl
              have v0' : 0 ≤ dv := v0
              have v1' : dv ≤ 18446744073709551615 := v1
              clear v0 v1
              go_wp2_with (at_mapUpdate; refine wpList_pop rfl _ _ _ rfl (HPA.out.below HAL.out) (by omega) (d := ⟨2, dv, db, de, true, dr⟩) v0' v1' rfl rfl rfl ?_; intro w7 hm7 hg7; have HM7 := Lib.hid hm7; have HG7 := Lib.hid hg7; clear hm7 hg7)
              go_roundw
              case measure => simp [intOf]; omega
              case rel =>
                (try refine ⟨_, _, ?_, rfl, rfl⟩)
                have hb7 : Below w2.heap.size _ w7 := grown_below HG7.out (fun q hq => by cases hq; exact Nat.le_refl _) (by simp; omega)
                refine ⟨m + 1, _, by omega, by go_num, HM7.out, fun v d h => ?_, ?_, HBL2.out.trans ((HAL.out.mono hzl).trans hb7)⟩
                · have h' : (if v = dv then some (⟨2, dv, db, de, true, dr⟩ : Dn) else f v) = some d := h
                  by_cases e : v = dv
                  · rw [if_pos e] at h'
                    cases h'
                    exact ⟨HMEM.out, rfl, rfl, e.symm⟩
                  · rw [if_neg e] at h'
                    exact HF.out v d h'
                · exact (HOD.out.below HAL.out).kept ((Kept.refl (fun q => q = w2.heap.size) _).grown HG7.out (fun q hq => .inl (by cases hq; rfl))) (fun q hq e => by
                    obtain ⟨-, cs, hcs⟩ := HOD.out.own_lt hq
                    obtain ⟨D, ⟨es, clock, hb1, -⟩, -⟩ := HPA.out
                    rw [e] at hcs
                    unfold Blk at hcs
                    rw [hb1] at hcs
                    cases hcs)
            | false =>
              go_wp2
              go_roundw
              case measure => simp [intOf]; omega
              case rel => exact ⟨m + 1, f, by omega, by go_num, HPA.out.below HAL.out |> (fun (h : PopAt _ _ f m) => PopAt.more h), HF.out, HOD.out.below HAL.out, HBL2.out.trans (HAL.out.mono hzl)⟩
          · have hkb2 : (dk == 2) = false := by simpa using hkd
            go_wp2
            go_roundw
            case measure => simp [intOf]; omega
            case rel => exact ⟨m + 1, f, by omega, by go_num, PopAt.more (HPA.out.below HAL.out), HF.out, HOD.out.below HAL.out, HBL2.out.trans (HAL.out.mono hzl)⟩
        · have em : m = S.out.length := by omega
          subst em
          have HPA := Lib.hid hpa
          have HF := Lib.hid hf
          have HOD := Lib.hid hod
          have HBL2 := Lib.hid hbl
          obtain ⟨wM, hwM⟩ : ∃ X, X = wr := ⟨wr, rfl⟩
          subst hwM
          clear hpa hf hod hbl
          go_wp2
          go_loopw [71] (fun s71 wr => ∃ i, i ≤ S.out.length ∧ s71 = .int .i64 (i : Nat) ∧ Below wM.heap.size wM wr) (fun i _ => S.out.length - (intOf i).toNat)
          case atStart => exact ⟨0, Nat.zero_le _, rfl, Below.refl _ _⟩
          case round =>
            obtain ⟨i, hi, rfl, hbi⟩ := hrel
            have hzi := hbi.size
            by_cases hlti : i < S.out.length
            · have hodi := HOD.out.below hbi
              have hpai := HPA.out.below hbi
              obtain ⟨Ax, cx, ex, hrdx, -⟩ := hodi.rd
              cases ex
              obtain ⟨kba, koa, rfl, hkba, hkca⟩ := hrdx (by omega)
              obtain ⟨⟨ak, av, ab, ae, aw, ar⟩, hae⟩ : ∃ d, S.out[i]! = d := ⟨_, rfl⟩
              have hqa : ∀ j, j < 6 → wr.cell? ⟨kba, koa + i * 6 + j, none⟩ = (dnRow ⟨ak, av, ab, ae, aw, ar⟩)[j]? := fun j hj => by rw [← hae]; exact hkca i hlti j hj
              have hmema : (⟨ak, av, ab, ae, aw, ar⟩ : Dn) ∈ S.out := by rw [← hae, getElem!_pos S.out i hlti]; exact List.getElem_mem _
              have a0 : wr.cell? ⟨kba, koa + i * 6, none⟩ = some (.int .i64 ak)   := hqa 0 (by omega)
              have a1 : wr.cell? ⟨kba, koa + i * 6 + 1, none⟩ = some (.int .u64 av)   := hqa 1 (by omega)
              have a2 : wr.cell? ⟨kba, koa + i * 6 + 2, none⟩ = some (.int .i64 ab)   := hqa 2 (by omega)
              have a3 : wr.cell? ⟨kba, koa + i * 6 + 3, none⟩ = some (.int .i64 ae)   := hqa 3 (by omega)
              have a4 : wr.cell? ⟨kba, koa + i * 6 + 4, none⟩ = some (.bool aw)   := hqa 4 (by omega)
              have a5 : wr.cell? ⟨kba, koa + i * 6 + 5, none⟩ = some (.int .i64 ar)   := hqa 5 (by omega)
              have hALa := ((Below.refl wr.heap.size wr).alloc (Nat.le_refl _) (.cells #[.int .i64 ak, .int .u64 av, .int .i64 ab, .int .i64 ae, .bool aw, .int .i64 ar] dnT))
              have hodA := hodi.below hALa
              have hpaA := hpai.below hALa
              have PBA := Lib.hid (Blk.made wr dnT #[.int .i64 ak, .int .u64 av, .int .i64 ab, .int .i64 ae, .bool aw, .int .i64 ar])
              have HMA := Lib.hid hmema
              have HODA := Lib.hid hodA
              have HPAA := Lib.hid hpaA
              have HBA := Lib.hid (hbi.trans (hALa.mono hzi))
              clear hqa hkca hae hmema hodi hpai hrdx hALa hodA hpaA hbi
              obtain ⟨wo, rfl⟩ : ∃ wo, wo = wr := ⟨wr, rfl⟩
              go_wp2
              go_loopw [77] (fun s77 wr => ∃ j, j ≤ S.out.length ∧ s77 = .int .i64 (j : Nat) ∧ Below (wo.heap.size + 1) (wo.alloc (.cells #[.int .i64 ak, .int .u64 av, .int .i64 ab, .int .i64 ae, .bool aw, .int .i64 ar] dnT)) wr) (fun j _ => S.out.length - (intOf j).toNat)
              case atStart => exact ⟨0, Nat.zero_le _, rfl, Below.refl _ _⟩
              case round =>
                obtain ⟨j, hj, rfl, hbj⟩ := hrel
                have hzj := hbj.size
                have hso : (wo.alloc (.cells #[.int .i64 ak, .int .u64 av, .int .i64 ab, .int .i64 ae, .bool aw, .int .i64 ar] dnT)).heap.size = wo.heap.size + 1 := by simp
                have hbj2 : Below (wo.alloc (.cells #[.int .i64 ak, .int .u64 av, .int .i64 ab, .int .i64 ae, .bool aw, .int .i64 ar] dnT)).heap.size (wo.alloc (.cells #[.int .i64 ak, .int .u64 av, .int .i64 ab, .int .i64 ae, .bool aw, .int .i64 ar] dnT)) wr := by rw [hso]; exact hbj
                rw [hso] at hzj
                by_cases hltj : j < S.out.length
                · have hodj := HODA.out.below hbj2
                  have hpaj := HPAA.out.below hbj2
                  have PA := PBA.out.below_ hbj (by omega)
                  have ca0 : wr.cell? ⟨wo.heap.size, 0, none⟩ = some (.int .i64 ak) := PA.val rfl
                  have ca1 : wr.cell? ⟨wo.heap.size, 1, none⟩ = some (.int .u64 av) := PA.val rfl
                  have ca3 : wr.cell? ⟨wo.heap.size, 3, none⟩ = some (.int .i64 ae) := PA.val rfl
                  have ca4 : wr.cell? ⟨wo.heap.size, 4, none⟩ = some (.bool aw) := PA.val rfl
                  obtain ⟨Ay, cy, ey, hrdy, -⟩ := hodj.rd
                  cases ey
                  obtain ⟨⟨bk, bv, bb, be, bw, br⟩, hbe⟩ : ∃ d, S.out[j]! = d := ⟨_, rfl⟩
                  have hrdy' := hrdy (by omega)
                  obtain ⟨kb2, ko2, e2, hkb2, hkc2⟩ := hrdy'
                  cases e2
                  have hq : ∀ l, l < 6 → wr.cell? ⟨kba, koa + j * 6 + l, none⟩ = (dnRow ⟨bk, bv, bb, be, bw, br⟩)[l]? := fun l hl => by rw [← hbe]; exact hkc2 j hltj l hl
                  have hmemb : (⟨bk, bv, bb, be, bw, br⟩ : Dn) ∈ S.out := by rw [← hbe, getElem!_pos S.out j hltj]; exact List.getElem_mem _
                  have rb0 : wr.cell? ⟨kba, koa + j * 6, none⟩ = some (.int .i64 bk) := hq 0 (by omega)
                  have rb1 : wr.cell? ⟨kba, koa + j * 6 + 1, none⟩ = some (.int .u64 bv) := hq 1 (by omega)
                  have rb2 : wr.cell? ⟨kba, koa + j * 6 + 2, none⟩ = some (.int .i64 bb) := hq 2 (by omega)
                  have rb3 : wr.cell? ⟨kba, koa + j * 6 + 3, none⟩ = some (.int .i64 be) := hq 3 (by omega)
                  have rb4 : wr.cell? ⟨kba, koa + j * 6 + 4, none⟩ = some (.bool bw) := hq 4 (by omega)
                  have rb5 : wr.cell? ⟨kba, koa + j * 6 + 5, none⟩ = some (.int .i64 br) := hq 5 (by omega)
                  have hALb := ((Below.refl wr.heap.size wr).alloc (Nat.le_refl _) (.cells #[.int .i64 bk, .int .u64 bv, .int .i64 bb, .int .i64 be, .bool bw, .int .i64 br] dnT))
                  have HMB := Lib.hid hmemb
                  have HPJ := Lib.hid hpaj
                  have HBJ := Lib.hid hbj
                  have HALB := Lib.hid hALb
                  have low : wo.heap.size < wr.heap.size := by omega
                  clear hq hkc2 hbe hmemb hodj hpaj hrdy hbj hbj2 hALb PA hso
                  by_cases hak : ak = 0
                  · subst hak
                    by_cases hbk : bk = 0
                    · subst hbk
                      cases aw with
                      | false =>
                        go_wp2
                        go_roundw
                        case measure => simp [intOf]; omega
                        case rel => exact ⟨j + 1, by omega, by go_num, HBJ.out.trans ((HALB.out.mono (by omega)))⟩
                      | true =>
                        cases bw with
                        | false =>
                          go_wp2
                          go_roundw
                          case measure => simp [intOf]; omega
                          case rel => exact ⟨j + 1, by omega, by go_num, HBJ.out.trans ((HALB.out.mono (by omega)))⟩
                        | true =>
                          by_cases hab : ae < bb
                          · have hge1 : decide (bb ≤ ae) = false := decide_eq_false (by omega)
                            obtain ⟨a0, a1⟩ := HPV.out _ HMA.out rfl
                            obtain ⟨b0, b1⟩ := HPV.out _ HMB.out rfl
                            have a0' : 0 ≤ av := a0
                            have a1' : av ≤ 18446744073709551615 := a1
                            have b0' : 0 ≤ bv := b0
                            have b1' : bv ≤ 18446744073709551615 := b1
                            have hl1 := (HPJ.out.below HALB.out).look a0' a1'
                            have hfx := HF.out av
                            have hfy := HF.out bv
                            have HFX := Lib.hid hfx
                            have HFY := Lib.hid hfy
                            obtain ⟨⟨xk, xv, xb, xe, xw, xr⟩, hX⟩ : ∃ d, (f av).getD dn0 = d := ⟨_, rfl⟩
                            obtain ⟨⟨yk, yv, yb, ye, yw, yr⟩, hY⟩ : ∃ d, (f bv).getD dn0 = d := ⟨_, rfl⟩
                            obtain ⟨FX, hFX⟩ : ∃ c, (f av).isSome = c := ⟨_, rfl⟩
                            obtain ⟨FY, hFY⟩ : ∃ c, (f bv).isSome = c := ⟨_, rfl⟩
                            have hALx := ((Below.refl (wr.alloc (.cells #[.int .i64 0, .int .u64 bv, .int .i64 bb, .int .i64 be, .bool true, .int .i64 br] dnT)).heap.size (wr.alloc (.cells #[.int .i64 0, .int .u64 bv, .int .i64 bb, .int .i64 be, .bool true, .int .i64 br] dnT))).alloc (Nat.le_refl _) (.cells #[.int .i64 xk, .int .u64 xv, .int .i64 xb, .int .i64 xe, .bool xw, .int .i64 xr] dnT))
                            have hl2 := ((HPJ.out.below HALB.out).below hALx).look b0' b1'
                            rw [hX, hFX] at hl1
                            rw [hY, hFY] at hl2
                            have HX := Lib.hid hX
                            have HY := Lib.hid hY
                            have HFX2 := Lib.hid hFX
                            have HFY2 := Lib.hid hFY
                            clear hfx hfy hX hY hFX hFY hALx a0 a1 b0 b1
                            cases FX with
                            | false =>
                              go_wp2
                              go_roundw
                              case measure => simp [intOf]; omega
                              case rel => exact ⟨j + 1, by omega, by go_num, ((HBJ.out.trans (HALB.out.mono (by omega))).alloc (by simp; omega) _).alloc (by simp; omega) _⟩
                            | true =>
                              cases FY with
                              | false =>
                                go_wp2
                                go_roundw
                                case measure => simp [intOf]; omega
                                case rel => exact ⟨j + 1, by omega, by go_num, ((HBJ.out.trans (HALB.out.mono (by omega))).alloc (by simp; omega) _).alloc (by simp; omega) _⟩
                              | true =>
                                have hfi : xb ≤ ye := by
                                  have gx : f av = some ⟨xk, xv, xb, xe, xw, xr⟩ := by
                                    have h1 := HFX2.out
                                    have h2 := HX.out
                                    cases hc : f av with
                                    | none => rw [hc] at h1; cases h1
                                    | some d => rw [hc] at h2; exact congrArg some h2
                                  have gy : f bv = some ⟨yk, yv, yb, ye, yw, yr⟩ := by
                                    have h1 := HFY2.out
                                    have h2 := HY.out
                                    cases hc : f bv with
                                    | none => rw [hc] at h1; cases h1
                                    | some d => rw [hc] at h2; exact congrArg some h2
                                  obtain ⟨x1, x2, x3, x4⟩ := HFX.out _ gx
                                  obtain ⟨y1, y2, y3, y4⟩ := HFY.out _ gy
                                  exact HFI.out _ _ _ _ HMA.out HMB.out x1 y1 rfl rfl x3 y3 rfl rfl x2 y2 hab x4 y4
                                have hfd : decide (ye < xb) = false := decide_eq_false (by omega)
                                clear hfi
                                go_wp2
                                go_roundw
                                case measure => simp [intOf]; omega
                                case rel => exact ⟨j + 1, by omega, by go_num, ((HBJ.out.trans (HALB.out.mono (by omega))).alloc (by simp; omega) _).alloc (by simp; omega) _⟩
                          · have hge1 : decide (bb ≤ ae) = true := decide_eq_true (by omega)
                            go_wp2
                            go_roundw
                            case measure => simp [intOf]; omega
                            case rel => exact ⟨j + 1, by omega, by go_num, HBJ.out.trans ((HALB.out.mono (by omega)))⟩
                    · have hbk2 : (bk == 0) = false := by simpa using hbk
                      go_wp2
                      go_roundw
                      case measure => simp [intOf]; omega
                      case rel => exact ⟨j + 1, by omega, by go_num, HBJ.out.trans ((HALB.out.mono (by omega)))⟩
                  · have hak2 : (ak == 0) = false := by simpa using hak
                    go_wp2
                    go_roundw
                    case measure => simp [intOf]; omega
                    case rel => exact ⟨j + 1, by omega, by go_num, HBJ.out.trans ((HALB.out.mono (by omega)))⟩
                · have ej : j = S.out.length := by omega
                  have HBX := Lib.hid (HBA.out.trans (hbj.mono (by omega)))
                  clear hbj hbj2
                  go_wp2
                  go_roundw
                  case measure => simp [intOf]; omega
                  case rel => exact ⟨i + 1, by omega, by go_num, HBX.out⟩
            · have HBX := Lib.hid (HBL.out.trans ((HBL2.out.trans (hbi.mono hzl)).mono HBL.out.size))
              clear hbi
              go_wp2
              go_ret
              exact ⟨rfl, HBX.out⟩
set_option maxRecDepth 100000 in
theorem lifted (os : Os) (started : os.Started) (H : Type) (enc : TypeId × Value → H) :
    ReturnsInHanded {} Try.checked os 5 .any (Rows.ringOrdersSpec.pre6 enc Try.prog Try.f5 Rows.ringOrdersRow.domain false) (Rows.ringOrdersSpec.post enc Try.prog Try.f5 false true false false) := by
  refine returnsInHanded_of_change_sized (C := Try.checked) own started (by kernel_rfl) Try.func5
    (ChangeSpec.witness6 (enc := enc) (C := Try.checked) false ⟨#[], #[.int .u8 0, .slice none 0 0], []⟩ 8 (by kernel_rfl) (by kernel_rfl) (by kernel_rfl) (by kernel_rfl)) ?_
  intro W base args ds gs before hval0 hW hcnd hsz0 _
  have hsz : (DataW.weightsEach Try.prog (Try.f5.params.toList ++ Rows.ringOrdersSpec.plain.varTypes Try.prog) (ds ++ gs)).all (· ≤ reachBytes) = true := hsz0
  clear hsz0
  have hval : ∀ (j : Nat) t v, Try.f5.params[j]? = some t → args[j]? = some v → Value.okWide Try.prog W .any base t v := hval0
  have hW' := hW
  obtain ⟨p, q, hA0, hV, rfl, hfz, hnd⟩ := hW
  have hA : DataW.TrodAll enc Try.prog W 0 (fun _ => true) true Try.f5.params.toList args.toList ds p := hA0
  rw [Try.params5] at hA hval hsz
  obtain ⟨v0, vs0, d0, ds0, p0, q0, hargs, rfl, rfl, h0, r0⟩ := trodAll_cons hA
  obtain ⟨v1, vs1, d1, ds1, p1, q1, rfl, rfl, rfl, h1, r1⟩ := trodAll_cons r0
  obtain ⟨rfl, rfl, rfl⟩ := trodAll_nil r1
  obtain rfl : args = #[v0, v1] := by cases args; simp_all
  obtain ⟨rfl, rfl⟩ := trodVars_none hV
  obtain ⟨a0, rfl, rfl, rfl, w0⟩ := open_int Try.underlying5 (hval 0 _ v0 rfl rfl) h0
  obtain ⟨A1, len1, cap1, rfl⟩ := okWide_slice Try.underlying22 (hval 1 _ v1 rfl rfl)
  obtain ⟨fu1, g1⟩ := h1
  obtain ⟨s1, t1, Q1, u1, o1⟩ := open_pks g1
  have zz1 := sized_len (j := 1) Try.underlying22 g1 hsz rfl rfl
  rw [show Try.prog.bytesOf 35 = 16 from by kernel_rfl] at zz1
  clear hA0 hval0
  obtain ⟨l0, m0⟩ := wf_u8 w0
  refine (walk a0 A1 len1 cap1 Q1 W s1 t1 u1 o1 zz1 l0 m0).mono fun e W' ⟨he, hg⟩ => ?_
  subst he
  exact ⟨_, rfl, post_of_law hW' rfl laidOut reads rfl Try.underlying4 rfl rfl rfl hg⟩
theorem over : Rows.ringOrdersRow.holds Try.pinned (OpenSpec.ofChange Rows.ringOrdersSpec) :=
  OpenClaim.holds_of_wide 5 Try.f5 rfl rfl rfl rfl rfl rfl rfl ⟨rfl, rfl, rfl, rfl, rfl⟩ rfl rfl rfl rfl rfl (by kernel_rfl) Try.func5 (by kernel_rfl)
    (of_decide_eq_true (by kernel_rfl)) (by unfold Func.isWrapper; first | (rw [if_pos (by decide +kernel)]; kernel_rfl) | (rw [if_neg (by decide +kernel)]; exact ⟨rfl, rfl⟩))
    (fun os started H enc _ => lifted os started H enc)
theorem proved : Rows.RingOrdersSaid := over
end Go.Proofs.Ytbenpnecjmpcbaa.ringOrders
