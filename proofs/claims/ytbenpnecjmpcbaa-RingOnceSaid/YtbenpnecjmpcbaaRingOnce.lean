/- RingOnce is true of every capacity's number and every list of picks, and changes nothing that it was given. -/
import Derived.Test.YtbenpnecjmpcbaaTp
import Derived.Test.YtbenpnecjmpcbaaRact
import Derived.Test.YtbenpnecjmpcbaaUnk
import Derived.Test.YtbenpnecjmpcbaaRowb
import Derived.Test.YtbenpnecjmpcbaaRows
import Derived.WalkKit
import Derived.SizedLaws
import Derived.ProofKit
import Derived.OpenShut
import Derived.Deep.DeepCutAuto
namespace Go.Proofs.Ytbenpnecjmpcbaa.ringOnce
open Go.ChangeShapes Go.WideShapes Go.ChangeAt Go.RowKit
set_option linter.unusedVariables false
theorem own : ownKnob Try.prog.godebug = none := by kernel_rfl
theorem laidOut : laidOutB Try.prog = true := by kernel_rfl
theorem reads : (Try.f4.params.toList.all fun t => Try.prog.readableRec t && decide (t < Try.prog.types.size)) = true := by kernel_rfl
theorem sized_len {H : Type} {enc : TypeId × Value → H} {P : Program} {w : World} {fuel : Nat} {t e : TypeId} {A : Option Addr} {len cap : Nat} {d : DataW H} {p : List MemPlace} {ts : List TypeId} {ds : List (DataW H)} {j : Nat} (ht : P.underlying t = some (.slice e)) (h : DataW.trod enc P w 0 (fun _ => true) true fuel t [.slice A len cap] = some (d, p))
    (hs : (DataW.weightsEach P ts ds).all (· ≤ reachBytes) = true) (hj : ts[j]? = some t) (hd : ds[j]? = some d) : len * P.bytesOf e ≤ 140737488351232 := by
  rcases Go.Deep.open_slice ht h with ⟨hc, _⟩ | ⟨a, len', cap', m, n, D, Pl, hc, _, hl, _, hm, hx, _⟩
  · simp only [List.cons.injEq, Value.slice.injEq, and_true] at hc
    obtain ⟨rfl, rfl, rfl⟩ := hc
    omega
  · simp only [List.cons.injEq, Value.slice.injEq, and_true] at hc
    obtain ⟨rfl, rfl, rfl⟩ := hc
    simp only [Prod.mk.injEq] at hx
    obtain ⟨rfl, rfl⟩ := hx
    have h1 := sized_slice hs hj hd ht
    simp only [List.length_map, List.length_range, reachBytes] at h1
    have : len * P.bytesOf e ≤ (len + (m - len)) * P.bytesOf e := Nat.mul_le_mul_right _ (by omega)
    omega
theorem seq_up {w : World} {B B' : Nat} {A : Option Addr} {len sz : Nat} {row : Nat → List Value} (h : SeqAt w B A len sz row) (hb : B ≤ B') : SeqAt w B' A len sz row := fun h0 => by
  obtain ⟨b, off, e, h1, h2⟩ := h h0
  exact ⟨b, off, e, Nat.lt_of_lt_of_le h1 hb, h2⟩
def ownL (Q : Nat → Pk) (k : Nat) : List Pk := (List.range k).map (ownQ Q)
theorem ownL_len (Q : Nat → Pk) (k : Nat) : (ownL Q k).length = k := by simp [ownL]
theorem ownL_succ (Q : Nat → Pk) (k : Nat) : ownL Q (k + 1) = ownL Q k ++ [ownQ Q k] := by simp [ownL, List.range_succ]
theorem ownL_get (Q : Nat → Pk) {k i : Nat} (h : i < k) : (ownL Q k)[i]! = ownQ Q i := by
  rw [getElem!_pos _ _ (by rw [ownL_len]; exact h)]
  simp [ownL]
theorem OwD.move {w w' : World} {base : Nat} {v : Value} {L : List Dn} (h : OwD w base v L) (hm : ∀ g cs, v.ownBlock = some g → Blk w g dnT cs → Blk w' g dnT cs) : OwD w' base v L := by
  refine ⟨h.1, ?_⟩
  rcases h.2 with h0 | ⟨g, cap, cur, rfl, hb, hg, h1⟩
  · exact .inl h0
  · exact .inr ⟨g, cap, cur, rfl, hb, hm g cur rfl hg, h1⟩
def pushOf (L : List Dn) : List Int := (L.filter isPush).map Dn.v
def popOf (L : List Dn) : List Int := (L.filter isPop).map Dn.v
theorem no_snoc {f : Dn → Bool} {L : List Dn} {d : Dn} (h : f d = false) : ((L ++ [d]).filter f).map Dn.v = (L.filter f).map Dn.v := by
  rw [filter_snoc, if_neg (by rw [h]; decide)]
theorem yes_snoc {f : Dn → Bool} {L : List Dn} {d : Dn} (h : f d = true) : ((L ++ [d]).filter f).map Dn.v = (L.filter f).map Dn.v ++ [d.v] := by
  rw [filter_snoc, if_pos h, List.map_append]
  rfl
theorem popOf_push (L : List Dn) (v b e r : Int) : popOf (L ++ [⟨0, v, b, e, true, r⟩]) = popOf L := no_snoc rfl
theorem pushOf_push (L : List Dn) (v b e r : Int) : pushOf (L ++ [⟨0, v, b, e, true, r⟩]) = pushOf L ++ [v] := yes_snoc rfl
theorem popOf_pop (L : List Dn) (v b e r : Int) {k : Int} (hk : ¬ k = 0) : popOf (L ++ [⟨k, v, b, e, true, r⟩]) = popOf L ++ [v] := yes_snoc (by show (true && !(k == 0)) = true; simp [hk])
theorem pushOf_pop (L : List Dn) (v b e r : Int) {k : Int} (hk : ¬ k = 0) : pushOf (L ++ [⟨k, v, b, e, true, r⟩]) = pushOf L := no_snoc (by show (true && (k == 0)) = false; simp [hk])
theorem popOf_no (L : List Dn) (k v b e r : Int) : popOf (L ++ [⟨k, v, b, e, false, r⟩]) = popOf L := no_snoc rfl
theorem pushOf_no (L : List Dn) (k v b e r : Int) : pushOf (L ++ [⟨k, v, b, e, false, r⟩]) = pushOf L := no_snoc rfl
def cnt1 (L : List Int) (k : Nat) (y : Int) : Int := if y ∈ L.take k then 1 else 0
def cnt2 (P O : List Int) (k : Nat) (y : Int) : Int := (if y ∈ P then 1 else 0) - (if y ∈ O.take k then 1 else 0)
theorem take_snocI {L : List Int} {k : Nat} (h : k < L.length) : L.take (k + 1) = L.take k ++ [L[k]!] := by
  rw [List.take_add_one, List.getElem?_eq_getElem h, getElem!_pos L k h]
  rfl
theorem not_ahead {L : List Int} (hn : L.Nodup) {k : Nat} (h : k < L.length) : L[k]! ∉ L.take k := by
  have h1 : (L.take (k + 1)).Nodup := hn.sublist (List.take_sublist _ _)
  rw [take_snocI h] at h1
  rw [List.nodup_append] at h1
  exact fun hm => h1.2.2 _ hm _ (List.mem_singleton.2 rfl) rfl
theorem cnt1_at {L : List Int} (hn : L.Nodup) {k : Nat} (h : k < L.length) : cnt1 L k (L[k]!) = 0 := if_neg (not_ahead hn h)
theorem cnt1_step {L : List Int} {k : Nat} (h : k < L.length) : (fun q => if q = L[k]! then 1 else cnt1 L k q) = cnt1 L (k + 1) := by
  funext q
  unfold cnt1
  rw [take_snocI h]
  by_cases e : q = L[k]!
  · rw [if_pos e, if_pos (List.mem_append_right _ (List.mem_singleton.2 e))]
  · have : q ∈ L.take k ++ [L[k]!] ↔ q ∈ L.take k := by rw [List.mem_append, List.mem_singleton]; exact ⟨fun h => h.resolve_right e, .inl⟩
    rw [if_neg e]
    simp only [this]
theorem cnt2_at {P O : List Int} (hn : O.Nodup) {k : Nat} (h : k < O.length) (hm : O[k]! ∈ P) : cnt2 P O k (O[k]!) = 1 := by
  unfold cnt2
  rw [if_pos hm, if_neg (not_ahead hn h)]
  rfl
theorem cnt2_step {P O : List Int} {k : Nat} (h : k < O.length) (hm : O[k]! ∈ P) : (fun q => if q = O[k]! then 0 else cnt2 P O k q) = cnt2 P O (k + 1) := by
  funext q
  unfold cnt2
  rw [take_snocI h]
  by_cases e : q = O[k]!
  · rw [if_pos e, if_pos (by rw [e]; exact hm), if_pos (List.mem_append_right _ (List.mem_singleton.2 e))]
    rfl
  · have : q ∈ O.take k ++ [O[k]!] ↔ q ∈ O.take k := by rw [List.mem_append, List.mem_singleton]; exact ⟨fun h => h.resolve_right e, .inl⟩
    rw [if_neg e]
    simp only [this]
theorem cnt_start {P O : List Int} : cnt1 P P.length = cnt2 P O 0 := by
  funext q
  unfold cnt1 cnt2
  rw [List.take_length]
  simp
theorem take_snoc {L : List Dn} {k : Nat} (h : k < L.length) : L.take (k + 1) = L.take k ++ [L[k]!] := by
  rw [List.take_add_one, List.getElem?_eq_getElem h, getElem!_pos L k h]
  rfl
theorem grown_below {w w' : World} {row : Option Nat} {B : Nat} (hg : w.grownBy w' row) (hr : ∀ k, row = some k → B ≤ k) (hB : B ≤ w.heap.size) : Below B w w' := ((Kept.refl (fun k => row = some k) w).grown hg (fun k hk => .inl hk)).below hr hB
def hd0 (l : List Int) : Int := l.headD 0
def more0 (l : List Int) : Bool := !l.isEmpty
theorem trypop_any {r s n : Nat} {g : Rg} {l : List Int} (w : World) (h : RingAt w r s n g) (hq : Rest n g l) (hT : g.T ≤ 900000) :
    Calls Try.prog 11 #[.pointer (some ⟨r, 0, none⟩)] w fun e w' => e = .returned (.tuple #[.int .u64 (hd0 l), .bool (more0 l)]) ∧ (∃ g', RingAt w' r s n g' ∧ Rest n g' l.tail ∧ g'.T = g.T) ∧ Kept (fun k => k = r ∨ k = s) w w' := by
  cases l with
  | nil =>
    refine (trypop_no w h hq hT).mono ?_
    rintro e w' ⟨rfl, h1, h2⟩
    exact ⟨rfl, ⟨g, h1, hq, rfl⟩, h2⟩
  | cons y l =>
    refine (trypop_yes w h hq hT).mono ?_
    rintro e w' ⟨rfl, ⟨g', h1, h2, h3, -⟩, h4⟩
    exact ⟨rfl, ⟨g', h1, h2, h3⟩, h4⟩
def lenOf : Value → Nat
  | .slice _ n _ => n
  | _ => 0
theorem ts_rs {n : Nat} {s : Ts} (h : TsOk n 200 s) : RsOk n 200 s.K ⟨s.g, s.ac, [], []⟩ := ⟨h.inv, h.bd, h.ne, fun j c hc => (h.kd j c hc).2, ⟨Nat.zero_le _, Nat.zero_le _⟩⟩
set_option maxRecDepth 100000 in
set_option maxHeartbeats 8000000 in
theorem walk (x : Int) (A : Option Addr) (len cap : Nat) (Q : Nat → Pk) (w : World) (hl : len ≤ cap) (hc : cap ≤ maxLen) (hQ : SeqAt w w.heap.size A len 3 (fun i => pkRow (Q i))) (hok : ∀ i, i < len → (Q i).ok) (hsz : len * 16 ≤ 140737488351232) (x0 : 0 ≤ x) (x1 : x ≤ 255) :
    Calls Try.prog 4 #[.int .u8 x, .slice A len cap] w fun e w' => e = .returned (.bool true) ∧ Below w.heap.size w w' := by
  have n2 : 2 ≤ capE x := by have := capE_cases x; omega
  have HQ := Lib.hid hQ
  have HOK := Lib.hid hok
  clear hQ hok
  go_enter Try.func4, Try.ntmps4
  go_wp2_with (go_at_call 7; refine (awaker _).mono ?_; rintro e w0 ⟨rfl, hb0⟩)
  have hz0 := hb0.size
  have HB0 := Lib.hid hb0
  clear hb0
  go_loopw [5, 26] (fun s5 s26 wr => ∃ k, k ≤ len ∧ s26 = .int .i64 (k : Nat) ∧ OwK wr w0.heap.size s5 (ownL Q k) ∧ Below w0.heap.size w0 wr) (fun _ i _ => len - (intOf i).toNat)
  case atStart => exact ⟨0, Nat.zero_le _, rfl, OwK.nil_ _ _, Below.refl _ _⟩
  case round =>
    obtain ⟨k, hk, rfl, hW, hbr⟩ := hrel
    have hzr := hbr.size
    have hkm : (k : Int) ≤ 8796093021952 := by omega
    obtain ⟨Ao, co, e5, ⟨hlc, hcm⟩, hrd, hob⟩ := hW.rd
    rw [ownL_len] at e5 hlc hrd
    subst e5
    by_cases hlt : k < len
    · obtain ⟨kb, ko, rfl, hkb, hkc⟩ := HQ.out (by omega)
      have hq : ∀ j, j < 3 → wr.cell? ⟨kb, ko + k * 3 + j, none⟩ = (pkRow (Q k))[j]? := fun j hj => ((HB0.out.mono (Nat.le_refl _) |>.trans (hbr.mono hz0)).cell hkb).trans (hkc k hlt j hj)
      obtain ⟨⟨t, d, v⟩, hqe⟩ : ∃ q, Q k = q := ⟨_, rfl⟩
      rw [hqe] at hq
      have q0 : wr.cell? ⟨kb, ko + k * 3, none⟩ = some (.int .u8 t) := hq 0 (by omega)
      have q1 : wr.cell? ⟨kb, ko + k * 3 + 1, none⟩ = some (.int .u8 d) := hq 1 (by omega)
      have q2 : wr.cell? ⟨kb, ko + k * 3 + 2, none⟩ = some (.int .u64 v) := hq 2 (by omega)
      have hkr : kb < wr.heap.size := by omega
      have hw1 : IntKind.u64.wrap (k : Int) = (k : Int) := IntWalk.u64_in _ (by omega)
      have hw2 : IntKind.u64.wrap ((k : Int) + 1) = (k : Int) + 1 := IntWalk.u64_in _ (by omega)
      have HW := Lib.hid hW
      have HBR := Lib.hid hbr
      have HE := Lib.hid hqe
      clear hq hkc hqe hW hbr hrd hob
      go_wp2_with (at_builtin; refine wpList_pk (z := ⟨t, d, (k : Int) + 1⟩) (g := wr.heap.size + 1) Try.underlying22 rfl (.tmp 35) (.tmp 37) rfl rfl rfl (HW.out.below (((Below.refl _ _).alloc (Nat.le_refl _) _).alloc (by simp) _)) (Blk.new_ (by simp)) (by rw [ownL_len]; omega) (by simp; omega) ?_; intro v7 w7 hO7 hg7)
      have HO7 := Lib.hid hO7
      have HG7 := Lib.hid hg7
      clear hO7 hg7
      go_roundw
      case measure => simp [intOf]; omega
      case rel =>
        refine ⟨k + 1, by omega, by go_num, ?_, ?_⟩
        · rw [ownL_succ, show ownQ Q k = ⟨t, d, (k : Int) + 1⟩ from by unfold ownQ; rw [HE.out]]
          exact HO7.out
        · exact ((HBR.out.alloc hzr _).alloc (by simp; omega) _).trans (grown_below HG7.out (fun y hy => (HW.out.own_lt hy).1) (by simp; omega))
    · have ek : k = len := by omega
      subst ek
      have hsq : SeqAt wr wr.heap.size Ao k 3 (fun i => pkRow (ownQ Q i)) := fun h0 => by
        obtain ⟨b, off, e, hb, hcc⟩ := hrd h0
        exact ⟨b, off, e, hb, fun i hi j hj => by rw [hcc i hi j hj]; show (pkRow (ownL Q k)[i]!)[j]? = _; rw [ownL_get Q hi]⟩
      have hoq : ∀ i, i < k → (ownQ Q i).ok := fun i hi => by
        obtain ⟨h1, h2, h3⟩ := HOK.out i hi
        exact ⟨h1, h2, by show (0 : Int) ≤ (i : Int) + 1 ∧ (i : Int) + 1 ≤ _; omega⟩
      have HSQ := Lib.hid hsq
      have HOQ := Lib.hid hoq
      have HBR := Lib.hid (HB0.out.trans (hbr.mono hz0))
      clear hsq hoq hW hbr hrd hob hlt HQ HOK HB0
      go_wp2_with (first
        | (go_at_call 8; refine (topen _ x0 x1).mono ?_; rintro e w1 ⟨T, rfl, hT, hb1⟩; have hz1 := hb1.size)
        | (go_at_call 9; refine (trun (B := wr.heap.size) (Q := ownQ Q) w1 n2 hz1 hT (ts0_ok (by omega) _) (HSQ.out.below hb1) HOQ.out hlc hcm).mono ?_; rintro e w2 ⟨v2, T2, rfl, et2, hT2, ok2, ho2, hb2⟩; have hz2 := hb2.size; have p2 := tsRun_O (Q := Q) (ts0_ok (n := capE x) (by omega) (fun _ => 0)) n2 ⟨_, _, _, ts0_OI _⟩ (min k 200) (by omega); obtain ⟨S, hS⟩ : ∃ X, tsRun (capE x) (ownQ Q) (min k 200) (ts0 (rg0 (capE x)) (fun _ => 0)) = X := ⟨_, rfl⟩; rw [hS] at hT2 ok2 ho2 p2; clear hS)
        | (go_at_call 10; rw [← et2]; refine (trest (B := wr.heap.size) (s0 := ⟨_, _, [], []⟩) w2 n2 (by omega) hT2 (ts_rs ok2) (by omega) rfl rfl).mono ?_; rintro e w3 ⟨v5, v6, rfl, hR⟩; obtain ⟨tt, htt⟩ : ∃ t, T.t = t := ⟨_, rfl⟩; rw [et2, htt] at hR; rw [et2, htt]; have t0 : w3.cell? ⟨tt, 0, none⟩ = some (.pointer (some ⟨T2.r, 0, none⟩)) := (by rw [← hR.t]; exact hR.tm.t0); have HB2 := Lib.hid (hb1.trans hb2); clear hb1 hb2 hT))
      obtain ⟨val, PL, OL, hOI⟩ := p2
      have okr := ts_rs ok2
      obtain ⟨val', PL', OL', hq⟩ := QI.all ⟨val, PL, OL, hOI.rest (by omega)⟩ okr n2 6
      have okR := rsAll_ok okr n2 6
      have hdn := rsAll_done okr n2 6
      obtain ⟨R, hRR⟩ : ∃ X, rsAll (capE x) S.K 6 ⟨S.g, S.ac, [], []⟩ = X := ⟨_, rfl⟩
      rw [hRR] at hR hq okR hdn
      obtain ⟨l, hl1, hperm, hnd, hbd⟩ := hq.end_ okR n2 hdn
      obtain ⟨P0, hP0⟩ : ∃ X, (S.out.filter isPush).map Dn.v = X := ⟨_, rfl⟩
      obtain ⟨O0, hO0⟩ : ∃ X, (S.out.filter isPop).map Dn.v = X := ⟨_, rfl⟩
      rw [hP0] at hperm hnd hbd
      rw [hO0] at hperm
      obtain ⟨r, hr⟩ : ∃ X, T2.r = X := ⟨_, rfl⟩
      obtain ⟨sl, hsl⟩ : ∃ X, T2.s = X := ⟨_, rfl⟩
      have hring : RingAt w3 r sl (capE x) R.g := by rw [← hr, ← hsl]; exact hR.tm.ring
      rw [hr] at t0 ⊢
      obtain ⟨M, hM⟩ : ∃ X, w2.heap.size = X := ⟨_, rfl⟩
      rw [hM] at hR
      have lr : r < M := hR.lo r (.inr (.inl hr.symm))
      have lsl : sl < M := hR.lo sl (.inr (.inr (.inl hsl.symm)))
      have ltt : tt < M := hR.lo tt (.inl hR.t.symm)
      have ntt : tt ≠ r ∧ tt ≠ sl := by
        obtain ⟨cs, hcs⟩ := hR.tm.tb
        rw [hR.t] at hcs
        exact hring.apart hcs (by decide) (by decide)
      have HLOW0 := Lib.hid (show w.heap.size ≤ r ∧ w.heap.size ≤ sl ∧ w.heap.size ≤ M by
        have a1 := hR.tm.low r (.inr (.inl hr.symm))
        have a2 := hR.tm.low sl (.inr (.inr (.inl hsl.symm)))
        have a3 := HBR.out.size
        omega)
      have hTb : R.g.T ≤ 900000 := by have := okR.bd.t; omega
      have hM3 : M ≤ w3.heap.size := by rw [← hM]; exact (hR.bl.size)
      obtain ⟨Ao2, co2, ev2, hrd2, hob2⟩ := ho2.rd
      subst ev2
      have hlo2 : S.out.length ≤ 200 := ok2.len
      have hlR1 : R.pop.length ≤ 300 := by have := okR.len.1; omega
      have hlR2 : R.push.length ≤ 300 := by have := okR.len.2; omega
      have hll : l.length ≤ 64 := by have := hl1.len; have := hring.n1; omega
      have HPOP := Lib.hid hR.pop
      have HPUSH := Lib.hid hR.push
      have HAP := Lib.hid hR.ap
      have HFR := Lib.hid hR.fr
      have HBL := Lib.hid (HBR.out.trans ((HB2.out.trans hR.bl).mono HBR.out.size))
      have HO2 := Lib.hid ho2
      have HPERM := Lib.hid hperm
      have HND := Lib.hid hnd
      have HBD := Lib.hid hbd
      have HP0 := Lib.hid hP0
      have HO0 := Lib.hid hO0
      have HRD2 := Lib.hid hrd2
      have HM := Lib.hid hM
      clear hR hq okR hdn hOI okr hRR hperm hnd hbd hP0 hO0 hr hsl hM hrd2 hob2 ho2 ok2 hT2 HBR HB2 HSQ HOQ
      refine (trypop_any w3 hring hl1 hTb).mono ?_
      rintro e w4 ⟨rfl, ⟨g4, h4, q4, t4⟩, k4⟩
      have HR3 := Lib.hid hring
      have HLOW := Lib.hid (show w.heap.size ≤ r ∧ w.heap.size ≤ sl ∧ w.heap.size ≤ M from HLOW0.out)
      clear hring hl1
      obtain ⟨A6, c6, e6, -⟩ := HPUSH.out.rd
      subst e6
      go_wp2
      go_loopw [11, 13, 14] (fun s11 s13 s14 wr => ∃ done rem g, l = done ++ rem ∧ s13 = .int .u64 (hd0 rem) ∧ s14 = .bool (more0 rem) ∧ OwU wr M s11 (R.pop ++ done) ∧ RingAt wr r sl (capE x) g ∧ Rest (capE x) g rem.tail ∧ g.T = R.g.T ∧ (∀ y, s11.ownBlock = some y → (Value.slice A6 R.push.length c6).ownBlock ≠ some y) ∧ Kept (fun y => y = r ∨ y = sl ∨ (M ≤ y ∧ (Value.slice A6 R.push.length c6).ownBlock ≠ some y)) w3 wr) (fun s11 _ _ _ => R.pop.length + l.length - lenOf s11)
      case atStart =>
        refine ⟨[], l, g4, rfl, rfl, rfl, ?_, h4, q4, t4, HAP.out, k4.more fun y _ e => ?_⟩
        · rw [List.append_nil]
          exact HPOP.out.kept k4 (fun y hy e => by have := (HPOP.out.own_lt hy).1; omega)
        · rcases e with e | e
          · exact .inl e
          · exact .inr (.inl e)
      case round =>
        obtain ⟨done, rem, g, hle, rfl, rfl, hW, hrg, hqq, hgt, hap, hkk⟩ := hrel
        obtain ⟨A5, c5, e5, -⟩ := hW.rd
        have hzk := hkk.size
        have t1 : wr.cell? ⟨tt, 0, none⟩ = some (.pointer (some ⟨r, 0, none⟩)) := by
          unfold World.cell? at t0 ⊢
          rw [hkk.block tt (by omega) (by rintro (e | e | e); exact ntt.1 e; exact ntt.2 e; omega)]
          exact t0
        have hln : done.length + rem.length = l.length := by rw [hle, List.length_append]
        have HKK := Lib.hid hkk
        have HAP2 := Lib.hid hap
        have HLE := Lib.hid hle
        cases rem with
        | nil =>
          have e2 : more0 [] = false := rfl
          rw [e2]
          clear e2
          have hdone : done = l := by rw [HLE.out, List.append_nil]
          subst hdone
          have HOE : OwD wr w1.heap.size (.slice Ao2 S.out.length co2) S.out := by
            refine OwD.kept (OwD.move HO2.out (fun g cs hg hb => HFR.out g cs (by have := hb.size; rw [HM.out] at this; exact this) hb)) HKK.out (fun q hq => ?_)
            obtain ⟨-, cs, hcs⟩ := HO2.out.own_lt hq
            have hq2 : q < M := by have := hcs.size; rw [HM.out] at this; exact this
            have := HR3.out.apart (HFR.out q cs hq2 hcs) (by decide) (by decide)
            rintro (e | e | ⟨e, -⟩)
            · exact this.1 e
            · exact this.2 e
            · omega
          have HPE : OwU wr M (.slice A6 R.push.length c6) R.push := HPUSH.out.kept HKK.out (fun q hq => by
            rintro (e | e | ⟨-, e⟩)
            · have := (HPUSH.out.own_lt hq).1; omega
            · have := (HPUSH.out.own_lt hq).1; omega
            · exact e hq)
          have HTH : g.T = g.H := by have := hqq.tail; simpa using this
          have HRGE := Lib.hid hrg
          have HWE := Lib.hid hW
          have HBE := Lib.hid (HBL.out.trans (HKK.out.below (B := w.heap.size) (fun q e => by have := HBL.out.size; have := HLOW.out; rcases e with e | e | ⟨e, -⟩ <;> omega) (by have := HBL.out.size; omega)))
          have HAPE := Lib.hid hap
          have HOEH := Lib.hid HOE
          have HPEH := Lib.hid HPE
          obtain ⟨wE, hwE⟩ : ∃ X, X = wr := ⟨wr, rfl⟩
          subst hwE
          clear hW hrg hqq hkk hap hle HOE HPE HKK HAP2 HLE HPOP HPUSH HAP HFR HO2 HR3 h4 q4 k4
          go_wp2
          go_loopw [11, 12, 81] (fun s11 s12 s81 wr => ∃ m, m ≤ S.out.length ∧ s81 = .int .i64 (m : Nat) ∧ OwU wr M s11 (R.pop ++ (done ++ popOf (S.out.take m))) ∧ OwU wr M s12 (R.push ++ pushOf (S.out.take m)) ∧ (∀ q, s11.ownBlock = some q → s12.ownBlock ≠ some q) ∧ OwD wr w1.heap.size (.slice Ao2 S.out.length co2) S.out ∧ Below M wE wr) (fun _ _ i _ => S.out.length - (intOf i).toNat)
          case atStart =>
            refine ⟨0, Nat.zero_le _, rfl, ?_, ?_, HAPE.out, HOEH.out, Below.refl _ _⟩
            · show OwU _ _ _ (R.pop ++ (done ++ []))
              rw [List.append_nil]; exact HWE.out
            · show OwU _ _ _ (R.push ++ [])
              rw [List.append_nil]; exact HPEH.out
          case round =>
            obtain ⟨m, hm, rfl, hw1, hw2, ha2, hod, hb2⟩ := hrel
            have hzb := hb2.size
            have hfl : (popOf (S.out.take m)).length ≤ 200 := by unfold popOf; rw [List.length_map]; have := List.length_filter_le isPop (S.out.take m); rw [List.length_take] at this; omega
            have hfl2 : (pushOf (S.out.take m)).length ≤ 200 := by unfold pushOf; rw [List.length_map]; have := List.length_filter_le isPush (S.out.take m); rw [List.length_take] at this; omega
            have hl11 : (R.pop ++ (done ++ popOf (S.out.take m))).length ≤ 10000 := by rw [List.length_append, List.length_append]; omega
            have hl12 : (R.push ++ pushOf (S.out.take m)).length ≤ 10000 := by rw [List.length_append]; omega
            obtain ⟨A11, c11, e11, -⟩ := hw1.rd
            obtain ⟨A12, c12, e12, -⟩ := hw2.rd
            obtain ⟨L11, hL11⟩ : ∃ X, (R.pop ++ (done ++ popOf (S.out.take m))).length = X := ⟨_, rfl⟩
            obtain ⟨L12, hL12⟩ : ∃ X, (R.push ++ pushOf (S.out.take m)).length = X := ⟨_, rfl⟩
            rw [hL11] at e11
            rw [hL12] at e12
            subst e11 e12
            by_cases hlt2 : m < S.out.length
            · have hsn := take_snoc hlt2
              obtain ⟨Ax, cx, ex, hrdx, -⟩ := hod.rd
              cases ex
              obtain ⟨kb, ko, rfl, hkb, hkc⟩ := hrdx (by omega)
              obtain ⟨⟨dk, dv, db, de, dw, dr⟩, hde⟩ : ∃ d, S.out[m]! = d := ⟨_, rfl⟩
              have hq : ∀ j, j < 6 → wr.cell? ⟨kb, ko + m * 6 + j, none⟩ = (dnRow ⟨dk, dv, db, de, dw, dr⟩)[j]? := fun j hj => by rw [← hde]; exact hkc m hlt2 j hj
              rw [hde] at hsn
              have q0 : wr.cell? ⟨kb, ko + m * 6, none⟩ = some (.int .i64 dk) := hq 0 (by omega)
              have q1 : wr.cell? ⟨kb, ko + m * 6 + 1, none⟩ = some (.int .u64 dv) := hq 1 (by omega)
              have q2 : wr.cell? ⟨kb, ko + m * 6 + 2, none⟩ = some (.int .i64 db) := hq 2 (by omega)
              have q3 : wr.cell? ⟨kb, ko + m * 6 + 3, none⟩ = some (.int .i64 de) := hq 3 (by omega)
              have q4 : wr.cell? ⟨kb, ko + m * 6 + 4, none⟩ = some (.bool dw) := hq 4 (by omega)
              have q5 : wr.cell? ⟨kb, ko + m * 6 + 5, none⟩ = some (.int .i64 dr) := hq 5 (by omega)
              have HSN := Lib.hid hsn
              have HW1 := Lib.hid hw1
              have HW2 := Lib.hid hw2
              have HA2 := Lib.hid ha2
              have HOD := Lib.hid hod
              have HB2 := Lib.hid hb2
              clear hq hkc hsn hw1 hw2 ha2 hod hb2 hde hrdx hL11 hL12
              cases hwl : dw with
              | false =>
                subst hwl
                have hwl : (false : Bool) = false := rfl
                go_wp2
                go_roundw
                case measure => simp [intOf]; omega
                case rel =>
                  have hAL := ((Below.refl wr.heap.size wr).alloc (Nat.le_refl _) (.cells #[.int .i64 dk, .int .u64 dv, .int .i64 db, .int .i64 de, .bool false, .int .i64 dr] dnT))
                  refine ⟨m + 1, by omega, by go_num, ?_, ?_, HA2.out, HOD.out.below hAL, HB2.out.trans (hAL.mono (by omega))⟩
                  · rw [HSN.out, popOf_no]
                    exact HW1.out.below hAL
                  · rw [HSN.out, pushOf_no]
                    exact HW2.out.below hAL
              | true =>
                subst hwl
                have hwl : (true : Bool) = true := rfl
                by_cases hk0 : dk = 0
                · subst hk0
                  go_wp2_with (at_builtin; refine wpList_u1 (z := dv) (g := wr.heap.size + 1) Try.underlying29 rfl (.tmp 98) (.tmp 101) rfl rfl rfl (HW2.out.below (((Below.refl _ _).alloc (Nat.le_refl _) _).alloc (by simp) _)) (Blk.new_ (by simp)) hl12 (by simp; omega) ?_; intro v7 w7 hO7 hg7 hv7; have O7 := Lib.hid hO7; have G7 := Lib.hid hg7; have V7 := Lib.hid hv7; clear hO7 hg7 hv7)
                  go_roundw
                  case measure => simp [intOf]; omega
                  case rel =>
                    have hAL := (((Below.refl wr.heap.size wr).alloc (Nat.le_refl _) (.cells #[.int .i64 0, .int .u64 dv, .int .i64 db, .int .i64 de, .bool true, .int .i64 dr] dnT)).alloc (by simp) (.cells #[.int .u64 dv] 33))
                    have hK7 := (Kept.of_below (own := fun q => (Value.slice A12 L12 c12 : Value).ownBlock = some q) hAL).grown G7.out (fun q hq => .inl hq)
                    (try refine ⟨_, _, _, _, ?_, rfl, rfl, rfl, rfl⟩)
                    refine ⟨m + 1, by omega, by go_num, ?_, ?_, fun q hq => ?_, ?_, (HB2.out.trans ((hAL.mono (by omega)).trans (grown_below G7.out (fun q hq => (HW2.out.own_lt hq).1) (by simp; omega))))⟩
                    · rw [HSN.out, popOf_push]
                      exact HW1.out.kept hK7 (fun q hq e => HA2.out q hq e)
                    · rw [HSN.out, pushOf_push]
                      have := O7.out
                      simp only [List.append_assoc] at this ⊢
                      exact this
                    · rcases V7.out with e | e
                      · rw [e]; exact HA2.out q hq
                      · rw [e]
                        intro h
                        cases h
                        obtain ⟨-, cs, hcs⟩ := HW1.out.own_lt hq
                        have := hcs.size
                        simp at this
                        omega
                    · exact HOD.out.kept hK7 (fun q hq e => by obtain ⟨-, cs, hcs⟩ := HOD.out.own_lt hq; obtain ⟨-, ds, hds⟩ := HW2.out.own_lt e; exact hcs.other hds (by decide) rfl)
                · have hkd : (dk == 0) = false := by simpa using hk0
                  go_wp2_with (at_builtin; refine wpList_u1 (z := dv) (g := wr.heap.size + 1) Try.underlying29 rfl (.tmp 85) (.tmp 88) rfl rfl rfl (HW1.out.below (((Below.refl _ _).alloc (Nat.le_refl _) _).alloc (by simp) _)) (Blk.new_ (by simp)) hl11 (by simp; omega) ?_; intro v7 w7 hO7 hg7 hv7; have O7 := Lib.hid hO7; have G7 := Lib.hid hg7; have V7 := Lib.hid hv7; clear hO7 hg7 hv7)
                  go_roundw
                  case measure => simp [intOf]; omega
                  case rel =>
                    have hAL := (((Below.refl wr.heap.size wr).alloc (Nat.le_refl _) (.cells #[.int .i64 dk, .int .u64 dv, .int .i64 db, .int .i64 de, .bool true, .int .i64 dr] dnT)).alloc (by simp) (.cells #[.int .u64 dv] 33))
                    have hK7 := (Kept.of_below (own := fun q => (Value.slice A11 L11 c11 : Value).ownBlock = some q) hAL).grown G7.out (fun q hq => .inl hq)
                    (try refine ⟨_, _, _, _, ?_, rfl, rfl, rfl, rfl⟩)
                    refine ⟨m + 1, by omega, by go_num, ?_, ?_, fun q hq => ?_, ?_, (HB2.out.trans ((hAL.mono (by omega)).trans (grown_below G7.out (fun q hq => (HW1.out.own_lt hq).1) (by simp; omega))))⟩
                    · rw [HSN.out, popOf_pop _ _ _ _ _ hk0]
                      have := O7.out
                      simp only [List.append_assoc] at this ⊢
                      exact this
                    · rw [HSN.out, pushOf_pop _ _ _ _ _ hk0]
                      exact HW2.out.kept hK7 (fun q hq e => HA2.out q e hq)
                    · rcases V7.out with e | e
                      · rw [e] at hq; exact HA2.out q hq
                      · rw [e] at hq
                        cases hq
                        intro h
                        obtain ⟨-, cs, hcs⟩ := HW2.out.own_lt h
                        have := hcs.size
                        simp at this
                        omega
                    · exact HOD.out.kept hK7 (fun q hq e => by obtain ⟨-, cs, hcs⟩ := HOD.out.own_lt hq; obtain ⟨-, ds, hds⟩ := HW1.out.own_lt e; exact hcs.other hds (by decide) rfl)
            · have em : m = S.out.length := by omega
              subst em
              rw [List.take_length] at hw1 hw2
              have hPU : (R.push ++ pushOf S.out).Perm (P0 ++ R.push) := by rw [← HP0.out]; exact List.perm_append_comm
              have hPP : (R.pop ++ (done ++ popOf S.out)).Perm (R.push ++ pushOf S.out) := by
                refine List.Perm.trans ?_ (HPERM.out.trans hPU.symm)
                rw [← HO0.out, ← List.append_assoc, List.append_assoc (List.map Dn.v _)]
                exact List.perm_append_comm
              have hUn : (R.push ++ pushOf S.out).Nodup := hPU.nodup_iff.2 HND.out
              have hPn : (R.pop ++ (done ++ popOf S.out)).Nodup := hPP.nodup_iff.2 hUn
              have hUb : ∀ q ∈ R.push ++ pushOf S.out, 1 ≤ q ∧ q ≤ 200 := fun q hq => HBD.out q (hPU.mem_iff.1 hq)
              have hPm : ∀ q ∈ R.pop ++ (done ++ popOf S.out), q ∈ R.push ++ pushOf S.out := fun q hq => hPP.mem_iff.1 hq
              have hLL : L12 = L11 := by rw [← hL11, ← hL12, List.take_length]; exact hPP.length_eq.symm
              subst hLL
              rw [List.take_length] at hL11 hL12 hl11
              obtain ⟨PU, hPUe⟩ : ∃ X, R.push ++ pushOf S.out = X := ⟨_, rfl⟩
              obtain ⟨PP, hPPe⟩ : ∃ X, R.pop ++ (done ++ popOf S.out) = X := ⟨_, rfl⟩
              rw [hPUe] at hw2 hUn hUb hPm hL12
              rw [hPPe] at hw1 hPn hPm hL11 hl11
              have hB4 := hb2
              obtain ⟨Ay, cy, ey, hsq1⟩ := hw1.seq
              obtain ⟨Az, cz, ez, hsq2⟩ := hw2.seq
              rw [hL11] at ey hsq1
              rw [hL12] at ez hsq2
              cases ey
              cases ez
              have HSQ1 := Lib.hid hsq1
              have HSQ2 := Lib.hid hsq2
              have HUN := Lib.hid hUn
              have HPN := Lib.hid hPn
              have HUB := Lib.hid hUb
              have HPM := Lib.hid hPm
              have HB4 := Lib.hid hB4
              have HL11 := Lib.hid hL11
              have HL12 := Lib.hid hL12
              have hlL : L12 ≤ 10000 := by rw [← hL11]; exact hl11
              obtain ⟨wD, hwD⟩ : ∃ X, X = wr := ⟨wr, rfl⟩
              subst hwD
              have hMb : M ≤ wD.heap.size := by omega
              clear hPU hPP hUn hPn hUb hPm hw1 hw2 hsq1 hsq2 hB4 hPUe hPPe hL11 hL12 ha2 hod hb2 hfl hfl2 hl11 hl12 hlt2 hm HO0 HP0 HPERM HND HBD HWE HPEH HAPE HOEH HRD2
              have hmm := @run_makeMap Try.prog
              go_wp2
              clear hmm
              go_loopw [19, 107] (fun s19 s107 wr => ∃ m, m ≤ PU.length ∧ s107 = .int .i64 (m : Nat) ∧ CntAt wr wD.heap.size (cnt1 PU m) m ∧ Below wD.heap.size wD wr) (fun _ i _ => PU.length - (intOf i).toNat)
              case atStart =>
                exact ⟨0, Nat.zero_le _, rfl, CntAt.made wD, (Below.refl _ _).alloc (Nat.le_refl _) _⟩
              case round =>
                obtain ⟨m, hm, rfl, hcn, hbl⟩ := hrel
                have hzl := hbl.size
                have hlU := HL12.out
                by_cases hlt3 : m < PU.length
                · obtain ⟨kb, ko, rfl, hkb, hkc⟩ := HSQ2.out (by omega)
                  obtain ⟨y, hy⟩ : ∃ y, PU[m]! = y := ⟨_, rfl⟩
                  have hym : y ∈ PU := by rw [← hy, getElem!_pos PU m hlt3]; exact List.getElem_mem _
                  obtain ⟨y0, y1⟩ := HUB.out y hym
                  have q0 : wr.cell? ⟨kb, ko + m, none⟩ = some (.int .u64 y) := by
                    have := hkc m (by omega) 0 (by omega)
                    rw [Nat.mul_one, Nat.add_zero] at this
                    rw [hbl.cell hkb, this, ← hy]
                    rfl
                  have hlk := hcn.look (k := y) (by omega) (by omega)
                  have hc0 : cnt1 PU m y = 0 := by rw [← hy]; exact cnt1_at HUN.out hlt3
                  rw [hc0] at hlk
                  have hst : (fun q => if q = y then 1 else cnt1 PU m q) = cnt1 PU (m + 1) := by rw [← hy]; exact cnt1_step hlt3
                  have HST := Lib.hid hst
                  have HCN := Lib.hid hcn
                  have HBL2 := Lib.hid hbl
                  clear hkc hym hc0 hst hcn hbl hy
                  go_wp2_with (at_mapUpdate; refine wpList_cnt rfl _ _ _ rfl HCN.out (by omega) (k := y) (z := 1) (by omega) (by omega) (by omega) (by omega) rfl rfl rfl ?_; intro w7 hm7 hg7; have HM7 := Lib.hid hm7; have HG7 := Lib.hid hg7; clear hm7 hg7)
                  go_roundw
                  case measure => simp [intOf]; omega
                  case rel =>
                    refine ⟨m + 1, by omega, by go_num, ?_, HBL2.out.trans (grown_below HG7.out (fun q hq => by cases hq; exact Nat.le_refl _) hzl)⟩
                    rw [← HST.out]
                    exact HM7.out
                · have em : m = PU.length := by omega
                  subst em
                  have hcs : cnt1 PU PU.length = cnt2 PU PP 0 := cnt_start
                  rw [hcs] at hcn
                  have HCN := Lib.hid hcn
                  have HBL2 := Lib.hid hbl
                  have hge : decide ((PU.length : Int) < (L12 : Int)) = false := decide_eq_false (by omega)
                  have hge2 : decide (PU.length < L12) = false := decide_eq_false (by omega)
                  have hge3 : L12 ≤ PU.length := by omega
                  have hge4 : ¬ PU.length < L12 := by omega
                  have hPUle : PU.length ≤ 10000 := by omega
                  clear hcs hcn hbl hlU
                  go_wp2
                  clear hge hge2 hge3 hge4
                  go_loopw [21, 118] (fun s21 s118 wr => ∃ m, m ≤ PP.length ∧ s118 = .int .i64 (m : Nat) ∧ CntAt wr wD.heap.size (cnt2 PU PP m) (PU.length + m) ∧ Below wD.heap.size wD wr) (fun _ i _ => PP.length - (intOf i).toNat)
                  case atStart => exact ⟨0, Nat.zero_le _, rfl, HCN.out, HBL2.out⟩
                  case round =>
                    obtain ⟨m, hm, rfl, hcn, hbl⟩ := hrel
                    have hzl := hbl.size
                    have hlP := HL11.out
                    by_cases hlt4 : m < PP.length
                    · obtain ⟨kb, ko, rfl, hkb, hkc⟩ := HSQ1.out (by omega)
                      obtain ⟨y, hy⟩ : ∃ y, PP[m]! = y := ⟨_, rfl⟩
                      have hym : y ∈ PP := by rw [← hy, getElem!_pos PP m hlt4]; exact List.getElem_mem _
                      obtain ⟨y0, y1⟩ := HUB.out y (HPM.out y hym)
                      have q0 : wr.cell? ⟨kb, ko + m, none⟩ = some (.int .u64 y) := by
                        have := hkc m (by omega) 0 (by omega)
                        rw [Nat.mul_one, Nat.add_zero] at this
                        rw [hbl.cell hkb, this, ← hy]
                        rfl
                      have hlk := hcn.look (k := y) (by omega) (by omega)
                      have hc1 : cnt2 PU PP m y = 1 := by rw [← hy]; exact cnt2_at HPN.out hlt4 (by rw [hy]; exact HPM.out y hym)
                      rw [hc1] at hlk
                      have hst : (fun q => if q = y then 0 else cnt2 PU PP m q) = cnt2 PU PP (m + 1) := by rw [← hy]; exact cnt2_step hlt4 (by rw [hy]; exact HPM.out y hym)
                      have HST := Lib.hid hst
                      have HCN := Lib.hid hcn
                      have HBL2 := Lib.hid hbl
                      clear hkc hym hc1 hst hcn hbl hy
                      go_wp2_with (at_mapUpdate; refine wpList_cnt rfl _ _ _ rfl HCN.out (by omega) (k := y) (z := 0) (by omega) (by omega) (by omega) (by omega) rfl rfl rfl ?_; intro w7 hm7 hg7; have HM7 := Lib.hid hm7; have HG7 := Lib.hid hg7; have hl7 := hm7.look (k := y) (by omega) (by omega); rw [if_pos rfl] at hl7; clear hm7 hg7)
                      go_roundw
                      case measure => simp [intOf]; omega
                      case rel =>
                        refine ⟨m + 1, by omega, by go_num, ?_, HBL2.out.trans (grown_below HG7.out (fun q hq => by cases hq; exact Nat.le_refl _) hzl)⟩
                        rw [← HST.out]
                        exact HM7.out
                    · have HBX : Below M wE wr := HB4.out.trans (hbl.mono hMb)
                      clear hcn hbl HCN HBL2 HSQ1 HSQ2
                      go_upto_region 42 with fail
                      obtain ⟨w3, hw3⟩ : ∃ X, wr.drew = X := ⟨_, rfl⟩
                      have s0 : w3.cell? ⟨tt, 0, none⟩ = some (.pointer (some ⟨r, 0, none⟩)) := by rw [← hw3]; exact (HBX.cell ltt).trans t1
                      have R3 : RingAt w3 r sl (capE x) g := by rw [← hw3]; exact (HRGE.out.below HBX lr lsl).drew_
                      have C1 := Lib.hid (rtail w3 R3)
                      have C2 := rhead w3 R3
                      rw [← HTH] at C2
                      have C2 := Lib.hid C2
                      have HW := Lib.hid hw3
                      have HBXX := Lib.hid HBX
                      clear hw3 R3 HBX t1
                      refine wp_region_noPanic ?_
                      refine wp_region_all [none, none, none, none, some (.bool true), none, none, none, none, none, none, none, none, none, none, none, none, none, none, none, none, none, none, none, none, none, none, none, none, none, none, none, none, none, none, none, none, none, none, none, none, none, none, none, none, none, none, none, none, none, none, none, none, none, none, none, none, none, none, none, none, none, none, none, none, none, none, none, none, none, none, none, none, none, none, none, none, none, none, none, none, none, none, none, none, none, none, none, none, none, none, none, none, none, none, none, none, none, none, none, none, none, none, none, none, none, none, none, none, none, none, none, none, none, none, none, none, none, none, none, none, none, none, none, none, none, none, none, none, none, none, some (.slice A11 L12 c11), some (.int .i64 (L12 : Int)), some (.slice A12 L12 c12), some (.int .i64 (L12 : Int)), some (.bool true), some (.bool true), some (.pointer (some ⟨tt, 0, none⟩)), some (.pointer (some ⟨tt, 0, none⟩)), some (.pointer (some ⟨tt, 0, none⟩)), some (.pointer (some ⟨r, 0, none⟩)), some (.int .u64 (g.T : Int)), some (.pointer (some ⟨tt, 0, none⟩)), some (.pointer (some ⟨tt, 0, none⟩)), some (.pointer (some ⟨tt, 0, none⟩)), some (.pointer (some ⟨r, 0, none⟩)), some (.int .u64 (g.T : Int)), some (.bool true), some (.bool true)] (fun w' => w' = w3) (by kernel_rfl) (by kernel_rfl) (by kernel_rfl) (by kernel_rfl) HW.out ?F ?hF ?_
                      case hF => dsimp only [overL]; exact rfl
                      refine ⟨?_, ?_⟩
                      · refine ⟨?_, ?_⟩
                        · exact YieldsS.of_if (Or.inl ⟨by kernel_rfl, fun wS hSw => by subst hSw; (first | (go_simp; done) | (go_simp; with_reducible rfl))⟩)
                        refine ⟨?_, ?_⟩
                        · exact YieldsS.of_if (Or.inl ⟨by kernel_rfl, fun wS hSw => by subst hSw; (first | (go_simp; done) | (go_simp; with_reducible rfl))⟩)
                        refine ⟨?_, ?_⟩
                        · exact YieldsS.of_if (Or.inl ⟨by kernel_rfl, fun wS hSw => by subst hSw; (first | (go_simp; done) | (go_simp; with_reducible rfl))⟩)
                        refine ⟨?_, ?_⟩
                        · exact YieldsS.of_if (Or.inl ⟨by kernel_rfl, fun wS hSw => by subst hSw; (first | (go_simp; done) | (go_simp; with_reducible rfl))⟩)
                        refine ⟨?_, ?_⟩
                        · exact YieldsS.of_if (Or.inl ⟨by kernel_rfl, fun wS hSw => by subst hSw; (first | (go_simp; done) | (go_simp; with_reducible rfl))⟩)
                        refine ⟨?_, ?_⟩
                        · exact YieldsS.of_if (Or.inl ⟨by kernel_rfl, fun wS hSw => by subst hSw; (first | (go_simp; done) | (go_simp; with_reducible rfl))⟩)
                        refine ⟨?_, ?_⟩
                        · exact YieldsS.of_if (Or.inl ⟨by kernel_rfl, fun wS hSw => by subst hSw; (first | (go_simp; done) | (go_simp; with_reducible rfl))⟩)
                        refine ⟨?_, ?_⟩
                        · exact YieldsS.of_if (Or.inl ⟨by kernel_rfl, fun wS hSw => by subst hSw; (first | (go_simp; done) | (go_simp; with_reducible rfl))⟩)
                        refine ⟨?_, ?_⟩
                        · exact YieldsS.of_if (Or.inl ⟨by kernel_rfl, fun wS hSw => by subst hSw; (first | (go_simp; done) | (go_simp; with_reducible rfl))⟩)
                        refine ⟨?_, ?_⟩
                        · exact YieldsS.of_if (Or.inl ⟨by kernel_rfl, fun wS hSw => by subst hSw; (first | (go_simp; done) | (go_simp; with_reducible rfl))⟩)
                        refine ⟨?_, ?_⟩
                        · refine YieldsS.of_call (by kernel_rfl) (f := 12) (args := #[(.pointer (some ⟨r, 0, none⟩))]) (fun wS hSw => by first | rfl | (go_simp; done)) (fun wS hSw => ?_)
                          subst hSw
                          refine C1.out.mono ?_
                          rintro e wn ⟨rfl, rfl⟩
                          exact ⟨rfl, rfl, Below.refl _ _⟩
                        refine ⟨?_, ?_⟩
                        · exact YieldsS.of_if (Or.inl ⟨by kernel_rfl, fun wS hSw => by subst hSw; (first | (go_simp; done) | (go_simp; with_reducible rfl))⟩)
                        refine ⟨?_, ?_⟩
                        · exact YieldsS.of_if (Or.inl ⟨by kernel_rfl, fun wS hSw => by subst hSw; (first | (go_simp; done) | (go_simp; with_reducible rfl))⟩)
                        refine ⟨?_, ?_⟩
                        · exact YieldsS.of_if (Or.inl ⟨by kernel_rfl, fun wS hSw => by subst hSw; (first | (go_simp; done) | (go_simp; with_reducible rfl))⟩)
                        refine ⟨?_, ?_⟩
                        · exact YieldsS.of_if (Or.inl ⟨by kernel_rfl, fun wS hSw => by subst hSw; (first | (go_simp; done) | (go_simp; with_reducible rfl))⟩)
                        refine ⟨?_, ?_⟩
                        · refine YieldsS.of_call (by kernel_rfl) (f := 13) (args := #[(.pointer (some ⟨r, 0, none⟩))]) (fun wS hSw => by first | rfl | (go_simp; done)) (fun wS hSw => ?_)
                          subst hSw
                          refine C2.out.mono ?_
                          rintro e wn ⟨rfl, rfl⟩
                          exact ⟨rfl, rfl, Below.refl _ _⟩
                        refine ⟨?_, ?_⟩
                        · exact YieldsS.of_if (Or.inl ⟨by kernel_rfl, fun wS hSw => by subst hSw; (first | (go_simp; done) | (go_simp; with_reducible rfl))⟩)
                        refine ⟨?_, ?_⟩
                        · exact YieldsS.of_if (Or.inl ⟨by kernel_rfl, fun wS hSw => by subst hSw; (first | (go_simp; done) | (go_simp; with_reducible rfl))⟩)
                        refine ⟨?_, ?_⟩
                        · exact YieldsS.of_if (Or.inl ⟨by kernel_rfl, fun wS hSw => by subst hSw; (first | (go_simp; done) | (go_simp; with_reducible rfl))⟩)
                        exact trivial
                      · intro w7 hS7
                        subst hS7
                        refine NoPanic.normal ?_
                        go_wp2
                        go_ret
                        refine ⟨rfl, ?_⟩
                        rw [← HW.out]
                        exact (HBE.out.trans (HBXX.out.mono HLOW.out.2.2)).drew
        | cons y rem =>
          have HW := Lib.hid hW
          have HRG := Lib.hid hrg
          have HQQ := Lib.hid hqq
          have hgT : g.T ≤ 900000 := by omega
          have hl5 : (R.pop ++ done).length ≤ 10000 := by rw [List.length_append]; simp at hln; omega
          have e1 : hd0 (y :: rem) = y := rfl
          have e2 : more0 (y :: rem) = true := rfl
          rw [List.length_append] at e5
          subst e5
          clear hW hrg hqq hkk hap hle
          go_wp2_with (first
            | (at_builtin; refine wpList_u1 (z := y) (g := wr.heap.size) Try.underlying29 rfl (.tmp 75) (.tmp 77) rfl rfl rfl (HW.out.below ((Below.refl _ _).alloc (Nat.le_refl _) _)) (Blk.made _ _ _) hl5 (by simp; omega) ?_; intro v7 w7 hO7 hg7 hv7; have hb7 := (((Below.refl wr.heap.size wr).alloc (Nat.le_refl _) (.cells #[.int .u64 y] 33)).mono (show M ≤ wr.heap.size by omega)).trans (grown_below hg7 (fun q hq => (HW.out.own_lt hq).1) (show M ≤ _ by simp; omega)); have t7 : w7.cell? ⟨tt, 0, none⟩ = some (.pointer (some ⟨r, 0, none⟩)) := (hb7.cell ltt).trans t1; have R7 := HRG.out.below hb7 lr lsl; have O7 := Lib.hid hO7; have G7 := Lib.hid hg7; have V7 := Lib.hid hv7; have R7 := Lib.hid R7; have B7 := Lib.hid hb7; clear hO7 hg7 hv7 hb7)
            | (go_at_call 11; refine (trypop_any w7 R7.out HQQ.out hgT).mono ?_; rintro e w8 ⟨rfl, ⟨g8, h8, q8, t8⟩, k8⟩; have H8 := Lib.hid h8; have Q8 := Lib.hid q8; have T8 := Lib.hid t8; have K8 := Lib.hid k8; clear h8 q8 t8 k8))
          go_roundw
          case measure =>
            obtain ⟨A7, c7, e7, -⟩ := O7.out.rd
            rw [e7]
            simp [lenOf] at hln ⊢
            omega
          case rel =>
            refine ⟨done ++ [y], rem, g8, by rw [HLE.out, List.append_assoc]; rfl, rfl, rfl, ?_, H8.out, Q8.out, T8.out.trans hgt, fun q hq => ?_, ?_⟩
            · rw [← List.append_assoc]
              exact O7.out.kept K8.out (fun q hq e => by have := (O7.out.own_lt hq).1; omega)
            · rcases V7.out with e | e
              · rw [e] at hq; exact HAP2.out q hq
              · rw [e] at hq
                cases hq
                intro h
                obtain ⟨-, cs, hcs⟩ := HPUSH.out.own_lt h
                have := hcs.size
                simp at this
                omega
            · exact ((HKK.out.alloc_ (.cells #[.int .u64 y] 33)).grown G7.out (fun q hq => .inl (.inr (.inr ⟨(HW.out.own_lt hq).1, HAP2.out q hq⟩)))).trans (K8.out.more fun q _ e => by rcases e with e | e; exact .inl e; exact .inr (.inl e))
set_option maxRecDepth 100000 in
theorem lifted (os : Os) (started : os.Started) (H : Type) (enc : TypeId × Value → H) :
    ReturnsInHanded {} Try.checked os 4 .any (Rows.ringOnceSpec.pre6 enc Try.prog Try.f4 Rows.ringOnceRow.domain false) (Rows.ringOnceSpec.post enc Try.prog Try.f4 false true false false) := by
  refine returnsInHanded_of_change_sized (C := Try.checked) own started (by kernel_rfl) Try.func4
    (ChangeSpec.witness6 (enc := enc) (C := Try.checked) false ⟨#[], #[.int .u8 0, .slice none 0 0], []⟩ 8 (by kernel_rfl) (by kernel_rfl) (by kernel_rfl) (by kernel_rfl)) ?_
  intro W base args ds gs before hval0 hW hcnd hsz0 _
  have hsz : (DataW.weightsEach Try.prog (Try.f4.params.toList ++ Rows.ringOnceSpec.plain.varTypes Try.prog) (ds ++ gs)).all (· ≤ reachBytes) = true := hsz0
  clear hsz0
  have hval : ∀ (j : Nat) t v, Try.f4.params[j]? = some t → args[j]? = some v → Value.okWide Try.prog W .any base t v := hval0
  have hW' := hW
  obtain ⟨p, q, hA0, hV, rfl, hfz, hnd⟩ := hW
  have hA : DataW.TrodAll enc Try.prog W 0 (fun _ => true) true Try.f4.params.toList args.toList ds p := hA0
  rw [Try.params4] at hA hval hsz
  obtain ⟨v0, vs0, d0, ds0, p0, q0, hargs, rfl, rfl, h0, r0⟩ := trodAll_cons hA
  obtain ⟨v1, vs1, d1, ds1, p1, q1, rfl, rfl, rfl, h1, r1⟩ := trodAll_cons r0
  obtain ⟨rfl, rfl, rfl⟩ := trodAll_nil r1
  obtain rfl : args = #[v0, v1] := by cases args; simp_all
  obtain ⟨rfl, rfl⟩ := trodVars_none hV
  obtain ⟨a0, rfl, rfl, rfl, w0⟩ := open_int Try.underlying5 (hval 0 _ v0 rfl rfl) h0
  obtain ⟨A1, len1, cap1, rfl⟩ := okWide_slice Try.underlying22 (hval 1 _ v1 rfl rfl)
  obtain ⟨fu1, g1⟩ := h1
  obtain ⟨s1, t1, Q1, u1, o1⟩ := open_pks g1
  have zz1 := sized_len (j := 1) Try.underlying22 g1 hsz rfl rfl
  rw [show Try.prog.bytesOf 35 = 16 from by kernel_rfl] at zz1
  clear hA0 hval0
  obtain ⟨l0, m0⟩ := wf_u8 w0
  refine (walk a0 A1 len1 cap1 Q1 W s1 t1 u1 o1 zz1 l0 m0).mono fun e W' ⟨he, hg⟩ => ?_
  subst he
  exact ⟨_, rfl, post_of_law hW' rfl laidOut reads rfl Try.underlying4 rfl rfl rfl hg⟩
theorem over : Rows.ringOnceRow.holds Try.pinned (OpenSpec.ofChange Rows.ringOnceSpec) :=
  OpenClaim.holds_of_wide 4 Try.f4 rfl rfl rfl rfl rfl rfl rfl ⟨rfl, rfl, rfl, rfl, rfl⟩ rfl rfl rfl rfl rfl (by kernel_rfl) Try.func4 (by kernel_rfl)
    (of_decide_eq_true (by kernel_rfl)) (by unfold Func.isWrapper; first | (rw [if_pos (by decide +kernel)]; kernel_rfl) | (rw [if_neg (by decide +kernel)]; exact ⟨rfl, rfl⟩))
    (fun os started H enc _ => lifted os started H enc)
theorem proved : Rows.RingOnceSaid := over
end Go.Proofs.Ytbenpnecjmpcbaa.ringOnce
