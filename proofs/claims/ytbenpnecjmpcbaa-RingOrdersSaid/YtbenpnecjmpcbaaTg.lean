/- The team's run. -/
import Derived.Test.YtbenpnecjmpcbaaTe
import Derived.Test.YtbenpnecjmpcbaaUnj
import Derived.Deep.DeepCutAuto
import Derived.Deep.CutBlock
import Derived.Deep.MidRow
namespace Go.Proofs.Ytbenpnecjmpcbaa
open Go.RowKit
set_option linter.unusedVariables false
set_option linter.unusedSimpArgs false
theorem wp_worldT {P : Program} {code : Code} {Q : Exit → Act → World → Prop} {a : Act} {w : World} (φ : World → Prop) (h : φ w) (k : ∀ wx, φ wx → Code.wp P code Q a wx) : Code.wp P code Q a w := k w h
def ts0 (g : Rg) (K : Nat → Int) : Ts := ⟨g, fun _ => none, K, fun _ => dn0, []⟩
theorem now0 (w : World) (p : Nat) (cs : Array Value) (hb : Blk w p 58 cs) (hcs : cs = (List.flatten (List.replicate 6 (dnRow dn0))).toArray) : NowAt w p (fun _ => dn0) := by
  subst hcs
  refine ⟨_, hb, rfl, fun j k hj hk => ?_⟩
  match j, hj with
  | 0, _ | 1, _ | 2, _ | 3, _ | 4, _ | 5, _ =>
    match k, hk with
    | 0, _ | 1, _ | 2, _ | 3, _ | 4, _ | 5, _ => rfl
theorem setD_eq (w : World) (p o : Nat) (x : Dn) : w.setCells p o (dnRow x) = (((((w.setCell ⟨p, o, none⟩ (.int .i64 x.kind)).setCell ⟨p, o + 1, none⟩ (.int .u64 x.v)).setCell ⟨p, o + 2, none⟩ (.int .i64 x.b)).setCell ⟨p, o + 3, none⟩ (.int .i64 x.e)).setCell ⟨p, o + 4, none⟩ (.bool x.well)).setCell ⟨p, o + 5, none⟩ (.int .i64 x.re) := rfl
theorem setD_kept (w : World) (p o : Nat) (x : Dn) : Kept (fun k => k = p) w (w.setCells p o (dnRow x)) := by
  rw [setD_eq]
  exact ((((((Kept.refl (fun k => k = p) w).set_ (.inl rfl) _).set_ (.inl rfl) _).set_ (.inl rfl) _).set_ (.inl rfl) _).set_ (.inl rfl) _).set_ (.inl rfl) _
theorem NowAt.there (w : World) {p : Nat} {N : Nat → Dn} (h : NowAt w p N) {j : Nat} (hj : j < 6) : w.there p (j * 6) 6 := by
  intro k hk
  refine ⟨?_, h.free _⟩
  obtain ⟨cs, h1, h2, h3⟩ := h
  rw [h1.at_, h3 j k hj hk]
  match k, hk with
  | 0, _ | 1, _ | 2, _ | 3, _ | 4, _ | 5, _ => rfl
theorem NowAt.row (w : World) {p : Nat} {N : Nat → Dn} (h : NowAt w p N) {j : Nat} (hj : j < 6) (x : Dn) : NowAt (w.setCells p (j * 6) (dnRow x)) p (upd N j x) := by
  rw [setD_eq]
  have h1 := h.set hj (show 0 < 6 by omega) (.int .i64 x.kind) { N j with kind := x.kind } (fun i hi => by match i, hi with | 0, _ | 1, _ | 2, _ | 3, _ | 4, _ | 5, _ => rfl)
  have h2 := h1.set hj (show 1 < 6 by omega) (.int .u64 x.v) { N j with kind := x.kind, v := x.v } (fun i hi => by rw [upd_at]; match i, hi with | 0, _ | 1, _ | 2, _ | 3, _ | 4, _ | 5, _ => rfl)
  have h3 := h2.set hj (show 2 < 6 by omega) (.int .i64 x.b) { N j with kind := x.kind, v := x.v, b := x.b } (fun i hi => by rw [upd_at]; match i, hi with | 0, _ | 1, _ | 2, _ | 3, _ | 4, _ | 5, _ => rfl)
  have h4 := h3.set hj (show 3 < 6 by omega) (.int .i64 x.e) { N j with kind := x.kind, v := x.v, b := x.b, e := x.e } (fun i hi => by rw [upd_at]; match i, hi with | 0, _ | 1, _ | 2, _ | 3, _ | 4, _ | 5, _ => rfl)
  have h5 := h4.set hj (show 4 < 6 by omega) (.bool x.well) { N j with kind := x.kind, v := x.v, b := x.b, e := x.e, well := x.well } (fun i hi => by rw [upd_at]; match i, hi with | 0, _ | 1, _ | 2, _ | 3, _ | 4, _ | 5, _ => rfl)
  have h6 := h5.set hj (show 5 < 6 by omega) (.int .i64 x.re) x (fun i hi => by rw [upd_at]; match i, hi with | 0, _ | 1, _ | 2, _ | 3, _ | 4, _ | 5, _ => rfl)
  rw [upd_upd', upd_upd', upd_upd', upd_upd', upd_upd'] at h6
  exact h6
section
variable {w w' : World} {B n : Nat} {A : Ta} {g : Rg} {ac : Nat → Option Ac} {K : Nat → Int}
/-- What the run knows at the head of a round. -/
structure RunAt (w wr : World) (B M n t p : Nat) (A : Ta) (S : Ts) (k : Nat) (v : Value) : Prop where
  t : A.t = t
  tm : TmAt wr B n A S.g S.ac S.K
  ok : TsOk n k S
  now : NowAt wr p S.now
  out : OwD wr M v S.out
  bl : Below B w wr
/-- The same, in the midst of a round. -/
structure RunM (w wx : World) (B M n t p : Nat) (A : Ta) (g : Rg) (ac : Nat → Option Ac) (K : Nat → Int) (N : Nat → Dn) (v : Value) (L : List Dn) : Prop where
  t : A.t = t
  tm : TmAt wx B n A g ac K
  now : NowAt wx p N
  out : OwD wx M v L
  bl : Below B w wx
theorem acS_one {n : Nat} {g : Rg} {K : Int} {c : Ac} (hk : AcK K c) (h2 : 2 ≤ c.nx) (h1 : dnx c.nx ≤ 1) : dnx (acS n g c).nx = 2 := by
  obtain ⟨nx, po, pl, pu, pp, rd, st⟩ := c
  have h : nx = 2 ∨ nx = 3 ∨ nx = 4 ∨ nx = 6 ∨ nx = 7 ∨ nx = 8 ∨ nx = 9 ∨ nx = 10 := by
    have h2' : 2 ≤ nx := h2
    rcases hk with ⟨-, -, h⟩ | ⟨-, -, h⟩
    · have h' : nx = 0 ∨ nx = 1 ∨ nx = 2 ∨ nx = 3 ∨ nx = 4 ∨ nx = 6 := h
      omega
    · have h' : nx = 0 ∨ nx = 1 ∨ nx = 7 ∨ nx = 8 ∨ nx = 9 ∨ nx = 10 := h
      omega
  have h1' : dnx nx ≤ 1 := h1
  rcases h with rfl | rfl | rfl | rfl | rfl | rfl | rfl | rfl
  · simp [acS, dnx]
  · exact absurd h1' (by decide)
  · exact absurd h1' (by decide)
  · exact absurd h1' (by decide)
  · simp [acS, dnx]
  · exact absurd h1' (by decide)
  · exact absurd h1' (by decide)
  · exact absurd h1' (by decide)
theorem TsOk.more {n k k' : Nat} {s : Ts} (h : TsOk n k s) (hk : k ≤ k') : TsOk n k' s :=
  ⟨h.inv, h.bd.more hk, h.ne, fun j => by have := h.re j; omega, h.kd, Nat.le_trans h.len hk⟩
theorem TmAt.not_now (h : TmAt w B n A g ac K) {p : Nat} {N : Nat → Dn} (hN : NowAt w p N) : ¬ TOwn A ac p := by
  obtain ⟨cs, hcs, -⟩ := hN
  exact h.not_t hcs (by decide) (by decide) (by decide) (by decide) (by decide) (by decide) (by decide)
theorem TmAt.not_out (h : TmAt w B n A g ac K) {M : Nat} {v : Value} {L : List Dn} (hW : OwD w M v L) {x : Nat} (hx : v.ownBlock = some x) : ¬ TOwn A ac x := by
  obtain ⟨-, cs, hcs⟩ := hW.own_lt hx
  exact h.not_t hcs (by decide) (by decide) (by decide) (by decide) (by decide) (by decide) (by decide)
theorem OwD.not_now {M p : Nat} {v : Value} {L : List Dn} {N : Nat → Dn} (hW : OwD w M v L) (hN : NowAt w p N) {x : Nat} (hx : v.ownBlock = some x) : ¬ x = p := by
  obtain ⟨-, cs, hcs⟩ := hW.own_lt hx
  obtain ⟨ds, hds, -⟩ := hN
  exact hcs.other hds (by decide)
/-- What is noted of a thread's act is written anew. -/
theorem runAt_row {wx : World} {M t p k j : Nat} {S : Ts} {v : Value} {N : Nat → Dn} (ea : A.t = t) (h : TmAt wx B n A S.g S.ac S.K) (ok : TsOk n k S) (hN : NowAt wx p N) (hW : OwD wx M v S.out) (hb : Below B w wx) (hBp : B ≤ p) (hBw : B ≤ w.heap.size) (hj : j < 6) (x : Dn) (hS : S.now = upd N j x) :
    RunAt w (wx.setCells p (j * 6) (dnRow x)) B M n t p A S k v := by
  have hk := setD_kept wx p (j * 6) x
  refine ⟨ea, h.kept hk (fun l hl e => h.not_now hN (e ▸ hl)), ok, by rw [hS]; exact hN.row wx hj x, hW.kept hk (fun l hl => hW.not_now hN hl), hb.trans (hk.below (fun l e => e ▸ hBp) (Nat.le_trans hBw hb.size))⟩
end
set_option maxRecDepth 100000 in
set_option maxHeartbeats 8000000 in
theorem trun {B n len cap : Nat} {A : Ta} {g : Rg} {K : Nat → Int} {Ap : Option Addr} {Q : Nat → Pk} (w : World) (hn : 2 ≤ n) (hB : B ≤ w.heap.size) (h : TmAt w B n A g (fun _ => none) K) (ok : TsOk n 0 (ts0 g K)) (hQ : SeqAt w B Ap len 3 (fun i => pkRow (Q i))) (hok : ∀ i, i < len → (Q i).ok) (hlen : len ≤ cap) (hcap : cap ≤ maxLen) :
    Calls Try.prog 9 #[.pointer (some ⟨A.t, 0, none⟩), .slice Ap len cap] w fun e w' => ∃ v A', e = .returned (.tuple #[v, .bool true]) ∧ A'.t = A.t ∧ TmAt w' B n A' (tsRun n Q (min len 200) (ts0 g K)).g (tsRun n Q (min len 200) (ts0 g K)).ac (tsRun n Q (min len 200) (ts0 g K)).K ∧ TsOk n 200 (tsRun n Q (min len 200) (ts0 g K)) ∧ OwD w' w.heap.size v (tsRun n Q (min len 200) (ts0 g K)).out ∧ Below B w w' := by
  obtain ⟨t, ht⟩ : ∃ x, A.t = x := ⟨_, rfl⟩
  rw [ht]
  obtain ⟨s0, hs0⟩ : ∃ x, ts0 g K = x := ⟨_, rfl⟩
  rw [hs0]
  rw [hs0] at ok
  have h0 : TmAt w B n A s0.g s0.ac s0.K := by rw [← hs0]; exact h
  have n0 : s0.now = fun _ => dn0 := by rw [← hs0]; rfl
  have o0 : s0.out = [] := by rw [← hs0]; rfl
  have H0 := Lib.hid h0
  have N0 := Lib.hid n0
  have O0 := Lib.hid o0
  have OK := Lib.hid ok
  have HQ := Lib.hid hQ
  have HOK := Lib.hid hok
  have HAT := Lib.hid ht
  clear h h0 n0 o0 ok hQ hok hs0 ht
  go_enter Try.func9, Try.ntmps9
  go_upto_block 0 with fail
  go_cut [6] (fun s6 wx => ∃ A', RunAt w wx B w.heap.size n t w.heap.size A' (tsRun n Q (min len 200) s0) 200 s6)
  case first =>
    go_wp2
    go_loopw [6, 14] (fun s6 s14 wr => ∃ k A', k ≤ len ∧ k ≤ 200 ∧ s14 = .int .i64 k ∧ RunAt w wr B w.heap.size n t w.heap.size A' (tsRun n Q k s0) k s6) (fun _ i _ => len - (intOf i).toNat)
    case atStart =>
      refine ⟨0, A, Nat.zero_le _, Nat.zero_le _, rfl, HAT.out, H0.out.alloc_ _, OK.out, ?_, ?_, (Below.refl _ _).alloc hB _⟩
      · show NowAt _ _ s0.now
        rw [N0.out]
        exact now0 _ _ _ (Blk.made _ _ _) rfl
      · show OwD _ _ _ s0.out
        rw [O0.out]
        exact OwD.nil_ _ _
    case round =>
      obtain ⟨k, A', hk, hk200, rfl, hR⟩ := hrel
      obtain ⟨S, hS⟩ : ∃ x, tsRun n Q k s0 = x := ⟨_, rfl⟩
      rw [hS] at hR
      obtain ⟨hAt, hT, hO, hN, hW, hbr⟩ := hR
      have hzr := hbr.size
      obtain ⟨Aq, cq, hs6, hrd, hob⟩ := hW.rd
      subst hs6
      by_cases hlt : k < len
      · obtain ⟨kb, ko, rfl, hkb, hkc⟩ := HQ.out (by omega)
        have hq : ∀ j, j < 3 → wr.cell? ⟨kb, ko + k * 3 + j, none⟩ = (pkRow (Q k))[j]? := fun j hj => (hbr.cell (by omega)).trans (hkc k hlt j hj)
        have hqk := HOK.out k hlt
        obtain ⟨⟨x, d, v⟩, hqe⟩ : ∃ q, Q k = q := ⟨_, rfl⟩
        rw [hqe] at hq hqk
        obtain ⟨⟨e0', e1'⟩, ⟨d0, d1⟩, ⟨v0, v1⟩⟩ := hqk
        have e0 : (0 : Int) ≤ x := e0'
        have e1 : x ≤ 255 := e1'
        clear e0' e1'
        have q0 : wr.cell? ⟨kb, ko + k * 3, none⟩ = some (.int .u8 x) := hq 0 (by omega)
        have q1 : wr.cell? ⟨kb, ko + k * 3 + 1, none⟩ = some (.int .u8 d) := hq 1 (by omega)
        have q2 : wr.cell? ⟨kb, ko + k * 3 + 2, none⟩ = some (.int .u64 v) := hq 2 (by omega)
        have hkr : kb < wr.heap.size := by omega
        clear hq hkc
        by_cases h200 : k < 200
        · have hm : x.tmod 6 = x % 6 := Int.tmod_eq_emod_of_nonneg e0
          obtain ⟨j, hj⟩ : ∃ j : Nat, x % 6 = (j : Int) := ⟨(x % 6).toNat, by omega⟩
          have hj6 : j < 6 := by omega
          have hjn : x.toNat % 6 = j := by omega
          rw [hj] at hm
          clear hj
          have htl : t < wr.heap.size := by rw [← hAt]; exact hT.lt _ (.inl rfl)
          have hi0 : (0 : Int) ≤ (j : Int) := by omega
          have hi6 : (j : Int) < 6 := by omega
          have HS1 := Lib.hid (show tsRun n Q (k + 1) s0 = tsPick n S k j d v by show tsPick n (tsRun n Q k s0) k ((Q k).t.toNat % 6) (Q k).d (Q k).v = _; rw [hS, hqe]; show tsPick n S k (x.toNat % 6) d v = _; rw [hjn])
          have hT1 := hT.alloc_ (.cells #[.int .u8 x, .int .u8 d, .int .u64 v] 35)
          have f0 : wr.cell? ⟨t, 2 + j, none⟩ = some (pt (S.ac j) (A'.pa j)) := by rw [← hAt]; exact hT.ta hj6
          have PB := Lib.hid (Blk.made wr 35 #[.int .u8 x, .int .u8 d, .int .u64 v])
          have NA := Lib.hid (hN.kept ((Kept.refl (fun _ => False) wr).alloc_ (.cells #[.int .u8 x, .int .u8 d, .int .u64 v] 35)) id)
          have WA := Lib.hid (hW.below ((Below.refl _ wr).alloc (Nat.le_refl _) (.cells #[.int .u8 x, .int .u8 d, .int .u64 v] 35)))
          have BA := Lib.hid (hbr.alloc (Nat.le_trans hB hzr) (.cells #[.int .u8 x, .int .u8 d, .int .u64 v] 35))
          have OA := Lib.hid hO
          have TA := Lib.hid hT1
          have HA' := Lib.hid hAt
          have HSS := Lib.hid hS
          have hT0 := hT
          clear hqe hS hT hT1 hN hW hbr hO hrd hob hjn
          cases hac : S.ac j with
          | none =>
            have f1 : wr.cell? ⟨t, 2 + j, none⟩ = some (.pointer none) := by rw [f0, hac]; rfl
            have HAC := Lib.hid hac
            clear f0 hac hT0
            go_upto_region 10 with (go_at_call 18; rw [← HA'.out]; refine (tm_begin _ TA.out hj6 HAC.out (by simp; omega)).mono ?_; rintro e w5 ⟨rfl, A5, ea5, h5, k5⟩)
            have ea : A5.t = t := ea5.trans HA'.out
            have h5' := h5
            have k5' := k5
            have nn : ¬ TOwn A' S.ac w.heap.size := by obtain ⟨cs, hcs, -⟩ := NA.out; exact TA.out.not_t hcs (by decide) (by decide) (by decide) (by decide) (by decide) (by decide) (by decide)
            have np : ¬ TOwn A' S.ac wr.heap.size := TA.out.not_t PB.out (by decide) (by decide) (by decide) (by decide) (by decide) (by decide) (by decide)
            have hN5 := NA.out.kept k5 nn
            have hP5 := PB.out.kept k5 np
            have hW5 := WA.out.kept k5 (fun x hx => by obtain ⟨-, cs, hcs⟩ := WA.out.own_lt hx; exact TA.out.not_t hcs (by decide) (by decide) (by decide) (by decide) (by decide) (by decide) (by decide))
            have hB5 := BA.out.trans (k5.below (fun x hx => TA.out.low x hx) (by simp; omega))
            have c8 : w5.cell? ⟨t, 8 + j, none⟩ = some (.pointer (some ⟨A5.py j, 0, none⟩)) := by rw [← ea]; have := h5.ty hj6; rw [upd_at] at this; exact this
            obtain ⟨-, hy5, -⟩ := h5.act j _ hj6 (upd_at _ _ _)
            have cy : w5.cell? ⟨A5.py j, 0, none⟩ = some (.int .i64 (tk0 d)) := by have := YAt.k0 hy5; rw [upd_at] at this; exact this
            have cv : w5.cell? ⟨wr.heap.size, 2, none⟩ = some (.int .u64 v) := hP5.val rfl
            obtain ⟨y, hyd⟩ : ∃ x, A5.py j = x := ⟨_, rfl⟩
            rw [hyd] at c8 cy
            obtain ⟨kd, hkd⟩ : ∃ x, tk0 d = x := ⟨_, rfl⟩
            rw [hkd] at cy
            obtain ⟨P, hP⟩ : ∃ x, w.heap.size = x := ⟨_, rfl⟩
            obtain ⟨G, hG⟩ : ∃ x, wr.heap.size = x := ⟨_, rfl⟩
            rw [hG] at cv
            rw [hP] at hN5
            rw [hP, hG]
            have H5 := Lib.hid h5
            have N5 := Lib.hid hN5
            have W5 := Lib.hid hW5
            have B5 := Lib.hid hB5
            have EA := Lib.hid ea
            have HPP := Lib.hid hP
            have EK := Lib.hid hkd
            have n0 : w5.cell? ⟨P, j * 6 + 0, none⟩ = some (.int .i64 (S.now j).kind) := hN5.val hj6 (by decide) rfl
            have n1 : w5.cell? ⟨P, j * 6 + 1, none⟩ = some (.int .u64 (S.now j).v) := hN5.val hj6 (by decide) rfl
            have n2 : w5.cell? ⟨P, j * 6 + 2, none⟩ = some (.int .i64 (S.now j).b) := hN5.val hj6 (by decide) rfl
            have n3 : w5.cell? ⟨P, j * 6 + 3, none⟩ = some (.int .i64 (S.now j).e) := hN5.val hj6 (by decide) rfl
            have n4 : w5.cell? ⟨P, j * 6 + 4, none⟩ = some (.bool (S.now j).well) := hN5.val hj6 (by decide) rfl
            have n5 : w5.cell? ⟨P, j * 6 + 5, none⟩ = some (.int .i64 (S.now j).re) := hN5.val hj6 (by decide) rfl
            have nf : ∀ i, w5.frozen? ⟨P, i, none⟩ = false := hN5.free
            clear ea5 h5 k5 h5' k5' nn np hN5 hP5 hW5 hB5 hy5 ea hyd hkd hP hG
            obtain ⟨wp, hwp⟩ : ∃ x, w5.drew = x := ⟨_, rfl⟩
            rw [show w5.cell? = wp.cell? from by rw [← hwp]; rfl] at c8 cy cv n0 n1 n2 n3 n4 n5
            rw [show w5.frozen? = wp.frozen? from by rw [← hwp]; rfl] at nf
            have HP1 := Lib.hid hwp
            clear hwp
            refine wp_region_noPanic ?_
            refine wp_region_U (fun w' => w' = wp) [] [15] (by kernel_rfl) (HP1.out) ?_
            intro hsh0
            skip
            refine anyU_take 20 (i := 0) (v := ?_) rfl (by kernel_rfl) (by kernel_rfl) (by kernel_rfl) (by kernel_rfl) (fun _ _ _ h => h) (by assumption) (YieldsS.of_if (Or.inl ⟨by rfl, ?_⟩)) ?_
            rotate_left
            · (intro wS hSw; (try dsimp only at hSw); subst hSw; (first | (go_simp; done) | (go_simp; with_reducible rfl)))
            intro hsh1
            clear hsh0
            try simp only [Act.put, List.getElem_toArray, List.getElem_cons_zero, List.getElem_cons_succ, List.setIfInBounds_toArray, List.set_cons_zero, List.set_cons_succ]
            refine anyU_take 20 (i := 1) (v := ?_) rfl (by kernel_rfl) (by kernel_rfl) (by kernel_rfl) (by kernel_rfl) (fun _ _ _ h => h) (by assumption) (YieldsS.of_if (Or.inl ⟨by rfl, ?_⟩)) ?_
            rotate_left
            · (intro wS hSw; (try dsimp only at hSw); subst hSw; (first | (go_simp; done) | (go_simp; with_reducible rfl)))
            intro hsh2
            clear hsh1
            try simp only [Act.put, List.getElem_toArray, List.getElem_cons_zero, List.getElem_cons_succ, List.setIfInBounds_toArray, List.set_cons_zero, List.set_cons_succ]
            refine anyU_take 20 (i := 2) (v := ?_) rfl (by kernel_rfl) (by kernel_rfl) (by kernel_rfl) (by kernel_rfl) (fun _ _ _ h => h) (by assumption) (YieldsS.of_if (Or.inl ⟨by rfl, ?_⟩)) ?_
            rotate_left
            · (intro wS hSw; (try dsimp only at hSw); subst hSw; (first | (go_simp; done) | (go_simp; with_reducible rfl)))
            intro hsh3
            clear hsh2
            try simp only [Act.put, List.getElem_toArray, List.getElem_cons_zero, List.getElem_cons_succ, List.setIfInBounds_toArray, List.set_cons_zero, List.set_cons_succ]
            refine anyU_take 20 (i := 3) (v := ?_) rfl (by kernel_rfl) (by kernel_rfl) (by kernel_rfl) (by kernel_rfl) (fun _ _ _ h => h) (by assumption) (YieldsS.of_if (Or.inl ⟨by rfl, ?_⟩)) ?_
            rotate_left
            · (intro wS hSw; (try dsimp only at hSw); subst hSw; (first | (go_simp; done) | (go_simp; with_reducible rfl)))
            intro hsh4
            clear hsh3
            try simp only [Act.put, List.getElem_toArray, List.getElem_cons_zero, List.getElem_cons_succ, List.setIfInBounds_toArray, List.set_cons_zero, List.set_cons_succ]
            refine anyU_take 20 (i := 4) (v := ?_) rfl (by kernel_rfl) (by kernel_rfl) (by kernel_rfl) (by kernel_rfl) (fun _ _ _ h => h) (by assumption) (YieldsS.of_if (Or.inl ⟨by rfl, ?_⟩)) ?_
            rotate_left
            · (intro wS hSw; (try dsimp only at hSw); subst hSw; (first | (go_simp; done) | (go_simp; with_reducible rfl)))
            intro hsh5
            clear hsh4
            try simp only [Act.put, List.getElem_toArray, List.getElem_cons_zero, List.getElem_cons_succ, List.setIfInBounds_toArray, List.set_cons_zero, List.set_cons_succ]
            refine anyU_take 20 (i := 5) (v := ?_) rfl (by kernel_rfl) (by kernel_rfl) (by kernel_rfl) (by kernel_rfl) (fun _ _ _ h => h) (by assumption) (YieldsS.of_if (Or.inl ⟨by rfl, ?_⟩)) ?_
            rotate_left
            · (intro wS hSw; (try dsimp only at hSw); subst hSw; (first | (go_simp; done) | (go_simp; with_reducible rfl)))
            intro hsh6
            clear hsh5
            try simp only [Act.put, List.getElem_toArray, List.getElem_cons_zero, List.getElem_cons_succ, List.setIfInBounds_toArray, List.set_cons_zero, List.set_cons_succ]
            refine anyU_take 20 (i := 6) (v := ?_) rfl (by kernel_rfl) (by kernel_rfl) (by kernel_rfl) (by kernel_rfl) (fun _ _ _ h => h) (by assumption) (YieldsS.of_if (Or.inl ⟨by rfl, ?_⟩)) ?_
            rotate_left
            · (intro wS hSw; (try dsimp only at hSw); subst hSw; (first | (go_simp; done) | (go_simp; with_reducible rfl)))
            intro hsh7
            clear hsh6
            try simp only [Act.put, List.getElem_toArray, List.getElem_cons_zero, List.getElem_cons_succ, List.setIfInBounds_toArray, List.set_cons_zero, List.set_cons_succ]
            refine anyU_take 20 (i := 7) (v := ?_) rfl (by kernel_rfl) (by kernel_rfl) (by kernel_rfl) (by kernel_rfl) (fun _ _ _ h => h) (by assumption) (YieldsS.of_if (Or.inl ⟨by rfl, ?_⟩)) ?_
            rotate_left
            · (intro wS hSw; (try dsimp only at hSw); subst hSw; (first | (go_simp; done) | (go_simp; with_reducible rfl)))
            intro hsh8
            clear hsh7
            try simp only [Act.put, List.getElem_toArray, List.getElem_cons_zero, List.getElem_cons_succ, List.setIfInBounds_toArray, List.set_cons_zero, List.set_cons_succ]
            refine anyU_take 20 (i := 8) (v := ?_) rfl (by kernel_rfl) (by kernel_rfl) (by kernel_rfl) (by kernel_rfl) (fun _ _ _ h => h) (by assumption) (YieldsS.of_if (Or.inl ⟨by rfl, ?_⟩)) ?_
            rotate_left
            · (intro wS hSw; (try dsimp only at hSw); subst hSw; (first | (go_simp; done) | (go_simp; with_reducible rfl)))
            intro hsh9
            clear hsh8
            try simp only [Act.put, List.getElem_toArray, List.getElem_cons_zero, List.getElem_cons_succ, List.setIfInBounds_toArray, List.set_cons_zero, List.set_cons_succ]
            refine anyU_take 20 (i := 9) (v := ?_) rfl (by kernel_rfl) (by kernel_rfl) (by kernel_rfl) (by kernel_rfl) (fun _ _ _ h => h) (by assumption) (YieldsS.of_if (Or.inl ⟨by rfl, ?_⟩)) ?_
            rotate_left
            · (intro wS hSw; (try dsimp only at hSw); subst hSw; (first | (go_simp; done) | (go_simp; with_reducible rfl)))
            intro hsh10
            clear hsh9
            try simp only [Act.put, List.getElem_toArray, List.getElem_cons_zero, List.getElem_cons_succ, List.setIfInBounds_toArray, List.set_cons_zero, List.set_cons_succ]
            refine anyU_take 20 (i := 10) (v := ?_) rfl (by kernel_rfl) (by kernel_rfl) (by kernel_rfl) (by kernel_rfl) (fun _ _ _ h => h) (by assumption) (YieldsS.of_if (Or.inl ⟨by rfl, ?_⟩)) ?_
            rotate_left
            · (intro wS hSw; (try dsimp only at hSw); subst hSw; (first | (go_simp; done) | (go_simp; with_reducible rfl)))
            intro hsh11
            clear hsh10
            try simp only [Act.put, List.getElem_toArray, List.getElem_cons_zero, List.getElem_cons_succ, List.setIfInBounds_toArray, List.set_cons_zero, List.set_cons_succ]
            refine anyU_take 20 (i := 11) (v := ?_) rfl (by kernel_rfl) (by kernel_rfl) (by kernel_rfl) (by kernel_rfl) (fun _ _ _ h => h) (by assumption) (YieldsS.of_if (Or.inl ⟨by rfl, ?_⟩)) ?_
            rotate_left
            · (intro wS hSw; (try dsimp only at hSw); subst hSw; (first | (go_simp; done) | (go_simp; with_reducible rfl)))
            intro hsh12
            clear hsh11
            try simp only [Act.put, List.getElem_toArray, List.getElem_cons_zero, List.getElem_cons_succ, List.setIfInBounds_toArray, List.set_cons_zero, List.set_cons_succ]
            refine anyU_take 20 (i := 12) (v := ?_) rfl (by kernel_rfl) (by kernel_rfl) (by kernel_rfl) (by kernel_rfl) (fun _ _ _ h => h) (by assumption) (YieldsS.of_if (Or.inl ⟨by rfl, ?_⟩)) ?_
            rotate_left
            · (intro wS hSw; (try dsimp only at hSw); subst hSw; (first | (go_simp; done) | (go_simp; with_reducible rfl)))
            intro hsh13
            clear hsh12
            try simp only [Act.put, List.getElem_toArray, List.getElem_cons_zero, List.getElem_cons_succ, List.setIfInBounds_toArray, List.set_cons_zero, List.set_cons_succ]
            refine anyU_take 20 (i := 13) (v := ?_) rfl (by kernel_rfl) (by kernel_rfl) (by kernel_rfl) (by kernel_rfl) (fun _ _ _ h => h) (by assumption) (YieldsS.of_if (Or.inl ⟨by rfl, ?_⟩)) ?_
            rotate_left
            · (intro wS hSw; (try dsimp only at hSw); subst hSw; (first | (go_simp; done) | (go_simp; with_reducible rfl)))
            intro hsh14
            clear hsh13
            try simp only [Act.put, List.getElem_toArray, List.getElem_cons_zero, List.getElem_cons_succ, List.setIfInBounds_toArray, List.set_cons_zero, List.set_cons_succ]
            refine anyU_take 20 (i := 14) (v := ?_) rfl (by kernel_rfl) (by kernel_rfl) (by kernel_rfl) (by kernel_rfl) (fun _ _ _ h => h) (by assumption) (YieldsS.of_if (Or.inl ⟨by rfl, ?_⟩)) ?_
            rotate_left
            · (intro wS hSw; (try dsimp only at hSw); subst hSw; (first | (go_simp; done) | (go_simp; with_reducible rfl)))
            intro hsh15
            clear hsh14
            try simp only [Act.put, List.getElem_toArray, List.getElem_cons_zero, List.getElem_cons_succ, List.setIfInBounds_toArray, List.set_cons_zero, List.set_cons_succ]
            refine anyU_last (i := 15) (by kernel_rfl) (by kernel_rfl) (fun wS hSw _ => ?_)
            refine last_op rfl (by rfl) (by kernel_rfl) ?_
            subst hSw
            refine wp_store_mid 47 (.tmp 53) (.tmp 52) rfl P (j * 6) (dnRow ⟨kd, v, k, 0, false, 0⟩).toArray (by go_simp) (by go_simp; rfl) (NowAt.there _ (by rw [← HP1.out]; exact N5.out.kept ((Kept.refl (fun _ => False) w5).drew_) id) hj6) (by kernel_rfl) (Go.all_oneCell_toArray dn_one) ?_
            try go_simp
            refine NoPanic.normal ?_
            go_wp2
            have hP := HPP.out
            clear HPP
            subst hP
            go_roundw
            case measure => simp [intOf]; omega
            case rel =>
              refine ⟨k + 1, A5, by omega, by omega, by go_num, ?_⟩
              rw [HS1.out, show tsPick n S k j d v = tsBegin S k j d v from by unfold tsPick; rw [HAC.out]]
              rw [← HP1.out]
              exact runAt_row EA.out H5.out.drew_ (OA.out.begin_ k j d v) (N5.out.kept ((Kept.refl (fun _ => False) w5).drew_) id) (W5.out.kept ((Kept.refl (fun _ => False) w5).drew_) (fun _ _ => id)) B5.out.drew hB hB hj6 ⟨kd, v, k, 0, false, 0⟩ (by rw [← EK.out]; rfl)
          | some c =>
            obtain ⟨ne1, ne2⟩ := OA.out.ne j c hac
            obtain ⟨kd1, kd2⟩ := OA.out.kd j c hac
            obtain ⟨-, hy0, -⟩ := TA.out.act j c hj6 hac
            obtain ⟨y, hyd⟩ : ∃ x, A'.py j = x := ⟨_, rfl⟩
            obtain ⟨a, had⟩ : ∃ x, A'.pa j = x := ⟨_, rfl⟩
            obtain ⟨W, hW⟩ : ∃ x, dnx c.nx = x := ⟨_, rfl⟩
            have lty : y < wr.heap.size := by
              rw [← hyd]
              exact (TmAt.lt (w := wr) hT0 _ (.inr (.inr (.inr (.inr (.inr (.inr ⟨j, hj6, ne_some hac, .inr rfl⟩)))))))
            have f1 : wr.cell? ⟨t, 2 + j, none⟩ = some (.pointer (some ⟨a, 0, none⟩)) := by rw [f0, hac, had]; rfl
            have f8 : wr.cell? ⟨t, 8 + j, none⟩ = some (.pointer (some ⟨y, 0, none⟩)) := by rw [← HA'.out]; have := hT0.ty hj6; rw [hac, hyd] at this; exact this
            have fy : wr.cell? ⟨y, 1, none⟩ = some (.int .i64 W) := by
              obtain ⟨-, hy1, -⟩ := hT0.act j c hj6 hac
              rw [hyd] at hy1
              rw [← hW]
              exact hy1.nx1
            have HAC := Lib.hid hac
            have HWW := Lib.hid hW
            have HNE := Lib.hid (And.intro ne1 ne2)
            have HKD := Lib.hid kd1
            have HKK := Lib.hid kd2
            have HYD := Lib.hid hyd
            have HAD := Lib.hid had
            clear f0 hac ne1 ne2 kd1 kd2 hy0 hT0 hyd had hW
            go_upto_region 14 with (go_at_call 19; rw [← HA'.out]; refine (tm_step _ TA.out hj6 HAC.out HNE.out.1 OA.out.bd (by omega)).mono ?_; rintro e w5 ⟨rfl, h5, k5⟩)
            obtain ⟨c', hc'⟩ : ∃ x, acS n S.g c = x := ⟨_, rfl⟩
            obtain ⟨g', hg'⟩ : ∃ x, rgS n S.g c = x := ⟨_, rfl⟩
            rw [hc', hg'] at h5
            have hM : RunM w w5 B w.heap.size n t w.heap.size A' g' (upd S.ac j (some c')) S.K S.now (.slice Aq S.out.length cq) S.out :=
              ⟨HA'.out, h5, NA.out.kept k5 (TA.out.not_now NA.out), WA.out.kept k5 (fun x hx => TA.out.not_out WA.out hx), BA.out.trans (k5.below (fun x hx => TA.out.low x hx) (by simp; omega))⟩
            have HCC := Lib.hid hc'
            have HGG := Lib.hid hg'
            have hKc : AcK (S.K j) c' := by rw [← hc']; exact acS_K HKK.out
            have hde : (dnx c'.nx == 0) = endE c'.nx := by
              obtain ⟨n0, p0, l0, u0, q0, r0, t0⟩ := c'
              exact dnx_end hKc
            obtain ⟨D, hD⟩ : ∃ x, dnx c'.nx = x := ⟨_, rfl⟩
            rw [hD] at hde
            have hW2 : W ≤ 1 → D = 2 := fun h => by rw [← hD, ← hc']; exact acS_one HKK.out HNE.out.1 (by rw [HWW.out]; exact h)
            have HKC := Lib.hid hKc
            have HD := Lib.hid hD
            clear hc' hg' hKc hD h5 k5 f1 f8 fy lty htl TA NA WA BA PB
            refine wp_worldT (fun wx => RunM w wx B w.heap.size n t w.heap.size A' g' (upd S.ac j (some c')) S.K S.now (.slice Aq S.out.length cq) S.out) hM ?_
            clear hM
            intro wx hM
            have d2 : wx.cell? ⟨t, 2 + j, none⟩ = some (.pointer (some ⟨a, 0, none⟩)) := by rw [← hM.t]; have := hM.tm.ta hj6; rw [upd_at, HAD.out] at this; exact this
            have d8 : wx.cell? ⟨t, 8 + j, none⟩ = some (.pointer (some ⟨y, 0, none⟩)) := by rw [← hM.t]; have := hM.tm.ty hj6; rw [upd_at, HYD.out] at this; exact this
            obtain ⟨ha, hy, -⟩ := hM.tm.act j c' hj6 (upd_at _ _ _)
            rw [HAD.out] at ha
            rw [HYD.out] at hy
            have dy : wx.cell? ⟨y, 1, none⟩ = some (.int .i64 D) := by rw [← HD.out]; exact hy.nx1
            have CE := Lib.hid (rended wx ha)
            have HM := Lib.hid hM
            have HY := Lib.hid hy
            have HA2 := Lib.hid ha
            clear hM ha hy
            by_cases hE : endE c'.nx = true
            · have hD0 : D = 0 := by rw [hE] at hde; simpa using hde
              have hE2 := hE
              have hw : 1 < W := by
                  rcases Int.lt_or_le 1 W with h | h
                  · exact h
                  · have := hW2 h; omega
              have hb1 : decide (1 < W) = true := decide_eq_true hw
              have hb2 : (D == 1) = false := by rw [hD0]; rfl
              have hPa : a ≠ w.heap.size := by obtain ⟨cs, hcs, -⟩ := HM.out.now; exact Blk.other HA2.out hcs (by decide)
              obtain ⟨WL, hWL⟩ : ∃ x, (c'.nx == 1) = x := ⟨_, rfl⟩
              obtain ⟨kd, hkd⟩ : ∃ x, (S.now j).kind = x := ⟨_, rfl⟩
              have HWL := Lib.hid hWL
              have HKD2 := Lib.hid hkd
              clear hde hW2 hE2 hWL hkd
              go_upto_region 17 with (go_at_call 20; refine CE.out.mono ?_; rintro e w6 ⟨rfl, rfl⟩; rw [hE])
              obtain ⟨wp, hwp⟩ : ∃ x, wx.drew = x := ⟨_, rfl⟩
              have d2' : wp.cell? ⟨t, 2 + j, none⟩ = some (.pointer (some ⟨a, 0, none⟩)) := by rw [← hwp]; exact d2
              have NN := Lib.hid (show NowAt wp w.heap.size S.now by rw [← hwp]; exact HM.out.now.kept ((Kept.refl (fun _ => False) wx).drew_) id)
              have n3 : wp.cell? ⟨w.heap.size, j * 6 + 3, none⟩ = some (.int .i64 (S.now j).e) := NN.out.val hj6 (by decide) rfl
              have n4 : wp.cell? ⟨w.heap.size, j * 6 + 4, none⟩ = some (.bool (S.now j).well) := NN.out.val hj6 (by decide) rfl
              have nf : ∀ i, wp.frozen? ⟨w.heap.size, i, none⟩ = false := NN.out.free
              have CO := Lib.hid (rok wp (by rw [← hwp]; exact HA2.out))
              rw [HWL.out] at CO
              have HP1 := Lib.hid hwp
              clear hwp d2 d8 dy CE
              refine wp_region_noPanic ?_
              refine wp_region_U (fun w' => w' = wp) [] [12] (by kernel_rfl) (HP1.out) ?_
              intro hsh0
              skip
              refine anyU_take 20 (i := 0) (v := ?_) rfl (by kernel_rfl) (by kernel_rfl) (by kernel_rfl) (by kernel_rfl) (fun _ _ _ h => h) (by assumption) (YieldsS.of_if (Or.inl ⟨by rfl, ?_⟩)) ?_
              rotate_left
              · (intro wS hSw; (try dsimp only at hSw); subst hSw; (first | (go_simp; done) | (go_simp; with_reducible rfl)))
              intro hsh1
              clear hsh0
              try simp only [Act.put, List.getElem_toArray, List.getElem_cons_zero, List.getElem_cons_succ, List.setIfInBounds_toArray, List.set_cons_zero, List.set_cons_succ]
              refine anyU_takeW (i := 1) (v := ?_) rfl (by kernel_rfl) (by kernel_rfl) (by kernel_rfl) (fun _ _ _ h => h) (by assumption) (Or.inl ⟨by rfl, ?_⟩) ?_
              rotate_left
              · (intro wS; (first | (go_simp; done) | (go_simp; with_reducible rfl)))
              intro hsh2
              clear hsh1
              try simp only [Act.put, List.getElem_toArray, List.getElem_cons_zero, List.getElem_cons_succ, List.setIfInBounds_toArray, List.set_cons_zero, List.set_cons_succ]
              refine anyU_take 20 (i := 2) (v := ?_) rfl (by kernel_rfl) (by kernel_rfl) (by kernel_rfl) (by kernel_rfl) (fun _ _ _ h => h) (by assumption) (YieldsS.of_if (Or.inl ⟨by rfl, ?_⟩)) ?_
              rotate_left
              · (intro wS hSw; (try dsimp only at hSw); subst hSw; (first | (go_simp; done) | (go_simp; with_reducible rfl)))
              intro hsh3
              clear hsh2
              try simp only [Act.put, List.getElem_toArray, List.getElem_cons_zero, List.getElem_cons_succ, List.setIfInBounds_toArray, List.set_cons_zero, List.set_cons_succ]
              refine anyU_take 20 (i := 3) (v := ?_) rfl (by kernel_rfl) (by kernel_rfl) (by kernel_rfl) (by kernel_rfl) (fun _ _ _ h => h) (by assumption) (YieldsS.of_if (Or.inl ⟨by rfl, ?_⟩)) ?_
              rotate_left
              · (intro wS hSw; (try dsimp only at hSw); subst hSw; (first | (go_simp; done) | (go_simp; with_reducible rfl)))
              intro hsh4
              clear hsh3
              try simp only [Act.put, List.getElem_toArray, List.getElem_cons_zero, List.getElem_cons_succ, List.setIfInBounds_toArray, List.set_cons_zero, List.set_cons_succ]
              refine anyU_take 20 (i := 4) (v := ?_) rfl (by kernel_rfl) (by kernel_rfl) (by kernel_rfl) (by kernel_rfl) (fun _ _ _ h => h) (by assumption) (YieldsS.of_if (Or.inl ⟨by rfl, ?_⟩)) ?_
              rotate_left
              · (intro wS hSw; (try dsimp only at hSw); subst hSw; (first | (go_simp; done) | (go_simp; with_reducible rfl)))
              intro hsh5
              clear hsh4
              try simp only [Act.put, List.getElem_toArray, List.getElem_cons_zero, List.getElem_cons_succ, List.setIfInBounds_toArray, List.set_cons_zero, List.set_cons_succ]
              refine anyU_take 20 (i := 5) (v := ?_) rfl (by kernel_rfl) (by kernel_rfl) (by kernel_rfl) (by kernel_rfl) (fun _ _ _ h => h) (by assumption) (YieldsS.of_if (Or.inl ⟨by rfl, ?_⟩)) ?_
              rotate_left
              · (intro wS hSw; (try dsimp only at hSw); subst hSw; (first | (go_simp; done) | (go_simp; with_reducible rfl)))
              intro hsh6
              clear hsh5
              try simp only [Act.put, List.getElem_toArray, List.getElem_cons_zero, List.getElem_cons_succ, List.setIfInBounds_toArray, List.set_cons_zero, List.set_cons_succ]
              refine anyU_take 20 (i := 6) (v := ?_) rfl (by kernel_rfl) (by kernel_rfl) (by kernel_rfl) (by kernel_rfl) (fun _ _ _ h => h) (by assumption) (YieldsS.of_if (Or.inl ⟨by rfl, ?_⟩)) ?_
              rotate_left
              · (intro wS hSw; (try dsimp only at hSw); subst hSw; (first | (go_simp; done) | (go_simp; with_reducible rfl)))
              intro hsh7
              clear hsh6
              try simp only [Act.put, List.getElem_toArray, List.getElem_cons_zero, List.getElem_cons_succ, List.setIfInBounds_toArray, List.set_cons_zero, List.set_cons_succ]
              refine anyU_take 20 (i := 7) (v := ?_) rfl (by kernel_rfl) (by kernel_rfl) (by kernel_rfl) (by kernel_rfl) (fun _ _ _ h => h) (by assumption) (YieldsS.of_if (Or.inl ⟨by rfl, ?_⟩)) ?_
              rotate_left
              · (intro wS hSw; (try dsimp only at hSw); subst hSw; (first | (go_simp; done) | (go_simp; with_reducible rfl)))
              intro hsh8
              clear hsh7
              try simp only [Act.put, List.getElem_toArray, List.getElem_cons_zero, List.getElem_cons_succ, List.setIfInBounds_toArray, List.set_cons_zero, List.set_cons_succ]
              refine anyU_take 20 (i := 8) (v := ?_) rfl (by kernel_rfl) (by kernel_rfl) (by kernel_rfl) (by kernel_rfl) (fun _ _ _ h => h) (by assumption) (YieldsS.of_if (Or.inl ⟨by rfl, ?_⟩)) ?_
              rotate_left
              · (intro wS hSw; (try dsimp only at hSw); subst hSw; (first | (go_simp; done) | (go_simp; with_reducible rfl)))
              intro hsh9
              clear hsh8
              try simp only [Act.put, List.getElem_toArray, List.getElem_cons_zero, List.getElem_cons_succ, List.setIfInBounds_toArray, List.set_cons_zero, List.set_cons_succ]
              refine anyU_take 20 (i := 9) (v := (.bool WL)) rfl (by kernel_rfl) (by kernel_rfl) (by kernel_rfl) (by kernel_rfl) (fun _ _ _ h => h) (by assumption) (YieldsS.of_call (by rfl) (f := 21) (args := #[.pointer (some ⟨a, 0, none⟩)]) (fun wS hSw => by first | rfl | (go_simp; done)) (fun wS hSw => ?_)) ?_
              · subst hSw; refine CO.out.mono ?_; rintro e wn ⟨rfl, rfl⟩; exact ⟨rfl, rfl, Below.refl _ _⟩
              intro hsh10
              clear hsh9
              try simp only [Act.put, List.getElem_toArray, List.getElem_cons_zero, List.getElem_cons_succ, List.setIfInBounds_toArray, List.set_cons_zero, List.set_cons_succ]
              refine anyU_take 20 (i := 10) (v := ?_) rfl (by kernel_rfl) (by kernel_rfl) (by kernel_rfl) (by kernel_rfl) (fun _ _ _ h => h) (by assumption) (YieldsS.of_if (Or.inl ⟨by rfl, ?_⟩)) ?_
              rotate_left
              · (intro wS hSw; (try dsimp only at hSw); subst hSw; (first | (go_simp; done) | (go_simp; with_reducible rfl)))
              intro hsh11
              clear hsh10
              try simp only [Act.put, List.getElem_toArray, List.getElem_cons_zero, List.getElem_cons_succ, List.setIfInBounds_toArray, List.set_cons_zero, List.set_cons_succ]
              refine anyU_take 20 (i := 11) (v := ?_) rfl (by kernel_rfl) (by kernel_rfl) (by kernel_rfl) (by kernel_rfl) (fun _ _ _ h => h) (by assumption) (YieldsS.of_if (Or.inl ⟨by rfl, ?_⟩)) ?_
              rotate_left
              · (intro wS hSw; (try dsimp only at hSw); subst hSw; (first | (go_simp; done) | (go_simp; with_reducible rfl)))
              intro hsh12
              clear hsh11
              try simp only [Act.put, List.getElem_toArray, List.getElem_cons_zero, List.getElem_cons_succ, List.setIfInBounds_toArray, List.set_cons_zero, List.set_cons_succ]
              refine anyU_last (i := 12) (by kernel_rfl) (by kernel_rfl) (fun wS hSw _ => ?_)
              refine one_op rfl (by rfl) ?_
              unfold Oper.wp
              subst hSw
              go_simp
              refine any_one (i := 13) (by kernel_rfl) rfl (by rfl) ?_
              unfold Oper.wp
              go_simp
              refine any_one (i := 14) (by kernel_rfl) rfl (by rfl) ?_
              unfold Oper.wp
              go_simp
              refine any_one (i := 15) (by kernel_rfl) rfl (by rfl) ?_
              unfold Oper.wp
              go_simp
              refine any_done (by kernel_rfl) ?_ _
              refine NoPanic.normal ?_
              go_upto_region 18 with fail
              have hM1 : RunM w ((wS.setCell ⟨w.heap.size, j * 6 + 3, none⟩ (.int .i64 (k : Int))).setCell ⟨w.heap.size, j * 6 + 4, none⟩ (.bool WL)) B w.heap.size n t w.heap.size A' g' (upd S.ac j (some c')) S.K (upd S.now j { S.now j with e := k, well := WL }) (.slice Aq S.out.length cq) S.out := by
                have hM := HM.out
                have hk : Kept (fun x => x = w.heap.size) wx ((wS.setCell ⟨w.heap.size, j * 6 + 3, none⟩ (.int .i64 (k : Int))).setCell ⟨w.heap.size, j * 6 + 4, none⟩ (.bool WL)) := by
                  rw [← HP1.out]
                  exact (((Kept.refl (fun x => x = w.heap.size) wx).drew_).set_ (.inl rfl) _).set_ (.inl rfl) _
                refine ⟨hM.t, hM.tm.kept hk (fun x hx e => hM.tm.not_now hM.now (e ▸ hx)), ?_, hM.out.kept hk (fun x hx => hM.out.not_now hM.now hx), hM.bl.trans (hk.below (fun x e => e ▸ hB) (Nat.le_trans hB hM.bl.size))⟩
                have q1 := NN.out.set hj6 (show 3 < 6 by omega) (.int .i64 (k : Int)) { S.now j with e := k } (fun i hi => by match i, hi with | 0, _ | 1, _ | 2, _ | 3, _ | 4, _ | 5, _ => rfl)
                have q2 := q1.set hj6 (show 4 < 6 by omega) (.bool WL) { S.now j with e := k, well := WL } (fun i hi => by rw [upd_at]; match i, hi with | 0, _ | 1, _ | 2, _ | 3, _ | 4, _ | 5, _ => rfl)
                rw [upd_upd'] at q2
                exact q2
              refine wp_worldT (fun wx => RunM w wx B w.heap.size n t w.heap.size A' g' (upd S.ac j (some c')) S.K (upd S.now j { S.now j with e := k, well := WL }) (.slice Aq S.out.length cq) S.out) hM1 ?_
              clear hM1 n3 n4 nf CO d2'
              intro wy hM1
              have n0 : wy.cell? ⟨w.heap.size, j * 6, none⟩ = some (.int .i64 kd) := by have := hM1.now.val hj6 (show 0 < 6 by omega) (v := .int .i64 kd) (by rw [upd_at, ← HKD2.out]; rfl); exact this
              have HM1 := Lib.hid hM1
              clear hM1
              by_cases hkk : kd = 2
              · have hb3 : (kd == 2) = true := by simpa using hkk
                have hX : dnEnd k c' (S.now j) = ⟨kd, c'.pp, (S.now j).b, k, WL, (S.now j).re⟩ := by
                  unfold dnEnd
                  rw [HKD2.out, if_pos hkk, ← HWL.out]
                  rfl
                obtain ⟨ha1, -, -⟩ := HM1.out.tm.act j c' hj6 (upd_at _ _ _)
                rw [HAD.out] at ha1
                have CV := Lib.hid (rvalue wy ha1)
                have n1 : wy.cell? ⟨w.heap.size, j * 6 + 1, none⟩ = some (.int .u64 (S.now j).v) := by have := HM1.out.now.val hj6 (show 1 < 6 by omega) (v := .int .u64 (S.now j).v) (by rw [upd_at]; rfl); exact this
                have nf1 : ∀ i, wy.frozen? ⟨w.heap.size, i, none⟩ = false := HM1.out.now.free
                have d2 : wy.cell? ⟨t, 2 + j, none⟩ = some (.pointer (some ⟨a, 0, none⟩)) := by rw [← HM1.out.t]; have := HM1.out.tm.ta hj6; rw [upd_at, HAD.out] at this; exact this
                clear ha1
                go_upto_region 20 with (go_at_call 22; refine CV.out.mono ?_; rintro e w6 ⟨rfl, rfl⟩)
                have hM2 : RunM w (wy.setCell ⟨w.heap.size, j * 6 + 1, none⟩ (.int .u64 c'.pp)) B w.heap.size n t w.heap.size A' g' (upd S.ac j (some c')) S.K (upd S.now j (dnEnd k c' (S.now j))) (.slice Aq S.out.length cq) S.out := by
                  have hM := HM1.out
                  have hk : Kept (fun x => x = w.heap.size) wy (wy.setCell ⟨w.heap.size, j * 6 + 1, none⟩ (.int .u64 c'.pp)) := (Kept.refl (fun x => x = w.heap.size) wy).set_ (.inl rfl) _
                  refine ⟨hM.t, hM.tm.kept hk (fun x hx e => hM.tm.not_now hM.now (e ▸ hx)), ?_, hM.out.kept hk (fun x hx => hM.out.not_now hM.now hx), hM.bl.trans (hk.below (fun x e => e ▸ hB) (Nat.le_trans hB hM.bl.size))⟩
                  have q1 := hM.now.set hj6 (show 1 < 6 by omega) (.int .u64 c'.pp) (dnEnd k c' (S.now j)) (fun i hi => by rw [upd_at, hX, ← HKD2.out]; match i, hi with | 0, _ | 1, _ | 2, _ | 3, _ | 4, _ | 5, _ => rfl)
                  rw [upd_upd'] at q1
                  exact q1
                clear CV n1 nf1 d2
                refine wp_worldT (fun wx => RunM w wx B w.heap.size n t w.heap.size A' g' (upd S.ac j (some c')) S.K (upd S.now j (dnEnd k c' (S.now j))) (.slice Aq S.out.length cq) S.out) hM2 ?_
                clear hM2 n0 HM1
                intro wz hM2
                obtain ⟨⟨xk, xv, xb, xe, xw, xr⟩, hXX⟩ : ∃ x, dnEnd k c' (S.now j) = x := ⟨_, rfl⟩
                rw [hXX] at hM2
                have m : ∀ i u, i < 6 → (dnRow ⟨xk, xv, xb, xe, xw, xr⟩)[i]? = some u → wz.cell? ⟨w.heap.size, j * 6 + i, none⟩ = some u := fun i u hi hu => hM2.now.val hj6 hi (by rw [upd_at]; exact hu)
                have m0 : wz.cell? ⟨w.heap.size, j * 6, none⟩ = some (.int .i64 xk) := m 0 _ (by omega) rfl
                have m1 : wz.cell? ⟨w.heap.size, j * 6 + 1, none⟩ = some (.int .u64 xv) := m 1 _ (by omega) rfl
                have m2 : wz.cell? ⟨w.heap.size, j * 6 + 2, none⟩ = some (.int .i64 xb) := m 2 _ (by omega) rfl
                have m3 : wz.cell? ⟨w.heap.size, j * 6 + 3, none⟩ = some (.int .i64 xe) := m 3 _ (by omega) rfl
                have m4 : wz.cell? ⟨w.heap.size, j * 6 + 4, none⟩ = some (.bool xw) := m 4 _ (by omega) rfl
                have m5 : wz.cell? ⟨w.heap.size, j * 6 + 5, none⟩ = some (.int .i64 xr) := m 5 _ (by omega) rfl
                have lnow : w.heap.size < wz.heap.size := by obtain ⟨cs, hcs, -⟩ := hM2.now; exact hcs.size
                have hlen : S.out.length ≤ 10000 := by have := OA.out.len; omega
                have HM2 := Lib.hid hM2
                have HXX := Lib.hid hXX
                clear hM2 hX hXX m
                go_upto_region 21 with (at_builtin; refine wpList_dn (z := ⟨xk, xv, xb, xe, xw, xr⟩) (g := wz.heap.size) Try.underlying26 rfl (.tmp 124) (.tmp 128) rfl rfl rfl (HM2.out.out.below ((Below.refl _ _).alloc (Nat.le_refl _) _)) (Blk.made _ _ _) hlen (by simp; omega) ?_; intro v7 w7 hO7 hg7)
                have hM3 : RunM w w7 B w.heap.size n t w.heap.size A' g' (upd S.ac j (some c')) S.K (upd S.now j ⟨xk, xv, xb, xe, xw, xr⟩) v7 (S.out ++ [⟨xk, xv, xb, xe, xw, xr⟩]) := by
                  have hM := HM2.out
                  have hWz := hM.out.below ((Below.refl _ wz).alloc (Nat.le_refl _) (.cells (dnRow ⟨xk, xv, xb, xe, xw, xr⟩).toArray dnT))
                  have hTz := hM.tm.alloc_ (.cells (dnRow ⟨xk, xv, xb, xe, xw, xr⟩).toArray dnT)
                  have hNz := hM.now.kept ((Kept.refl (fun _ => False) wz).alloc_ (.cells (dnRow ⟨xk, xv, xb, xe, xw, xr⟩).toArray dnT)) id
                  have hk := (Kept.refl (fun x => (Value.slice Aq S.out.length cq).ownBlock = some x) (wz.alloc (.cells (dnRow ⟨xk, xv, xb, xe, xw, xr⟩).toArray dnT))).grown hg7 (fun x hx => .inl hx)
                  refine ⟨hM.t, hTz.kept hk (fun x hx e => hTz.not_out hWz e hx), hNz.kept hk (fun e => hWz.not_now hNz e rfl), hO7, (hM.bl.alloc (Nat.le_trans hB hM.bl.size) _).trans (hk.below (fun x hx => Nat.le_trans hB (hWz.own_lt hx).1) (by simp; have := hM.bl.size; omega))⟩
                refine wp_worldT (fun wx => RunM w wx B w.heap.size n t w.heap.size A' g' (upd S.ac j (some c')) S.K (upd S.now j ⟨xk, xv, xb, xe, xw, xr⟩) v7 (S.out ++ [⟨xk, xv, xb, xe, xw, xr⟩])) hM3 ?_
                clear hM3 hO7 hg7 m0 m1 m2 m3 m4 m5 lnow HM2
                intro wq hM4
                obtain ⟨wp, hwp⟩ : ∃ x, wq.drew = x := ⟨_, rfl⟩
                have d2 : wp.cell? ⟨t, 2 + j, none⟩ = some (.pointer (some ⟨a, 0, none⟩)) := by rw [← hwp, ← hM4.t]; have := hM4.tm.ta hj6; rw [upd_at, HAD.out] at this; exact this
                have d8 : wp.cell? ⟨t, 8 + j, none⟩ = some (.pointer (some ⟨y, 0, none⟩)) := by rw [← hwp, ← hM4.t]; have := hM4.tm.ty hj6; rw [upd_at, HYD.out] at this; exact this
                have tf : ∀ i, wp.frozen? ⟨t, i, none⟩ = false := by rw [← hwp, ← hM4.t]; exact hM4.tm.drew_.tz
                have HP2 := Lib.hid hwp
                have HM4 := Lib.hid hM4
                clear hwp hM4
                refine wp_region_noPanic ?_
                refine wp_region_U (fun w' => w' = wp) [] [7] (by kernel_rfl) (HP2.out) ?_
                intro hsh0
                skip
                refine anyU_take 20 (i := 0) (v := ?_) rfl (by kernel_rfl) (by kernel_rfl) (by kernel_rfl) (by kernel_rfl) (fun _ _ _ h => h) (by assumption) (YieldsS.of_if (Or.inl ⟨by rfl, ?_⟩)) ?_
                rotate_left
                · (intro wS hSw; (try dsimp only at hSw); subst hSw; (first | (go_simp; done) | (go_simp; with_reducible rfl)))
                intro hsh1
                clear hsh0
                try simp only [Act.put, List.getElem_toArray, List.getElem_cons_zero, List.getElem_cons_succ, List.setIfInBounds_toArray, List.set_cons_zero, List.set_cons_succ]
                refine anyU_take 20 (i := 1) (v := ?_) rfl (by kernel_rfl) (by kernel_rfl) (by kernel_rfl) (by kernel_rfl) (fun _ _ _ h => h) (by assumption) (YieldsS.of_if (Or.inl ⟨by rfl, ?_⟩)) ?_
                rotate_left
                · (intro wS hSw; (try dsimp only at hSw); subst hSw; (first | (go_simp; done) | (go_simp; with_reducible rfl)))
                intro hsh2
                clear hsh1
                try simp only [Act.put, List.getElem_toArray, List.getElem_cons_zero, List.getElem_cons_succ, List.setIfInBounds_toArray, List.set_cons_zero, List.set_cons_succ]
                refine anyU_takeW (i := 2) (v := ?_) rfl (by kernel_rfl) (by kernel_rfl) (by kernel_rfl) (fun _ _ _ h => h) (by assumption) (Or.inl ⟨by rfl, ?_⟩) ?_
                rotate_left
                · (intro wS; (first | (go_simp; done) | (go_simp; with_reducible rfl)))
                intro hsh3
                clear hsh2
                try simp only [Act.put, List.getElem_toArray, List.getElem_cons_zero, List.getElem_cons_succ, List.setIfInBounds_toArray, List.set_cons_zero, List.set_cons_succ]
                refine anyU_takeW (i := 3) (v := ?_) rfl (by kernel_rfl) (by kernel_rfl) (by kernel_rfl) (fun _ _ _ h => h) (by assumption) (Or.inl ⟨by rfl, ?_⟩) ?_
                rotate_left
                · (intro wS; (first | (go_simp; done) | (go_simp; with_reducible rfl)))
                intro hsh4
                clear hsh3
                try simp only [Act.put, List.getElem_toArray, List.getElem_cons_zero, List.getElem_cons_succ, List.setIfInBounds_toArray, List.set_cons_zero, List.set_cons_succ]
                refine anyU_take 20 (i := 4) (v := ?_) rfl (by kernel_rfl) (by kernel_rfl) (by kernel_rfl) (by kernel_rfl) (fun _ _ _ h => h) (by assumption) (YieldsS.of_if (Or.inl ⟨by rfl, ?_⟩)) ?_
                rotate_left
                · (intro wS hSw; (try dsimp only at hSw); subst hSw; (first | (go_simp; done) | (go_simp; with_reducible rfl)))
                intro hsh5
                clear hsh4
                try simp only [Act.put, List.getElem_toArray, List.getElem_cons_zero, List.getElem_cons_succ, List.setIfInBounds_toArray, List.set_cons_zero, List.set_cons_succ]
                refine anyU_take 20 (i := 5) (v := ?_) rfl (by kernel_rfl) (by kernel_rfl) (by kernel_rfl) (by kernel_rfl) (fun _ _ _ h => h) (by assumption) (YieldsS.of_if (Or.inl ⟨by rfl, ?_⟩)) ?_
                rotate_left
                · (intro wS hSw; (try dsimp only at hSw); subst hSw; (first | (go_simp; done) | (go_simp; with_reducible rfl)))
                intro hsh6
                clear hsh5
                try simp only [Act.put, List.getElem_toArray, List.getElem_cons_zero, List.getElem_cons_succ, List.setIfInBounds_toArray, List.set_cons_zero, List.set_cons_succ]
                refine anyU_take 20 (i := 6) (v := ?_) rfl (by kernel_rfl) (by kernel_rfl) (by kernel_rfl) (by kernel_rfl) (fun _ _ _ h => h) (by assumption) (YieldsS.of_if (Or.inl ⟨by rfl, ?_⟩)) ?_
                rotate_left
                · (intro wS hSw; (try dsimp only at hSw); subst hSw; (first | (go_simp; done) | (go_simp; with_reducible rfl)))
                intro hsh7
                clear hsh6
                try simp only [Act.put, List.getElem_toArray, List.getElem_cons_zero, List.getElem_cons_succ, List.setIfInBounds_toArray, List.set_cons_zero, List.set_cons_succ]
                refine anyU_takeW (i := 8) (v := ?_) rfl (by kernel_rfl) (by kernel_rfl) (by kernel_rfl) (fun _ _ _ h => h) (by assumption) (Or.inl ⟨by rfl, ?_⟩) ?_
                rotate_left
                · (intro wS; (first | (go_simp; done) | (go_simp; with_reducible rfl)))
                intro hsh8
                clear hsh7
                try simp only [Act.put, List.getElem_toArray, List.getElem_cons_zero, List.getElem_cons_succ, List.setIfInBounds_toArray, List.set_cons_zero, List.set_cons_succ]
                refine anyU_takeW (i := 9) (v := ?_) rfl (by kernel_rfl) (by kernel_rfl) (by kernel_rfl) (fun _ _ _ h => h) (by assumption) (Or.inl ⟨by rfl, ?_⟩) ?_
                rotate_left
                · (intro wS; (first | (go_simp; done) | (go_simp; with_reducible rfl)))
                intro hsh9
                clear hsh8
                try simp only [Act.put, List.getElem_toArray, List.getElem_cons_zero, List.getElem_cons_succ, List.setIfInBounds_toArray, List.set_cons_zero, List.set_cons_succ]
                refine anyU_last (i := 7) (by kernel_rfl) (by kernel_rfl) (fun wS hSw _ => ?_)
                refine one_op rfl (by rfl) ?_
                unfold Oper.wp
                subst hSw
                go_simp
                refine any_one (i := 10) (by kernel_rfl) rfl (by rfl) ?_
                unfold Oper.wp
                go_simp
                refine any_one (i := 11) (by kernel_rfl) rfl (by rfl) ?_
                unfold Oper.wp
                go_simp
                refine any_done (by kernel_rfl) ?_ _
                refine NoPanic.normal ?_
                go_wp2
                go_roundw
                case measure => simp [intOf]; omega
                case rel =>
                  refine ⟨k + 1, A', by omega, by omega, by go_num, ?_⟩
                  have hM := HM4.out
                  have ok := OA.out.step_ hn k HAC.out
                  have e1 : tsStep n S k j c = ⟨g', upd S.ac j none, S.K, upd S.now j ⟨xk, xv, xb, xe, xw, xr⟩, S.out ++ [⟨xk, xv, xb, xe, xw, xr⟩]⟩ := by
                    unfold tsStep
                    rw [HCC.out, HGG.out, if_pos hE, HXX.out]
                  rw [HS1.out, show tsPick n S k j d v = tsStep n S k j c from by unfold tsPick; rw [HAC.out]]
                  rw [e1] at ok ⊢
                  have hk : Kept (fun x => x = t) wq ((wS.setCell ⟨t, 2 + j, none⟩ (.pointer none)).setCell ⟨t, 8 + j, none⟩ (.pointer none)) := by
                    rw [← HP2.out]
                    exact (((Kept.refl (fun x => x = t) wq).drew_).set_ (.inl rfl) _).set_ (.inl rfl) _
                  obtain ⟨ts, hts⟩ := hM.tm.tb
                  rw [hM.t] at hts
                  have hcl := hM.tm.drew_.clear hj6
                  rw [hM.t, HP2.out, upd_upd'] at hcl
                  have nt : ∀ x, v7.ownBlock = some x → ¬ x = t := fun x hx => by obtain ⟨-, cs, hcs⟩ := hM.out.own_lt hx; exact hcs.other hts (by decide)
                  exact ⟨hM.t, hcl, ok, hM.now.kept hk (by obtain ⟨cs, hcs, -⟩ := hM.now; exact hcs.other hts (by decide)), hM.out.kept hk nt, hM.bl.trans (hk.below (fun x e => by rw [e, ← hM.t]; exact hM.tm.low _ (.inl rfl)) (Nat.le_trans hB hM.bl.size))⟩
              · have hb3 : (kd == 2) = false := by simpa using hkk
                have hX : dnEnd k c' (S.now j) = ⟨kd, (S.now j).v, (S.now j).b, k, WL, (S.now j).re⟩ := by
                  unfold dnEnd
                  rw [HKD2.out, if_neg hkk, ← HWL.out]
                  rfl
                go_upto_region 20 with fail
                have hM2 : RunM w wy B w.heap.size n t w.heap.size A' g' (upd S.ac j (some c')) S.K (upd S.now j (dnEnd k c' (S.now j))) (.slice Aq S.out.length cq) S.out := by
                  have hM := HM1.out
                  refine ⟨hM.t, hM.tm, ?_, hM.out, hM.bl⟩
                  rw [hX, ← HKD2.out]
                  exact hM.now
                refine wp_worldT (fun wx => RunM w wx B w.heap.size n t w.heap.size A' g' (upd S.ac j (some c')) S.K (upd S.now j (dnEnd k c' (S.now j))) (.slice Aq S.out.length cq) S.out) hM2 ?_
                clear hM2 n0 HM1
                intro wz hM2
                obtain ⟨⟨xk, xv, xb, xe, xw, xr⟩, hXX⟩ : ∃ x, dnEnd k c' (S.now j) = x := ⟨_, rfl⟩
                rw [hXX] at hM2
                have m : ∀ i u, i < 6 → (dnRow ⟨xk, xv, xb, xe, xw, xr⟩)[i]? = some u → wz.cell? ⟨w.heap.size, j * 6 + i, none⟩ = some u := fun i u hi hu => hM2.now.val hj6 hi (by rw [upd_at]; exact hu)
                have m0 : wz.cell? ⟨w.heap.size, j * 6, none⟩ = some (.int .i64 xk) := m 0 _ (by omega) rfl
                have m1 : wz.cell? ⟨w.heap.size, j * 6 + 1, none⟩ = some (.int .u64 xv) := m 1 _ (by omega) rfl
                have m2 : wz.cell? ⟨w.heap.size, j * 6 + 2, none⟩ = some (.int .i64 xb) := m 2 _ (by omega) rfl
                have m3 : wz.cell? ⟨w.heap.size, j * 6 + 3, none⟩ = some (.int .i64 xe) := m 3 _ (by omega) rfl
                have m4 : wz.cell? ⟨w.heap.size, j * 6 + 4, none⟩ = some (.bool xw) := m 4 _ (by omega) rfl
                have m5 : wz.cell? ⟨w.heap.size, j * 6 + 5, none⟩ = some (.int .i64 xr) := m 5 _ (by omega) rfl
                have lnow : w.heap.size < wz.heap.size := by obtain ⟨cs, hcs, -⟩ := hM2.now; exact hcs.size
                have hlen : S.out.length ≤ 10000 := by have := OA.out.len; omega
                have HM2 := Lib.hid hM2
                have HXX := Lib.hid hXX
                clear hM2 hX hXX m
                go_upto_region 21 with (at_builtin; refine wpList_dn (z := ⟨xk, xv, xb, xe, xw, xr⟩) (g := wz.heap.size) Try.underlying26 rfl (.tmp 124) (.tmp 128) rfl rfl rfl (HM2.out.out.below ((Below.refl _ _).alloc (Nat.le_refl _) _)) (Blk.made _ _ _) hlen (by simp; omega) ?_; intro v7 w7 hO7 hg7)
                have hM3 : RunM w w7 B w.heap.size n t w.heap.size A' g' (upd S.ac j (some c')) S.K (upd S.now j ⟨xk, xv, xb, xe, xw, xr⟩) v7 (S.out ++ [⟨xk, xv, xb, xe, xw, xr⟩]) := by
                  have hM := HM2.out
                  have hWz := hM.out.below ((Below.refl _ wz).alloc (Nat.le_refl _) (.cells (dnRow ⟨xk, xv, xb, xe, xw, xr⟩).toArray dnT))
                  have hTz := hM.tm.alloc_ (.cells (dnRow ⟨xk, xv, xb, xe, xw, xr⟩).toArray dnT)
                  have hNz := hM.now.kept ((Kept.refl (fun _ => False) wz).alloc_ (.cells (dnRow ⟨xk, xv, xb, xe, xw, xr⟩).toArray dnT)) id
                  have hk := (Kept.refl (fun x => (Value.slice Aq S.out.length cq).ownBlock = some x) (wz.alloc (.cells (dnRow ⟨xk, xv, xb, xe, xw, xr⟩).toArray dnT))).grown hg7 (fun x hx => .inl hx)
                  refine ⟨hM.t, hTz.kept hk (fun x hx e => hTz.not_out hWz e hx), hNz.kept hk (fun e => hWz.not_now hNz e rfl), hO7, (hM.bl.alloc (Nat.le_trans hB hM.bl.size) _).trans (hk.below (fun x hx => Nat.le_trans hB (hWz.own_lt hx).1) (by simp; have := hM.bl.size; omega))⟩
                refine wp_worldT (fun wx => RunM w wx B w.heap.size n t w.heap.size A' g' (upd S.ac j (some c')) S.K (upd S.now j ⟨xk, xv, xb, xe, xw, xr⟩) v7 (S.out ++ [⟨xk, xv, xb, xe, xw, xr⟩])) hM3 ?_
                clear hM3 hO7 hg7 m0 m1 m2 m3 m4 m5 lnow HM2
                intro wq hM4
                obtain ⟨wp, hwp⟩ : ∃ x, wq.drew = x := ⟨_, rfl⟩
                have d2 : wp.cell? ⟨t, 2 + j, none⟩ = some (.pointer (some ⟨a, 0, none⟩)) := by rw [← hwp, ← hM4.t]; have := hM4.tm.ta hj6; rw [upd_at, HAD.out] at this; exact this
                have d8 : wp.cell? ⟨t, 8 + j, none⟩ = some (.pointer (some ⟨y, 0, none⟩)) := by rw [← hwp, ← hM4.t]; have := hM4.tm.ty hj6; rw [upd_at, HYD.out] at this; exact this
                have tf : ∀ i, wp.frozen? ⟨t, i, none⟩ = false := by rw [← hwp, ← hM4.t]; exact hM4.tm.drew_.tz
                have HP2 := Lib.hid hwp
                have HM4 := Lib.hid hM4
                clear hwp hM4
                refine wp_region_noPanic ?_
                refine wp_region_U (fun w' => w' = wp) [] [7] (by kernel_rfl) (HP2.out) ?_
                intro hsh0
                skip
                refine anyU_take 20 (i := 0) (v := ?_) rfl (by kernel_rfl) (by kernel_rfl) (by kernel_rfl) (by kernel_rfl) (fun _ _ _ h => h) (by assumption) (YieldsS.of_if (Or.inl ⟨by rfl, ?_⟩)) ?_
                rotate_left
                · (intro wS hSw; (try dsimp only at hSw); subst hSw; (first | (go_simp; done) | (go_simp; with_reducible rfl)))
                intro hsh1
                clear hsh0
                try simp only [Act.put, List.getElem_toArray, List.getElem_cons_zero, List.getElem_cons_succ, List.setIfInBounds_toArray, List.set_cons_zero, List.set_cons_succ]
                refine anyU_take 20 (i := 1) (v := ?_) rfl (by kernel_rfl) (by kernel_rfl) (by kernel_rfl) (by kernel_rfl) (fun _ _ _ h => h) (by assumption) (YieldsS.of_if (Or.inl ⟨by rfl, ?_⟩)) ?_
                rotate_left
                · (intro wS hSw; (try dsimp only at hSw); subst hSw; (first | (go_simp; done) | (go_simp; with_reducible rfl)))
                intro hsh2
                clear hsh1
                try simp only [Act.put, List.getElem_toArray, List.getElem_cons_zero, List.getElem_cons_succ, List.setIfInBounds_toArray, List.set_cons_zero, List.set_cons_succ]
                refine anyU_takeW (i := 2) (v := ?_) rfl (by kernel_rfl) (by kernel_rfl) (by kernel_rfl) (fun _ _ _ h => h) (by assumption) (Or.inl ⟨by rfl, ?_⟩) ?_
                rotate_left
                · (intro wS; (first | (go_simp; done) | (go_simp; with_reducible rfl)))
                intro hsh3
                clear hsh2
                try simp only [Act.put, List.getElem_toArray, List.getElem_cons_zero, List.getElem_cons_succ, List.setIfInBounds_toArray, List.set_cons_zero, List.set_cons_succ]
                refine anyU_takeW (i := 3) (v := ?_) rfl (by kernel_rfl) (by kernel_rfl) (by kernel_rfl) (fun _ _ _ h => h) (by assumption) (Or.inl ⟨by rfl, ?_⟩) ?_
                rotate_left
                · (intro wS; (first | (go_simp; done) | (go_simp; with_reducible rfl)))
                intro hsh4
                clear hsh3
                try simp only [Act.put, List.getElem_toArray, List.getElem_cons_zero, List.getElem_cons_succ, List.setIfInBounds_toArray, List.set_cons_zero, List.set_cons_succ]
                refine anyU_take 20 (i := 4) (v := ?_) rfl (by kernel_rfl) (by kernel_rfl) (by kernel_rfl) (by kernel_rfl) (fun _ _ _ h => h) (by assumption) (YieldsS.of_if (Or.inl ⟨by rfl, ?_⟩)) ?_
                rotate_left
                · (intro wS hSw; (try dsimp only at hSw); subst hSw; (first | (go_simp; done) | (go_simp; with_reducible rfl)))
                intro hsh5
                clear hsh4
                try simp only [Act.put, List.getElem_toArray, List.getElem_cons_zero, List.getElem_cons_succ, List.setIfInBounds_toArray, List.set_cons_zero, List.set_cons_succ]
                refine anyU_take 20 (i := 5) (v := ?_) rfl (by kernel_rfl) (by kernel_rfl) (by kernel_rfl) (by kernel_rfl) (fun _ _ _ h => h) (by assumption) (YieldsS.of_if (Or.inl ⟨by rfl, ?_⟩)) ?_
                rotate_left
                · (intro wS hSw; (try dsimp only at hSw); subst hSw; (first | (go_simp; done) | (go_simp; with_reducible rfl)))
                intro hsh6
                clear hsh5
                try simp only [Act.put, List.getElem_toArray, List.getElem_cons_zero, List.getElem_cons_succ, List.setIfInBounds_toArray, List.set_cons_zero, List.set_cons_succ]
                refine anyU_take 20 (i := 6) (v := ?_) rfl (by kernel_rfl) (by kernel_rfl) (by kernel_rfl) (by kernel_rfl) (fun _ _ _ h => h) (by assumption) (YieldsS.of_if (Or.inl ⟨by rfl, ?_⟩)) ?_
                rotate_left
                · (intro wS hSw; (try dsimp only at hSw); subst hSw; (first | (go_simp; done) | (go_simp; with_reducible rfl)))
                intro hsh7
                clear hsh6
                try simp only [Act.put, List.getElem_toArray, List.getElem_cons_zero, List.getElem_cons_succ, List.setIfInBounds_toArray, List.set_cons_zero, List.set_cons_succ]
                refine anyU_takeW (i := 8) (v := ?_) rfl (by kernel_rfl) (by kernel_rfl) (by kernel_rfl) (fun _ _ _ h => h) (by assumption) (Or.inl ⟨by rfl, ?_⟩) ?_
                rotate_left
                · (intro wS; (first | (go_simp; done) | (go_simp; with_reducible rfl)))
                intro hsh8
                clear hsh7
                try simp only [Act.put, List.getElem_toArray, List.getElem_cons_zero, List.getElem_cons_succ, List.setIfInBounds_toArray, List.set_cons_zero, List.set_cons_succ]
                refine anyU_takeW (i := 9) (v := ?_) rfl (by kernel_rfl) (by kernel_rfl) (by kernel_rfl) (fun _ _ _ h => h) (by assumption) (Or.inl ⟨by rfl, ?_⟩) ?_
                rotate_left
                · (intro wS; (first | (go_simp; done) | (go_simp; with_reducible rfl)))
                intro hsh9
                clear hsh8
                try simp only [Act.put, List.getElem_toArray, List.getElem_cons_zero, List.getElem_cons_succ, List.setIfInBounds_toArray, List.set_cons_zero, List.set_cons_succ]
                refine anyU_last (i := 7) (by kernel_rfl) (by kernel_rfl) (fun wS hSw _ => ?_)
                refine one_op rfl (by rfl) ?_
                unfold Oper.wp
                subst hSw
                go_simp
                refine any_one (i := 10) (by kernel_rfl) rfl (by rfl) ?_
                unfold Oper.wp
                go_simp
                refine any_one (i := 11) (by kernel_rfl) rfl (by rfl) ?_
                unfold Oper.wp
                go_simp
                refine any_done (by kernel_rfl) ?_ _
                refine NoPanic.normal ?_
                go_wp2
                go_roundw
                case measure => simp [intOf]; omega
                case rel =>
                  refine ⟨k + 1, A', by omega, by omega, by go_num, ?_⟩
                  have hM := HM4.out
                  have ok := OA.out.step_ hn k HAC.out
                  have e1 : tsStep n S k j c = ⟨g', upd S.ac j none, S.K, upd S.now j ⟨xk, xv, xb, xe, xw, xr⟩, S.out ++ [⟨xk, xv, xb, xe, xw, xr⟩]⟩ := by
                    unfold tsStep
                    rw [HCC.out, HGG.out, if_pos hE, HXX.out]
                  rw [HS1.out, show tsPick n S k j d v = tsStep n S k j c from by unfold tsPick; rw [HAC.out]]
                  rw [e1] at ok ⊢
                  have hk : Kept (fun x => x = t) wq ((wS.setCell ⟨t, 2 + j, none⟩ (.pointer none)).setCell ⟨t, 8 + j, none⟩ (.pointer none)) := by
                    rw [← HP2.out]
                    exact (((Kept.refl (fun x => x = t) wq).drew_).set_ (.inl rfl) _).set_ (.inl rfl) _
                  obtain ⟨ts, hts⟩ := hM.tm.tb
                  rw [hM.t] at hts
                  have hcl := hM.tm.drew_.clear hj6
                  rw [hM.t, HP2.out, upd_upd'] at hcl
                  have nt : ∀ x, v7.ownBlock = some x → ¬ x = t := fun x hx => by obtain ⟨-, cs, hcs⟩ := hM.out.own_lt hx; exact hcs.other hts (by decide)
                  exact ⟨hM.t, hcl, ok, hM.now.kept hk (by obtain ⟨cs, hcs, -⟩ := hM.now; exact hcs.other hts (by decide)), hM.out.kept hk nt, hM.bl.trans (hk.below (fun x e => by rw [e, ← hM.t]; exact hM.tm.low _ (.inl rfl)) (Nat.le_trans hB hM.bl.size))⟩
            · have hEf : endE c'.nx = false := by simpa using hE
              have e1 : tsPick n S k j d v = ⟨g', upd S.ac j (some c'), S.K, upd S.now j (dnRe c c' (S.now j)), S.out⟩ := by
                unfold tsPick
                rw [HAC.out]
                show tsStep n S k j c = _
                unfold tsStep
                rw [HCC.out, HGG.out, if_neg hE]
              have OK2 := Lib.hid (OA.out.step_ hn k HAC.out)
              have e2 : tsStep n S k j c = tsPick n S k j d v := by unfold tsPick; rw [HAC.out]
              have HE2 := Lib.hid e2
              have HE1 := Lib.hid e1
              clear e1 e2 hE hde
              by_cases hw : 1 < W
              · by_cases h1 : D = 1
                · have hb1 : decide (1 < W) = true := decide_eq_true hw
                  have hb2 : (D == 1) = true := by rw [h1]; rfl
                  have hPa : a ≠ w.heap.size := by obtain ⟨cs, hcs, -⟩ := HM.out.now; exact Blk.other HA2.out hcs (by decide)
                  obtain ⟨r0, hr0⟩ : ∃ x, (S.now j).re = x := ⟨_, rfl⟩
                  have rb := OA.out.re j
                  rw [hr0] at rb
                  have n5 : wx.cell? ⟨w.heap.size, j * 6 + 5, none⟩ = some (.int .i64 r0) := by rw [← hr0]; exact HM.out.now.val hj6 (by decide) rfl
                  have nf : ∀ i, wx.frozen? ⟨w.heap.size, i, none⟩ = false := HM.out.now.free
                  have HR0 := Lib.hid hr0
                  obtain ⟨rb0, rb1⟩ := rb
                  clear hr0
                  go_wp2_with (go_at_call 20; refine (rended _ (HA2.out.far hPa _)).mono ?_; rintro e w6 ⟨rfl, rfl⟩; rw [hEf])
                  go_roundw
                  case measure => simp [intOf]; omega
                  case rel =>
                    refine ⟨k + 1, A', by omega, by omega, by go_num, ?_⟩
                    have hM := HM.out
                    have ok := OK2.out
                    rw [HE2.out] at ok
                    rw [HS1.out]
                    rw [HE1.out] at ok ⊢
                    have hk : Kept (fun x => x = w.heap.size) wx (wx.setCell ⟨w.heap.size, j * 6 + 5, none⟩ (.int .i64 (r0 + 1))) := (Kept.refl (fun x => x = w.heap.size) wx).set_ (.inl rfl) _
                    refine ⟨hM.t, hM.tm.kept hk (fun x hx e => hM.tm.not_now hM.now (e ▸ hx)), ok, ?_, hM.out.kept hk (fun x hx => hM.out.not_now hM.now hx), hM.bl.trans (hk.below (fun x e => e ▸ hB) (Nat.le_trans hB hM.bl.size))⟩
                    show NowAt _ _ (upd S.now j _)
                    rw [show dnRe c c' (S.now j) = { S.now j with re := r0 + 1 } from by unfold dnRe; rw [HWW.out, HD.out, if_pos ⟨hw, h1⟩, HR0.out]]
                    exact hM.now.set hj6 (show 5 < 6 by omega) (.int .i64 (r0 + 1)) { S.now j with re := r0 + 1 } (fun i hi => by match i, hi with | 0, _ | 1, _ | 2, _ | 3, _ | 4, _ | 5, _ => rfl)
                · have hb1 : decide (1 < W) = true := decide_eq_true hw
                  have hb2 : (D == 1) = false := by simpa using h1
                  go_wp2_with (go_at_call 20; refine CE.out.mono ?_; rintro e w6 ⟨rfl, rfl⟩; rw [hEf])
                  go_roundw
                  case measure => simp [intOf]; omega
                  case rel =>
                    refine ⟨k + 1, A', by omega, by omega, by go_num, ?_⟩
                    have hM := HM.out
                    have ok := OK2.out
                    rw [HE2.out] at ok
                    rw [HS1.out]
                    rw [HE1.out] at ok ⊢
                    refine ⟨hM.t, hM.tm, ok, ?_, hM.out, hM.bl⟩
                    show NowAt _ _ (upd S.now j _)
                    rw [show dnRe c c' (S.now j) = S.now j from by unfold dnRe; rw [HWW.out, HD.out, if_neg (by omega)], upd_same rfl]
                    exact hM.now
              · have hb1 : decide (1 < W) = false := decide_eq_false hw
                have h1 : ¬ D = 1 := by have := hW2 (by omega); omega
                go_wp2_with (go_at_call 20; refine CE.out.mono ?_; rintro e w6 ⟨rfl, rfl⟩; rw [hEf])
                go_roundw
                case measure => simp [intOf]; omega
                case rel =>
                  refine ⟨k + 1, A', by omega, by omega, by go_num, ?_⟩
                  have hM := HM.out
                  have ok := OK2.out
                  rw [HE2.out] at ok
                  rw [HS1.out]
                  rw [HE1.out] at ok ⊢
                  refine ⟨hM.t, hM.tm, ok, ?_, hM.out, hM.bl⟩
                  show NowAt _ _ (upd S.now j _)
                  rw [show dnRe c c' (S.now j) = S.now j from by unfold dnRe; rw [HWW.out, HD.out, if_neg (by omega)], upd_same rfl]
                  exact hM.now
        · have e200 : k = 200 := by omega
          subst e200
          have e2 : min len 200 = 200 := by omega
          go_wp2
          go_meet
          rw [e2, hS]
          exact ⟨A', hAt, hT.alloc_ _, hO, hN.kept ((Kept.refl (fun _ => False) wr).alloc_ _) id, hW.below ((Below.refl _ wr).alloc (Nat.le_refl _) _), hbr.alloc (Nat.le_trans hB hzr) _⟩
      · have ek : k = len := by omega
        have e2 : min len 200 = k := by omega
        go_wp2
        go_meet
        rw [e2, hS]
        exact ⟨A', hAt, hT, TsOk.more hO hk200, hN, hW, hbr⟩
  case rest =>
    obtain ⟨A', hR⟩ := hcut
    obtain ⟨Aq, cq, e6, -, -⟩ := hR.out.rd
    have HR := Lib.hid hR
    clear hR
    go_wp2
    go_ret2
    exact ⟨_, A', rfl, HR.out.t, HR.out.tm, HR.out.ok, HR.out.out, HR.out.bl⟩
end Go.Proofs.Ytbenpnecjmpcbaa
