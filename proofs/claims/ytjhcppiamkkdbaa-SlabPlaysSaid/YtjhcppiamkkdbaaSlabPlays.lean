/- SlabPlays is true of every room and every list of acts, and changes nothing that it was given. -/
import Derived.Test.YtjhcppiamkkdbaaSlv
import Derived.Test.YtjhcppiamkkdbaaSlabc
import Derived.Test.YtjhcppiamkkdbaaRowb
import Derived.Test.YtjhcppiamkkdbaaRows
import Derived.WalkKit
import Derived.ProofKit
import Derived.OpenShut
import Derived.Deep.DeepCutAuto
import Derived.Deep.CutBlock
import Derived.Deep.RegionHeld3
namespace Go.Proofs.Ytjhcppiamkkdbaa.slabPlays
open Go.ChangeShapes Go.WideShapes Go.ChangeAt Go.RowKit
set_option linter.unusedVariables false
theorem own : ownKnob Try.prog.godebug = none := by kernel_rfl
theorem laidOut : laidOutB Try.prog = true := by kernel_rfl
theorem reads : (Try.f3.params.toList.all fun t => Try.prog.readableRec t && decide (t < Try.prog.types.size)) = true := by kernel_rfl
set_option linter.unusedSimpArgs false
/-- Both, before an act's box is made. -/
def Sd0 (w0 w : World) (B : Nat) (x : Sn) (s : Sp) (r : Sr) (tv : Value) (ts : List Int) : Prop := Below w0.heap.size w0 w ∧ w.ownsRow B 31 1 tv ts.length (u64s ts) ∧ ∀ ac, Sd w0 (w.alloc (.cells ac 36)) B x s r tv ts w.heap.size ac
theorem Sd.again {w0 w : World} {B : Nat} {x : Sn} {s : Sp} {r : Sr} {tv : Value} {ts : List Int} {ga : Nat} {ac : Array Value} (h : Sd w0 w B x s r tv ts ga ac) : Sd0 w0 w B x s r tv ts := by
  refine ⟨h.b, h.t, fun ac' => ?_⟩
  have h' := h.below ((Below.refl _ _).alloc (Nat.le_refl _) (.cells ac' 36))
  obtain ⟨h1, h2, h3, h4, h5, h6, h7, h8⟩ := h'
  exact ⟨h1, h2, h3, h4, h5, Blk.made _ _ _, by have := h.a.size; omega, h8⟩
theorem Sd.start {w0 w : World} {B p c f n q : Nat} {v1 v2 v3 v4 : Value} (n0 : 1 ≤ n) (hs : SlabAt w p c f n (fun i => i) (fun _ => false) (fun _ => ⟨0, 0, 0, 0, 0⟩) n (fun j => n - 1 - j)) (hp : w0.heap.size ≤ p) (hc : w0.heap.size ≤ c) (hf : w0.heap.size ≤ f) (hq : w0.heap.size ≤ q)
    (hlt : p < q ∧ c < q ∧ f < q) (hd : NewS w q n v1 v2 v3 v4) (hb : Below w0.heap.size w0 w) : ∃ x : Sn, x.p = p ∧ x.q = q ∧ x.n = n ∧ Sd0 w0 (w.alloc (.cells #[.int .u64 0] 31)) w.heap.size x ⟨fun i => i, fun _ => false, fun _ => ⟨0, 0, 0, 0, 0⟩, n, fun j => n - 1 - j⟩ ⟨fun _ => ⟨0, 0, 0, 0, 0⟩, fun _ => false, fun _ => 0, List.range n⟩ (.slice (some ⟨w.heap.size, 0, none⟩) 1 1) [0] := by
  obtain ⟨g1, g2, g3, g4, c1, c2, c3, c4, hr, q1, q2, q3, q4⟩ := hd.shut (by omega)
  have ⟨l1, l2, l3⟩ := hs.lts
  have l4 := hr.head.size
  obtain ⟨_, b1, -⟩ := hr.r1
  obtain ⟨_, b2, -⟩ := hr.r2
  obtain ⟨_, b3, -⟩ := hr.r3
  have l5 := b1.size
  have l6 := b2.size
  have l7 := b3.size
  refine ⟨⟨p, c, f, n, q, g1, g2, g3, c1, c2, c3⟩, rfl, rfl, rfl, hb.alloc hb.size _, World.ownsRow_lit (e := 31) (base := w.heap.size) (size := 1) w #[.int .u64 0] 1 (Nat.le_refl _) (by decide) rfl, fun ac => ?_⟩
  have hk : Below w.heap.size w ((w.alloc (.cells #[.int .u64 0] 31)).alloc (.cells ac 36)) := ((Below.refl _ _).alloc (Nat.le_refl _) _).alloc (by simp) _
  exact ⟨hs.below hk l1 l2 l3, ⟨g4, 0, c4, hr.below hk, by show _ ≤ g4; omega, by show g4 ≠ f; omega⟩, ⟨hp, hc, hf, hq, by show _ ≤ g1; omega, by show _ ≤ g2; omega, by show _ ≤ g3; omega⟩, ⟨l1, l2, l3, l4, l5, l6, l7⟩,
    (World.ownsRow_lit (e := 31) (base := w.heap.size) (size := 1) w #[.int .u64 0] 1 (Nat.le_refl _) (by decide) rfl).alloc _, Blk.made _ _ _, by simp, hb.trans (hk.mono hb.size)⟩
theorem Tie.up {n K m : Nat} {H U : Nat → Int} {T : Nat → Bool} {R Q : Nat → Rq} {F : Nat → Nat} {l : List Nat} (h : Tie n K H T R m F Q U l) : Tie n (K + 1) H T R m F Q U l :=
  ⟨h.mn, fun i hi => by have := h.hu i hi; omega, h.qr, h.fl, h.fi, h.ls⟩
theorem tok_add {ts : List Int} {z : Int} (h : ∀ t, t ∈ ts → 0 ≤ t ∧ t ≤ 18446744073709551615) (hz : 0 ≤ z ∧ z ≤ 18446744073709551615) : ∀ t, t ∈ ts ++ [z] → 0 ≤ t ∧ t ≤ 18446744073709551615 := by
  intro t ht
  rcases List.mem_append.1 ht with h1 | h1
  · exact h t h1
  · simp at h1; subst h1; exact hz
set_option maxRecDepth 100000 in
set_option maxHeartbeats 16000000 in
theorem walk (r : Int) (A : Option Addr) (len cap : Nat) (Q : Nat → Sa) (w : World) (hl : len ≤ cap) (hc : cap ≤ maxLen) (hQ : SeqAt w w.heap.size A len 8 (fun i => saRow (Q i))) (hok : ∀ i, i < len → (Q i).ok) (r0 : 0 ≤ r) (r1 : r ≤ 65535) :
    Calls Try.prog 3 #[.int .u16 r, .slice A len cap] w fun e w' => e = .returned (.bool true) ∧ Below w.heap.size w w' := by
  unfold maxLen at hc
  have HQ := Lib.hid hQ
  have HOK := Lib.hid hok
  clear hQ hok
  obtain ⟨n, hn⟩ : ∃ n : Nat, (1 + r % 40).toNat = n := ⟨_, rfl⟩
  have n0 : 1 ≤ n := by omega
  have n1 : n ≤ 40 := by omega
  have e1 : r.tmod 40 = r % 40 := Int.tmod_eq_emod_of_nonneg r0
  have e2 : IntKind.i64.wrap (1 + r % 40) = (n : Int) := by rw [IntKind.wrap_i64]; omega
  have e3 : IntKind.u16.wrap (r % 40) = r % 40 := by simp [IntKind.wrap, IntKind.signed, IntKind.bits]; omega
  have e4 : IntKind.i64.wrap (r % 40) = r % 40 := by rw [IntKind.wrap_i64]; omega
  go_enter Try.func3, Try.ntmps3
  go_wp2_with fail
  refine (awakes _).mono ?_
  rintro e w1 ⟨rfl, hb1⟩
  have B1 := Lib.hid hb1
  clear hb1
  go_wp2_with fail
  refine (slnew_yes n _ n0 (by omega)).mono ?_
  rintro e w2 ⟨p, c, f, rfl, hp, hcc, hf, h2, b2⟩
  have H2 := Lib.hid h2
  have B2 := Lib.hid (B1.out.trans (b2.mono B1.out.size))
  have P2 := Lib.hid (And.intro (Nat.le_trans B1.out.size hp) (And.intro (Nat.le_trans B1.out.size hcc) (Nat.le_trans B1.out.size hf)))
  clear h2 b2 B1 hp hcc hf e1 e2 e3 e4 hn r0 r1
  go_wp2_with fail
  refine (snew n _ (by omega)).mono ?_
  rintro e w3 ⟨q, v1, v2, v3, v4, rfl, hq, hd, b3⟩
  obtain ⟨x, xp, xq, xn, hz⟩ := Sd.start (B := 0) (w0 := w) n0 (H2.out.below b3 H2.out.lts.1 H2.out.lts.2.1 H2.out.lts.2.2) P2.out.1 P2.out.2.1 P2.out.2.2 (Nat.le_trans B2.out.size hq) (by have := H2.out.lts; omega) hd (B2.out.trans (b3.mono B2.out.size))
  have HZ := Lib.hid hz
  obtain ⟨B, hB⟩ : ∃ B, w3.heap.size = B := ⟨_, rfl⟩
  clear H2 B2 P2 hd b3 hq hz
  subst xp xq xn
  go_upto_region 9 with fail
  refine wp_worlds (fun wx => Sd0 w wx B x ⟨fun i => i, fun _ => false, fun _ => ⟨0, 0, 0, 0, 0⟩, x.n, fun j => x.n - 1 - j⟩ ⟨fun _ => ⟨0, 0, 0, 0, 0⟩, fun _ => false, fun _ => 0, List.range x.n⟩ (.slice (some ⟨B, 0, none⟩) 1 1) [0]) (hB ▸ HZ.out) ?_
  clear HZ hB
  rintro w4 hz
  have HZ := Lib.hid hz
  clear hz
  go_wp2_with fail
  go_loopw [9, 38] (fun s9 s38 wr => ∃ (k : Nat) (s : Sp) (r : Sr) (ts : List Int), k ≤ len ∧ k ≤ 100 ∧ s38 = .int .i64 (k : Int) ∧ Tie x.n k s.H s.T s.R s.m s.F r.Q r.U r.l ∧ r.T = s.T ∧ 0 < ts.length ∧ ts.length ≤ k + 1 ∧ (∀ t, t ∈ ts → 0 ≤ t ∧ t ≤ 18446744073709551615) ∧ Sd0 w wr B x s r s9 ts) (fun _ i _ => len - (intOf i).toNat)
  case atStart => exact ⟨0, ⟨fun i => i, fun _ => false, fun _ => ⟨0, 0, 0, 0, 0⟩, x.n, fun j => x.n - 1 - j⟩, ⟨fun _ => ⟨0, 0, 0, 0, 0⟩, fun _ => false, fun _ => 0, List.range x.n⟩, [0], Nat.zero_le _, Nat.zero_le _, rfl, Tie.new_ x.n (by omega), rfl, Nat.zero_lt_one, Nat.le_refl _, fun t h => by simp at h; omega, HZ.out⟩
  case round =>
    clear HZ
    obtain ⟨k, s, r, ts, hk, hk1, rfl, tie, hT, ht0, ht1, htok, hz⟩ := hrel
    by_cases hlt : k < len
    · obtain ⟨kb, ko, rfl, hkb, hkc⟩ := HQ.out (by omega)
      have hq : ∀ j, j < 8 → wr.cell? ⟨kb, ko + k * 8 + j, none⟩ = (saRow (Q k))[j]? := fun j hj => (hz.1.cell hkb).trans (hkc k hlt j hj)
      have hqk := HOK.out k hlt
      obtain ⟨⟨d, ⟨qa, qb, qc, qd, qe⟩, i, hh⟩, hqe⟩ : ∃ q, Q k = q := ⟨_, rfl⟩
      rw [hqe] at hq hqk
      obtain ⟨⟨d0, d1⟩, ⟨⟨a0, a1⟩, ⟨b0, b1⟩, ⟨cc0, cc1⟩, ⟨dd0, dd1⟩, ⟨ee0, ee1⟩⟩, ⟨i0, i1⟩, ⟨h0, h1⟩⟩ : (0 ≤ d ∧ d ≤ 255) ∧ ((0 ≤ qa ∧ qa ≤ 18446744073709551615) ∧ (-9223372036854775808 ≤ qb ∧ qb ≤ 9223372036854775807) ∧ (-9223372036854775808 ≤ qc ∧ qc ≤ 9223372036854775807) ∧ (-9223372036854775808 ≤ qd ∧ qd ≤ 9223372036854775807) ∧ (-9223372036854775808 ≤ qe ∧ qe ≤ 9223372036854775807)) ∧ (0 ≤ i ∧ i ≤ 65535) ∧ (0 ≤ hh ∧ hh ≤ 18446744073709551615) := hqk
      have q0 : wr.cell? ⟨kb, ko + k * 8, none⟩ = some (.int .u8 d) := hq 0 (by omega)
      have q1 : wr.cell? ⟨kb, ko + k * 8 + 1, none⟩ = some (.int .u64 qa) := hq 1 (by omega)
      have q2 : wr.cell? ⟨kb, ko + k * 8 + 2, none⟩ = some (.int .i64 qb) := hq 2 (by omega)
      have q3 : wr.cell? ⟨kb, ko + k * 8 + 3, none⟩ = some (.int .i64 qc) := hq 3 (by omega)
      have q4 : wr.cell? ⟨kb, ko + k * 8 + 4, none⟩ = some (.int .i64 qd) := hq 4 (by omega)
      have q5 : wr.cell? ⟨kb, ko + k * 8 + 5, none⟩ = some (.int .i64 qe) := hq 5 (by omega)
      have q6 : wr.cell? ⟨kb, ko + k * 8 + 6, none⟩ = some (.int .u16 i) := hq 6 (by omega)
      have q7 : wr.cell? ⟨kb, ko + k * 8 + 7, none⟩ = some (.int .u64 hh) := hq 7 (by omega)
      have hkr : kb < wr.heap.size := by have := hz.1.size; omega
      have kk0 : (0 : Int) ≤ (k : Int) := by omega
      have kk1 : (k : Int) < (len : Int) := by omega
      clear hq hkc hqe
      by_cases h100 : k < 100
      · have HS := Lib.hid hz.2.2
        have HB := Lib.hid hz.1
        obtain ⟨At, ct, rfl⟩ := own_form hz.2.1
        clear hz
        go_upto_region 13 with fail
        obtain ⟨ga, hga⟩ : ∃ g, wr.heap.size = g := ⟨_, rfl⟩
        refine wp_worlds (fun wx => Sd w wx B x s r (.slice At ts.length ct) ts ga #[.int .u8 d, .int .u64 qa, .int .i64 qb, .int .i64 qc, .int .i64 qd, .int .i64 qe, .int .u16 i, .int .u64 hh]) (hga ▸ HS.out _) ?_
        rw [hga]
        clear HS HB q0 q1 q2 q3 q4 q5 q6 q7 hkr hga
        rintro w5 hd
        have HD := Lib.hid hd
        have c0 : w5.cell? ⟨ga, 0, none⟩ = some (.int .u8 d) := hd.a.val rfl
        have c1 : w5.cell? ⟨ga, 1, none⟩ = some (.int .u64 qa) := hd.a.val rfl
        have c2 : w5.cell? ⟨ga, 2, none⟩ = some (.int .i64 qb) := hd.a.val rfl
        have c3 : w5.cell? ⟨ga, 3, none⟩ = some (.int .i64 qc) := hd.a.val rfl
        have c4 : w5.cell? ⟨ga, 4, none⟩ = some (.int .i64 qd) := hd.a.val rfl
        have c5 : w5.cell? ⟨ga, 5, none⟩ = some (.int .i64 qe) := hd.a.val rfl
        have c6 : w5.cell? ⟨ga, 6, none⟩ = some (.int .u16 i) := hd.a.val rfl
        have c7 : w5.cell? ⟨ga, 7, none⟩ = some (.int .u64 hh) := hd.a.val rfl
        clear hd
        obtain ⟨D, hD⟩ : ∃ D, d % 6 = D := ⟨_, rfl⟩
        have f1 : d.tmod 6 = D := by rw [← hD]; exact Int.tmod_eq_emod_of_nonneg d0
        have hD0 : 0 ≤ D ∧ D < 6 := by omega
        have f2 : IntKind.u8.wrap D = D := by
          have : IntKind.u8.wrap D = D % 256 := by simp [IntKind.wrap, IntKind.signed, IntKind.bits]
          rw [this]; omega
        have HT := Lib.hid hT
        have HTO := Lib.hid htok
        clear hT htok
        rcases (by omega : D = 0 ∨ D = 1 ∨ D = 2 ∨ D = 3 ∨ D = 4 ∨ D = 5) with rfl | rfl | rfl | rfl | rfl | rfl
        ·
          have TI := Lib.hid tie
          clear tie
          go_wp2_with fail
          cases hm : s.m with
          | zero =>
            have hl0 : r.l = [] := by have h := TI.out.ls; rw [h, hm]; rfl
            have k1 := sd_take_full qa qb qc qd qe _ HD.out hm
            clear hm
            refine k1.mono ?_
            clear k1
            rintro e w6 ⟨rfl, h6⟩
            clear HD c0 c1 c2 c3 c4 c5 c6 c7
            have c1 : w6.cell? ⟨ga, 1, none⟩ = some (.int .u64 qa) := h6.a.val rfl
            have c2 : w6.cell? ⟨ga, 2, none⟩ = some (.int .i64 qb) := h6.a.val rfl
            have c3 : w6.cell? ⟨ga, 3, none⟩ = some (.int .i64 qc) := h6.a.val rfl
            have c4 : w6.cell? ⟨ga, 4, none⟩ = some (.int .i64 qd) := h6.a.val rfl
            have c5 : w6.cell? ⟨ga, 5, none⟩ = some (.int .i64 qe) := h6.a.val rfl
            have H6 := Lib.hid h6
            have k2 := sd_rtake_none qa qb qc qd qe _ H6.out hl0
            clear h6 hl0
            go_wp2_with fail
            refine k2.mono ?_
            rintro e w7 ⟨rfl, h7⟩
            have H7 := Lib.hid h7
            clear h7 H6 k2 c1 c2 c3 c4 c5
            go_upto_region 32 with (at_builtin; refine wpList_tell rfl (.tmp 133) (.tmp 135) rfl rfl rfl (H7.out.below ((Below.refl _ _).alloc (Nat.le_refl _) _)) (Blk.new_ (by simp)) (by omega) ?_; intro v8 w8 h8)
            have HE := Lib.hid h8
            have HZB := Lib.hid (show (0 : Int) ≤ 0 ∧ (0 : Int) ≤ 18446744073709551615 by omega)
            clear h8 H7
            go_wp2_with fail
            have hl7 : (r).l.length = (s).m := by have h := (Tie.up TI.out).ls; rw [h]; exact stackL_len _ _
            have hl8 : (r).l.length ≤ x.n := by rw [hl7]; exact (Tie.up TI.out).mn
            have HTT := Lib.hid (Tie.up TI.out)
            have HT9 := Lib.hid (HT.out)
            have H78 := Lib.hid (And.intro hl7 hl8)
            clear hl7 hl8
            refine (sd_len _ HE.out).mono ?_
            rintro e wa ⟨rfl, ha⟩
            have HA := Lib.hid ha
            clear ha
            go_wp2_with fail
            refine (sd_rlen _ HA.out (by omega) H78.out.2).mono ?_
            rw [H78.out.1]
            rintro e wb ⟨rfl, hb⟩
            have HB2 := Lib.hid hb
            clear hb
            go_wp2_with fail
            refine (sd_room _ HB2.out).mono ?_
            rintro e wc ⟨rfl, rfl⟩
            go_wp2_with fail
            go_roundw
            case rel => exact ⟨k + 1, s, r, ts ++ [0], by omega, by omega, by go_num, HTT.out, HT9.out, by (try simp); (try omega), by (try simp); (try omega), by first | exact HTO.out | exact tok_add HTO.out HZB.out, Sd.again HB2.out⟩
            case measure => first | (simp [intOf]; done) | (simp [intOf]; omega)
          | succ m =>
            obtain ⟨i0, hi0⟩ : ∃ i0, s.F m = i0 := ⟨_, rfl⟩
            have tm := TI.out
            rw [hm] at tm
            obtain ⟨hl, hin, tn⟩ := tm.take hi0 ⟨qa, qb, qc, qd, qe⟩
            have hu := tm.hu i0 hin
            obtain ⟨z, hz⟩ : ∃ z, s.H i0 + 4294967296 = z := ⟨_, rfl⟩
            have hz2 : (r.U i0 + 1) * 4294967296 + (i0 : Int) = z := by omega
            have hzb : 0 ≤ z ∧ z ≤ 18446744073709551615 := by omega
            obtain ⟨S', hS'⟩ : ∃ S' : Sp, S' = ⟨fun j => if j = i0 then z else s.H j, fun j => if j = i0 then true else s.T j, fun j => if j = i0 then ⟨qa, qb, qc, qd, qe⟩ else s.R j, m, s.F⟩ := ⟨_, rfl⟩
            obtain ⟨R', hR'⟩ : ∃ R' : Sr, R' = ⟨fun j => if j = i0 then ⟨qa, qb, qc, qd, qe⟩ else r.Q j, fun j => if j = i0 then true else r.T j, fun j => if j = i0 then r.U i0 + 1 else r.U j, stackL m s.F⟩ := ⟨_, rfl⟩
            rw [hz] at tn
            have TN := Lib.hid (show Tie x.n (k + 1) S'.H S'.T S'.R S'.m S'.F R'.Q R'.U R'.l by rw [hS', hR']; exact tn)
            have HTN := Lib.hid (show R'.T = S'.T by rw [hS', hR']; show (fun j => if j = i0 then true else r.T j) = (fun j => if j = i0 then true else s.T j); rw [HT.out])
            have HZB := Lib.hid hzb
            have k1 := sd_take_some qa qb qc qd qe _ HD.out hm hi0 hin (by omega) (by omega)
            rw [hz, ← hS'] at k1
            have KN := Lib.hid (show r.l = i0 :: stackL m s.F ∧ i0 < x.n ∧ 0 ≤ r.U i0 ∧ r.U i0 ≤ 1000000 ∧ (r.U i0 + 1) * 4294967296 + (i0 : Int) = z ∧ R' = ⟨fun j => if j = i0 then ⟨qa, qb, qc, qd, qe⟩ else r.Q j, fun j => if j = i0 then true else r.T j, fun j => if j = i0 then r.U i0 + 1 else r.U j, stackL m s.F⟩ from ⟨hl, hin, by omega, by omega, hz2, hR'⟩)
            clear hm hi0 tm hl hin tn hu hz hz2 hzb hS' hR' TI
            refine k1.mono ?_
            clear k1
            rintro e w6 ⟨rfl, h6⟩
            clear HD c0 c1 c2 c3 c4 c5 c6 c7
            have c1 : w6.cell? ⟨ga, 1, none⟩ = some (.int .u64 qa) := h6.a.val rfl
            have c2 : w6.cell? ⟨ga, 2, none⟩ = some (.int .i64 qb) := h6.a.val rfl
            have c3 : w6.cell? ⟨ga, 3, none⟩ = some (.int .i64 qc) := h6.a.val rfl
            have c4 : w6.cell? ⟨ga, 4, none⟩ = some (.int .i64 qd) := h6.a.val rfl
            have c5 : w6.cell? ⟨ga, 5, none⟩ = some (.int .i64 qe) := h6.a.val rfl
            have H6 := Lib.hid h6
            have k2 := sd_rtake_some qa qb qc qd qe _ H6.out KN.out.1 KN.out.2.1 (by omega) KN.out.2.2.1 KN.out.2.2.2.1
            rw [KN.out.2.2.2.2.1, ← KN.out.2.2.2.2.2] at k2
            clear h6
            go_wp2_with fail
            refine k2.mono ?_
            rintro e w7 ⟨rfl, h7⟩
            have H7 := Lib.hid h7
            clear h7 H6 k2 c1 c2 c3 c4 c5
            go_upto_region 32 with (at_builtin; refine wpList_tell rfl (.tmp 133) (.tmp 135) rfl rfl rfl (H7.out.below ((Below.refl _ _).alloc (Nat.le_refl _) _)) (Blk.new_ (by simp)) (by omega) ?_; intro v8 w8 h8)
            have HE := Lib.hid h8
            clear h8 H7
            go_wp2_with fail
            have hl7 : (R').l.length = (S').m := by have h := (TN.out).ls; rw [h]; exact stackL_len _ _
            have hl8 : (R').l.length ≤ x.n := by rw [hl7]; exact (TN.out).mn
            have HTT := Lib.hid (TN.out)
            have HT9 := Lib.hid (HTN.out)
            have H78 := Lib.hid (And.intro hl7 hl8)
            clear hl7 hl8
            refine (sd_len _ HE.out).mono ?_
            rintro e wa ⟨rfl, ha⟩
            have HA := Lib.hid ha
            clear ha
            go_wp2_with fail
            refine (sd_rlen _ HA.out (by omega) H78.out.2).mono ?_
            rw [H78.out.1]
            rintro e wb ⟨rfl, hb⟩
            have HB2 := Lib.hid hb
            clear hb
            go_wp2_with fail
            refine (sd_room _ HB2.out).mono ?_
            rintro e wc ⟨rfl, rfl⟩
            go_wp2_with fail
            go_roundw
            case rel => exact ⟨k + 1, S', R', ts ++ [z], by omega, by omega, by go_num, HTT.out, HT9.out, by (try simp); (try omega), by (try simp); (try omega), by first | exact HTO.out | exact tok_add HTO.out HZB.out, Sd.again HB2.out⟩
            case measure => first | (simp [intOf]; done) | (simp [intOf]; omega)
        ·
          have TI := Lib.hid tie
          clear tie
          go_wp2_with fail
          cases hm : s.m with
          | zero =>
            have hl0 : r.l = [] := by have h := TI.out.ls; rw [h, hm]; rfl
            have k1 := sd_take_full qa qb qc qd qe _ HD.out hm
            clear hm
            refine k1.mono ?_
            clear k1
            rintro e w6 ⟨rfl, h6⟩
            clear HD c0 c1 c2 c3 c4 c5 c6 c7
            have c1 : w6.cell? ⟨ga, 1, none⟩ = some (.int .u64 qa) := h6.a.val rfl
            have c2 : w6.cell? ⟨ga, 2, none⟩ = some (.int .i64 qb) := h6.a.val rfl
            have c3 : w6.cell? ⟨ga, 3, none⟩ = some (.int .i64 qc) := h6.a.val rfl
            have c4 : w6.cell? ⟨ga, 4, none⟩ = some (.int .i64 qd) := h6.a.val rfl
            have c5 : w6.cell? ⟨ga, 5, none⟩ = some (.int .i64 qe) := h6.a.val rfl
            have H6 := Lib.hid h6
            have k2 := sd_rtake_none qa qb qc qd qe _ H6.out hl0
            clear h6 hl0
            go_wp2_with fail
            refine k2.mono ?_
            rintro e w7 ⟨rfl, h7⟩
            have H7 := Lib.hid h7
            clear h7 H6 k2 c1 c2 c3 c4 c5
            go_upto_region 32 with (at_builtin; refine wpList_tell rfl (.tmp 133) (.tmp 135) rfl rfl rfl (H7.out.below ((Below.refl _ _).alloc (Nat.le_refl _) _)) (Blk.new_ (by simp)) (by omega) ?_; intro v8 w8 h8)
            have HE := Lib.hid h8
            have HZB := Lib.hid (show (0 : Int) ≤ 0 ∧ (0 : Int) ≤ 18446744073709551615 by omega)
            clear h8 H7
            go_wp2_with fail
            have hl7 : (r).l.length = (s).m := by have h := (Tie.up TI.out).ls; rw [h]; exact stackL_len _ _
            have hl8 : (r).l.length ≤ x.n := by rw [hl7]; exact (Tie.up TI.out).mn
            have HTT := Lib.hid (Tie.up TI.out)
            have HT9 := Lib.hid (HT.out)
            have H78 := Lib.hid (And.intro hl7 hl8)
            clear hl7 hl8
            refine (sd_len _ HE.out).mono ?_
            rintro e wa ⟨rfl, ha⟩
            have HA := Lib.hid ha
            clear ha
            go_wp2_with fail
            refine (sd_rlen _ HA.out (by omega) H78.out.2).mono ?_
            rw [H78.out.1]
            rintro e wb ⟨rfl, hb⟩
            have HB2 := Lib.hid hb
            clear hb
            go_wp2_with fail
            refine (sd_room _ HB2.out).mono ?_
            rintro e wc ⟨rfl, rfl⟩
            go_wp2_with fail
            go_roundw
            case rel => exact ⟨k + 1, s, r, ts ++ [0], by omega, by omega, by go_num, HTT.out, HT9.out, by (try simp); (try omega), by (try simp); (try omega), by first | exact HTO.out | exact tok_add HTO.out HZB.out, Sd.again HB2.out⟩
            case measure => first | (simp [intOf]; done) | (simp [intOf]; omega)
          | succ m =>
            obtain ⟨i0, hi0⟩ : ∃ i0, s.F m = i0 := ⟨_, rfl⟩
            have tm := TI.out
            rw [hm] at tm
            obtain ⟨hl, hin, tn⟩ := tm.take hi0 ⟨qa, qb, qc, qd, qe⟩
            have hu := tm.hu i0 hin
            obtain ⟨z, hz⟩ : ∃ z, s.H i0 + 4294967296 = z := ⟨_, rfl⟩
            have hz2 : (r.U i0 + 1) * 4294967296 + (i0 : Int) = z := by omega
            have hzb : 0 ≤ z ∧ z ≤ 18446744073709551615 := by omega
            obtain ⟨S', hS'⟩ : ∃ S' : Sp, S' = ⟨fun j => if j = i0 then z else s.H j, fun j => if j = i0 then true else s.T j, fun j => if j = i0 then ⟨qa, qb, qc, qd, qe⟩ else s.R j, m, s.F⟩ := ⟨_, rfl⟩
            obtain ⟨R', hR'⟩ : ∃ R' : Sr, R' = ⟨fun j => if j = i0 then ⟨qa, qb, qc, qd, qe⟩ else r.Q j, fun j => if j = i0 then true else r.T j, fun j => if j = i0 then r.U i0 + 1 else r.U j, stackL m s.F⟩ := ⟨_, rfl⟩
            rw [hz] at tn
            have TN := Lib.hid (show Tie x.n (k + 1) S'.H S'.T S'.R S'.m S'.F R'.Q R'.U R'.l by rw [hS', hR']; exact tn)
            have HTN := Lib.hid (show R'.T = S'.T by rw [hS', hR']; show (fun j => if j = i0 then true else r.T j) = (fun j => if j = i0 then true else s.T j); rw [HT.out])
            have HZB := Lib.hid hzb
            have k1 := sd_take_some qa qb qc qd qe _ HD.out hm hi0 hin (by omega) (by omega)
            rw [hz, ← hS'] at k1
            have KN := Lib.hid (show r.l = i0 :: stackL m s.F ∧ i0 < x.n ∧ 0 ≤ r.U i0 ∧ r.U i0 ≤ 1000000 ∧ (r.U i0 + 1) * 4294967296 + (i0 : Int) = z ∧ R' = ⟨fun j => if j = i0 then ⟨qa, qb, qc, qd, qe⟩ else r.Q j, fun j => if j = i0 then true else r.T j, fun j => if j = i0 then r.U i0 + 1 else r.U j, stackL m s.F⟩ from ⟨hl, hin, by omega, by omega, hz2, hR'⟩)
            clear hm hi0 tm hl hin tn hu hz hz2 hzb hS' hR' TI
            refine k1.mono ?_
            clear k1
            rintro e w6 ⟨rfl, h6⟩
            clear HD c0 c1 c2 c3 c4 c5 c6 c7
            have c1 : w6.cell? ⟨ga, 1, none⟩ = some (.int .u64 qa) := h6.a.val rfl
            have c2 : w6.cell? ⟨ga, 2, none⟩ = some (.int .i64 qb) := h6.a.val rfl
            have c3 : w6.cell? ⟨ga, 3, none⟩ = some (.int .i64 qc) := h6.a.val rfl
            have c4 : w6.cell? ⟨ga, 4, none⟩ = some (.int .i64 qd) := h6.a.val rfl
            have c5 : w6.cell? ⟨ga, 5, none⟩ = some (.int .i64 qe) := h6.a.val rfl
            have H6 := Lib.hid h6
            have k2 := sd_rtake_some qa qb qc qd qe _ H6.out KN.out.1 KN.out.2.1 (by omega) KN.out.2.2.1 KN.out.2.2.2.1
            rw [KN.out.2.2.2.2.1, ← KN.out.2.2.2.2.2] at k2
            clear h6
            go_wp2_with fail
            refine k2.mono ?_
            rintro e w7 ⟨rfl, h7⟩
            have H7 := Lib.hid h7
            clear h7 H6 k2 c1 c2 c3 c4 c5
            go_upto_region 32 with (at_builtin; refine wpList_tell rfl (.tmp 133) (.tmp 135) rfl rfl rfl (H7.out.below ((Below.refl _ _).alloc (Nat.le_refl _) _)) (Blk.new_ (by simp)) (by omega) ?_; intro v8 w8 h8)
            have HE := Lib.hid h8
            clear h8 H7
            go_wp2_with fail
            have hl7 : (R').l.length = (S').m := by have h := (TN.out).ls; rw [h]; exact stackL_len _ _
            have hl8 : (R').l.length ≤ x.n := by rw [hl7]; exact (TN.out).mn
            have HTT := Lib.hid (TN.out)
            have HT9 := Lib.hid (HTN.out)
            have H78 := Lib.hid (And.intro hl7 hl8)
            clear hl7 hl8
            refine (sd_len _ HE.out).mono ?_
            rintro e wa ⟨rfl, ha⟩
            have HA := Lib.hid ha
            clear ha
            go_wp2_with fail
            refine (sd_rlen _ HA.out (by omega) H78.out.2).mono ?_
            rw [H78.out.1]
            rintro e wb ⟨rfl, hb⟩
            have HB2 := Lib.hid hb
            clear hb
            go_wp2_with fail
            refine (sd_room _ HB2.out).mono ?_
            rintro e wc ⟨rfl, rfl⟩
            go_wp2_with fail
            go_roundw
            case rel => exact ⟨k + 1, S', R', ts ++ [z], by omega, by omega, by go_num, HTT.out, HT9.out, by (try simp); (try omega), by (try simp); (try omega), by first | exact HTO.out | exact tok_add HTO.out HZB.out, Sd.again HB2.out⟩
            case measure => first | (simp [intOf]; done) | (simp [intOf]; omega)
        ·
          obtain ⟨gl, cl, ea, hgl, hll⟩ := own_at HD.out.t ht0
          simp only [Value.slice.injEq] at ea
          obtain ⟨rfl, -, rfl⟩ := ea
          obtain ⟨kk, hkk⟩ : ∃ kk : Nat, i.tmod (ts.length : Int) = (kk : Int) := ⟨(i % (ts.length : Int)).toNat, by rw [Int.tmod_eq_emod_of_nonneg i0]; have := Int.emod_nonneg i (show (ts.length : Int) ≠ 0 by omega); omega⟩
          have hkl : kk < ts.length := by have h1 := Int.tmod_eq_emod_of_nonneg (b := (ts.length : Int)) i0; have h2 := Int.emod_lt_of_pos i (show (0 : Int) < (ts.length : Int) by omega); omega
          obtain ⟨g, hg⟩ : ∃ g, ts[kk]? = some g := ⟨_, List.getElem?_eq_getElem hkl⟩
          have hgb := HTO.out g (List.mem_of_getElem? hg)
          obtain ⟨g0, g1⟩ := hgb
          have x0 : w5.cell? ⟨gl, kk, none⟩ = some (.int .u64 g) := (HD.out.t.cellAt kk (by omega)).trans (by unfold u64s; rw [List.getElem?_map, hg]; rfl)
          have x1 : IntKind.i64.wrap i = i := by rw [IntKind.wrap_i64]; omega
          have x2 : IntKind.i64.wrap (kk : Int) = (kk : Int) := by rw [IntKind.wrap_i64]; omega
          have x3 : (kk : Int) < (ts.length : Int) := by omega
          have x4 : (0 : Int) ≤ (kk : Int) := by omega
          have x5 : ¬ (ts.length : Int) = 0 := by omega
          clear hg hgl
          rcases tie.at_ g g0 with ⟨ha, i', hi', ht', hmod, hat⟩ | ⟨ha, hat⟩
          ·
            have hroom := tie.room hi' ht'
            have hlr : r.l.length ≤ 1024 := by have h := tie.ls; rw [h, stackL_len]; omega
            obtain ⟨S', hS'⟩ : ∃ S' : Sp, S' = ⟨s.H, fun j => if j = i' then false else s.T j, fun j => if j = i' then ⟨0, 0, 0, 0, 0⟩ else s.R j, s.m + 1, fun j => if j = s.m then i' else s.F j⟩ := ⟨_, rfl⟩
            obtain ⟨R', hR'⟩ : ∃ R' : Sr, R' = ⟨r.Q, fun j => if j = i' then false else r.T j, r.U, i' :: r.l⟩ := ⟨_, rfl⟩
            have TN := Lib.hid (show Tie x.n (k + 1) S'.H S'.T S'.R S'.m S'.F R'.Q R'.U R'.l by rw [hS', hR']; exact Tie.up (tie.free hi' ht'))
            have HTN := Lib.hid (show R'.T = S'.T by rw [hS', hR']; show (fun j => if j = i' then false else r.T j) = (fun j => if j = i' then false else s.T j); rw [HT.out])
            have k1 := sd_free_yes g _ HD.out g0 g1 ha hmod hroom
            rw [← hS'] at k1
            have KN := Lib.hid (show i' < x.n ∧ r.l.length ≤ 1024 ∧ atE x.n r.T r.U g = (i' : Int) ∧ R' = ⟨r.Q, fun j => if j = i' then false else r.T j, r.U, i' :: r.l⟩ from ⟨hi', hlr, by rw [HT.out]; exact hat, hR'⟩)
            clear ha hi' ht' hmod hat hroom hlr hS' hR' tie
            go_wp2_with fail
            refine k1.mono ?_
            clear k1
            rintro e w6 ⟨rfl, h6⟩
            clear HD c0 c1 c2 c3 c4 c5 c6 c7
            have H6 := Lib.hid h6
            have k2 := sd_drop_yes g _ H6.out g0 g1 (by omega) KN.out.2.2.1 KN.out.1 KN.out.2.1
            rw [← KN.out.2.2.2] at k2
            clear h6
            go_wp2_with fail
            refine k2.mono ?_
            rintro e w7 ⟨rfl, h7⟩
            have HE := Lib.hid h7
            clear h7 k2 H6
            go_wp2_with fail
            have hl7 : (R').l.length = (S').m := by have h := (TN.out).ls; rw [h]; exact stackL_len _ _
            have hl8 : (R').l.length ≤ x.n := by rw [hl7]; exact (TN.out).mn
            have HTT := Lib.hid (TN.out)
            have HT9 := Lib.hid (HTN.out)
            have H78 := Lib.hid (And.intro hl7 hl8)
            clear hl7 hl8
            refine (sd_len _ HE.out).mono ?_
            rintro e wa ⟨rfl, ha⟩
            have HA := Lib.hid ha
            clear ha
            go_wp2_with fail
            refine (sd_rlen _ HA.out (by omega) H78.out.2).mono ?_
            rw [H78.out.1]
            rintro e wb ⟨rfl, hb⟩
            have HB2 := Lib.hid hb
            clear hb
            go_wp2_with fail
            refine (sd_room _ HB2.out).mono ?_
            rintro e wc ⟨rfl, rfl⟩
            go_wp2_with fail
            go_roundw
            case rel => exact ⟨k + 1, S', R', ts, by omega, by omega, by go_num, HTT.out, HT9.out, by (try simp); (try omega), by (try simp); (try omega), by first | exact HTO.out | exact tok_add HTO.out HZB.out, Sd.again HB2.out⟩
            case measure => first | (simp [intOf]; done) | (simp [intOf]; omega)
          ·
            have TI := Lib.hid tie
            have hat' : atE x.n r.T r.U g = -1 := by rw [HT.out]; exact hat
            have k1 := sd_free_no g _ HD.out g0 g1 ha
            have KN := Lib.hid hat'
            clear ha hat hat' tie
            go_wp2_with fail
            refine k1.mono ?_
            clear k1
            rintro e w6 ⟨rfl, h6⟩
            clear HD c0 c1 c2 c3 c4 c5 c6 c7
            have H6 := Lib.hid h6
            have k2 := sd_drop_no g _ H6.out g0 g1 (by omega) KN.out
            clear h6
            go_wp2_with fail
            refine k2.mono ?_
            rintro e w7 ⟨rfl, h7⟩
            have HE := Lib.hid h7
            clear h7 k2 H6
            go_wp2_with fail
            have hl7 : (r).l.length = (s).m := by have h := (Tie.up TI.out).ls; rw [h]; exact stackL_len _ _
            have hl8 : (r).l.length ≤ x.n := by rw [hl7]; exact (Tie.up TI.out).mn
            have HTT := Lib.hid (Tie.up TI.out)
            have HT9 := Lib.hid (HT.out)
            have H78 := Lib.hid (And.intro hl7 hl8)
            clear hl7 hl8
            refine (sd_len _ HE.out).mono ?_
            rintro e wa ⟨rfl, ha⟩
            have HA := Lib.hid ha
            clear ha
            go_wp2_with fail
            refine (sd_rlen _ HA.out (by omega) H78.out.2).mono ?_
            rw [H78.out.1]
            rintro e wb ⟨rfl, hb⟩
            have HB2 := Lib.hid hb
            clear hb
            go_wp2_with fail
            refine (sd_room _ HB2.out).mono ?_
            rintro e wc ⟨rfl, rfl⟩
            go_wp2_with fail
            go_roundw
            case rel => exact ⟨k + 1, s, r, ts, by omega, by omega, by go_num, HTT.out, HT9.out, by (try simp); (try omega), by (try simp); (try omega), by first | exact HTO.out | exact tok_add HTO.out HZB.out, Sd.again HB2.out⟩
            case measure => first | (simp [intOf]; done) | (simp [intOf]; omega)
        ·
          obtain ⟨gl, cl, ea, hgl, hll⟩ := own_at HD.out.t ht0
          simp only [Value.slice.injEq] at ea
          obtain ⟨rfl, -, rfl⟩ := ea
          obtain ⟨kk, hkk⟩ : ∃ kk : Nat, i.tmod (ts.length : Int) = (kk : Int) := ⟨(i % (ts.length : Int)).toNat, by rw [Int.tmod_eq_emod_of_nonneg i0]; have := Int.emod_nonneg i (show (ts.length : Int) ≠ 0 by omega); omega⟩
          have hkl : kk < ts.length := by have h1 := Int.tmod_eq_emod_of_nonneg (b := (ts.length : Int)) i0; have h2 := Int.emod_lt_of_pos i (show (0 : Int) < (ts.length : Int) by omega); omega
          obtain ⟨g, hg⟩ : ∃ g, ts[kk]? = some g := ⟨_, List.getElem?_eq_getElem hkl⟩
          have hgb := HTO.out g (List.mem_of_getElem? hg)
          obtain ⟨g0, g1⟩ := hgb
          have x0 : w5.cell? ⟨gl, kk, none⟩ = some (.int .u64 g) := (HD.out.t.cellAt kk (by omega)).trans (by unfold u64s; rw [List.getElem?_map, hg]; rfl)
          have x1 : IntKind.i64.wrap i = i := by rw [IntKind.wrap_i64]; omega
          have x2 : IntKind.i64.wrap (kk : Int) = (kk : Int) := by rw [IntKind.wrap_i64]; omega
          have x3 : (kk : Int) < (ts.length : Int) := by omega
          have x4 : (0 : Int) ≤ (kk : Int) := by omega
          have x5 : ¬ (ts.length : Int) = 0 := by omega
          clear hg hgl
          rcases tie.at_ g g0 with ⟨ha, i', hi', ht', hmod, hat⟩ | ⟨ha, hat⟩
          ·
            obtain ⟨⟨ra, rb, rc, rd, re⟩, hrq⟩ : ∃ q, s.R i' = q := ⟨_, rfl⟩
            have hrr : r.Q i' = ⟨ra, rb, rc, rd, re⟩ := (tie.qr i' hi' ht').trans hrq
            have k1 := sd_get_yes g _ HD.out g0 g1 ha hmod
            rw [hrq] at k1
            simp only [rqv] at k1
            have TI := Lib.hid tie
            have KN := Lib.hid (show i' < x.n ∧ r.Q i' = ⟨ra, rb, rc, rd, re⟩ ∧ atE x.n r.T r.U g = (i' : Int) from ⟨hi', hrr, by rw [HT.out]; exact hat⟩)
            have hi9 : (i' : Int) < (x.n : Int) := by omega
            have hi8 : (0 : Int) ≤ (i' : Int) := by omega
            clear ha hi' ht' hmod hat hrq hrr tie
            go_wp2_with fail
            refine k1.mono ?_
            clear k1
            rintro e w6 ⟨rfl, h6⟩
            clear HD c0 c1 c2 c3 c4 c5 c6 c7
            have H6 := Lib.hid h6
            clear h6
            go_upto_region 18 with fail
            obtain ⟨gb, hgb⟩ : ∃ g, w6.heap.size = g := ⟨_, rfl⟩
            refine wp_worlds (fun wx => Sd w wx B x s r (.slice (some ⟨gl, 0, none⟩) ts.length ct) ts ga #[.int .u8 d, .int .u64 qa, .int .i64 qb, .int .i64 qc, .int .i64 qd, .int .i64 qe, .int .u16 i, .int .u64 hh] ∧ Blk wx gb 34 #[.int .u64 ra, .int .i64 rb, .int .i64 rc, .int .i64 rd, .int .i64 re]) (hgb ▸ ⟨H6.out.below ((Below.refl _ _).alloc (Nat.le_refl _) _), Blk.made _ _ _⟩) ?_
            rw [hgb]
            clear H6 hgb
            rintro w7 ⟨h7, b7⟩
            have H7 := Lib.hid h7
            have y0 : w7.cell? ⟨gb, 0, none⟩ = some (.int .u64 ra) := b7.val rfl
            have y1 : w7.cell? ⟨gb, 1, none⟩ = some (.int .i64 rb) := b7.val rfl
            have y2 : w7.cell? ⟨gb, 2, none⟩ = some (.int .i64 rc) := b7.val rfl
            have y3 : w7.cell? ⟨gb, 3, none⟩ = some (.int .i64 rd) := b7.val rfl
            have y4 : w7.cell? ⟨gb, 4, none⟩ = some (.int .i64 re) := b7.val rfl
            have k2 := sd_at g _ H7.out g0 g1 (by omega)
            rw [KN.out.2.2] at k2
            clear h7 b7
            go_wp2_with fail
            refine k2.mono ?_
            clear k2
            rintro e w8 ⟨rfl, rfl⟩
            obtain ⟨g4, o4, c4, hd4, -, -⟩ := H7.out.d
            have v0 := hd4.p0
            obtain ⟨csr, br, hr4⟩ := hd4.r1
            have v1 : w7.cell? ⟨x.g1, i' * 5, none⟩ = some (.int .u64 ra) := br.val ((hr4 i' KN.out.1 0 (by omega)).trans (by rw [KN.out.2.1]; rfl))
            have v2 : w7.cell? ⟨x.g1, i' * 5 + 1, none⟩ = some (.int .i64 rb) := br.val ((hr4 i' KN.out.1 1 (by omega)).trans (by rw [KN.out.2.1]; rfl))
            have v3 : w7.cell? ⟨x.g1, i' * 5 + 2, none⟩ = some (.int .i64 rc) := br.val ((hr4 i' KN.out.1 2 (by omega)).trans (by rw [KN.out.2.1]; rfl))
            have v4 : w7.cell? ⟨x.g1, i' * 5 + 3, none⟩ = some (.int .i64 rd) := br.val ((hr4 i' KN.out.1 3 (by omega)).trans (by rw [KN.out.2.1]; rfl))
            have v5 : w7.cell? ⟨x.g1, i' * 5 + 4, none⟩ = some (.int .i64 re) := br.val ((hr4 i' KN.out.1 4 (by omega)).trans (by rw [KN.out.2.1]; rfl))
            have hd1 : decide ((i' : Int) < 0) = false := by simp
            have hd2 : decide ((i' : Int) ≥ 0) = true := by simp
            clear hd4 br hr4
            go_upto_region 19 with fail
            go_quiet (fail)
            have HE := Lib.hid (H7.out.same (k := nq))
            go_wp2_with fail
            have hl7 : (r).l.length = (s).m := by have h := (Tie.up TI.out).ls; rw [h]; exact stackL_len _ _
            have hl8 : (r).l.length ≤ x.n := by rw [hl7]; exact (Tie.up TI.out).mn
            have HTT := Lib.hid (Tie.up TI.out)
            have HT9 := Lib.hid (HT.out)
            have H78 := Lib.hid (And.intro hl7 hl8)
            clear hl7 hl8
            refine (sd_len _ HE.out).mono ?_
            rintro e wa ⟨rfl, ha⟩
            have HA := Lib.hid ha
            clear ha
            go_wp2_with fail
            refine (sd_rlen _ HA.out (by omega) H78.out.2).mono ?_
            rw [H78.out.1]
            rintro e wb ⟨rfl, hb⟩
            have HB2 := Lib.hid hb
            clear hb
            go_wp2_with fail
            refine (sd_room _ HB2.out).mono ?_
            rintro e wc ⟨rfl, rfl⟩
            go_wp2_with fail
            go_roundw
            case rel => exact ⟨k + 1, s, r, ts, by omega, by omega, by go_num, HTT.out, HT9.out, by (try simp); (try omega), by (try simp); (try omega), by first | exact HTO.out | exact tok_add HTO.out HZB.out, Sd.again HB2.out⟩
            case measure => first | (simp [intOf]; done) | (simp [intOf]; omega)
          ·
            have k1 := sd_get_no g _ HD.out g0 g1 ha
            simp only [rqv] at k1
            have TI := Lib.hid tie
            have KN := Lib.hid (show atE x.n r.T r.U g = -1 from by rw [HT.out]; exact hat)
            clear ha hat tie
            go_wp2_with fail
            refine k1.mono ?_
            clear k1
            rintro e w6 ⟨rfl, h6⟩
            clear HD c0 c1 c2 c3 c4 c5 c6 c7
            have H6 := Lib.hid h6
            clear h6
            go_upto_region 18 with fail
            obtain ⟨gb, hgb⟩ : ∃ g, w6.heap.size = g := ⟨_, rfl⟩
            refine wp_worlds (fun wx => Sd w wx B x s r (.slice (some ⟨gl, 0, none⟩) ts.length ct) ts ga #[.int .u8 d, .int .u64 qa, .int .i64 qb, .int .i64 qc, .int .i64 qd, .int .i64 qe, .int .u16 i, .int .u64 hh] ∧ Blk wx gb 34 #[.int .u64 0, .int .i64 0, .int .i64 0, .int .i64 0, .int .i64 0]) (hgb ▸ ⟨H6.out.below ((Below.refl _ _).alloc (Nat.le_refl _) _), Blk.made _ _ _⟩) ?_
            rw [hgb]
            clear H6 hgb
            rintro w7 ⟨h7, b7⟩
            have H7 := Lib.hid h7
            have y0 : w7.cell? ⟨gb, 0, none⟩ = some (.int .u64 0) := b7.val rfl
            have y1 : w7.cell? ⟨gb, 1, none⟩ = some (.int .i64 0) := b7.val rfl
            have y2 : w7.cell? ⟨gb, 2, none⟩ = some (.int .i64 0) := b7.val rfl
            have y3 : w7.cell? ⟨gb, 3, none⟩ = some (.int .i64 0) := b7.val rfl
            have y4 : w7.cell? ⟨gb, 4, none⟩ = some (.int .i64 0) := b7.val rfl
            have k2 := sd_at g _ H7.out g0 g1 (by omega)
            rw [KN.out] at k2
            clear h7 b7
            go_wp2_with fail
            refine k2.mono ?_
            clear k2
            rintro e w8 ⟨rfl, rfl⟩
            go_upto_region 19 with fail
            go_quiet (fail)
            have HE := Lib.hid (H7.out.same (k := nq))
            go_wp2_with fail
            have hl7 : (r).l.length = (s).m := by have h := (Tie.up TI.out).ls; rw [h]; exact stackL_len _ _
            have hl8 : (r).l.length ≤ x.n := by rw [hl7]; exact (Tie.up TI.out).mn
            have HTT := Lib.hid (Tie.up TI.out)
            have HT9 := Lib.hid (HT.out)
            have H78 := Lib.hid (And.intro hl7 hl8)
            clear hl7 hl8
            refine (sd_len _ HE.out).mono ?_
            rintro e wa ⟨rfl, ha⟩
            have HA := Lib.hid ha
            clear ha
            go_wp2_with fail
            refine (sd_rlen _ HA.out (by omega) H78.out.2).mono ?_
            rw [H78.out.1]
            rintro e wb ⟨rfl, hb⟩
            have HB2 := Lib.hid hb
            clear hb
            go_wp2_with fail
            refine (sd_room _ HB2.out).mono ?_
            rintro e wc ⟨rfl, rfl⟩
            go_wp2_with fail
            go_roundw
            case rel => exact ⟨k + 1, s, r, ts, by omega, by omega, by go_num, HTT.out, HT9.out, by (try simp); (try omega), by (try simp); (try omega), by first | exact HTO.out | exact tok_add HTO.out HZB.out, Sd.again HB2.out⟩
            case measure => first | (simp [intOf]; done) | (simp [intOf]; omega)
        ·
          rcases tie.at_ hh h0 with ⟨ha, i', hi', ht', hmod, hat⟩ | ⟨ha, hat⟩
          ·
            have hroom := tie.room hi' ht'
            have hlr : r.l.length ≤ 1024 := by have h := tie.ls; rw [h, stackL_len]; omega
            obtain ⟨S', hS'⟩ : ∃ S' : Sp, S' = ⟨s.H, fun j => if j = i' then false else s.T j, fun j => if j = i' then ⟨0, 0, 0, 0, 0⟩ else s.R j, s.m + 1, fun j => if j = s.m then i' else s.F j⟩ := ⟨_, rfl⟩
            obtain ⟨R', hR'⟩ : ∃ R' : Sr, R' = ⟨r.Q, fun j => if j = i' then false else r.T j, r.U, i' :: r.l⟩ := ⟨_, rfl⟩
            have TN := Lib.hid (show Tie x.n (k + 1) S'.H S'.T S'.R S'.m S'.F R'.Q R'.U R'.l by rw [hS', hR']; exact Tie.up (tie.free hi' ht'))
            have HTN := Lib.hid (show R'.T = S'.T by rw [hS', hR']; show (fun j => if j = i' then false else r.T j) = (fun j => if j = i' then false else s.T j); rw [HT.out])
            have k1 := sd_free_yes hh _ HD.out h0 h1 ha hmod hroom
            rw [← hS'] at k1
            have KN := Lib.hid (show i' < x.n ∧ r.l.length ≤ 1024 ∧ atE x.n r.T r.U hh = (i' : Int) ∧ R' = ⟨r.Q, fun j => if j = i' then false else r.T j, r.U, i' :: r.l⟩ from ⟨hi', hlr, by rw [HT.out]; exact hat, hR'⟩)
            clear ha hi' ht' hmod hat hroom hlr hS' hR' tie
            go_wp2_with fail
            refine k1.mono ?_
            clear k1
            rintro e w6 ⟨rfl, h6⟩
            clear HD c0 c1 c2 c3 c4 c5 c6 c7
            have H6 := Lib.hid h6
            have k2 := sd_drop_yes hh _ H6.out h0 h1 (by omega) KN.out.2.2.1 KN.out.1 KN.out.2.1
            rw [← KN.out.2.2.2] at k2
            clear h6
            go_wp2_with fail
            refine k2.mono ?_
            rintro e w7 ⟨rfl, h7⟩
            have HE := Lib.hid h7
            clear h7 k2 H6
            go_wp2_with fail
            have hl7 : (R').l.length = (S').m := by have h := (TN.out).ls; rw [h]; exact stackL_len _ _
            have hl8 : (R').l.length ≤ x.n := by rw [hl7]; exact (TN.out).mn
            have HTT := Lib.hid (TN.out)
            have HT9 := Lib.hid (HTN.out)
            have H78 := Lib.hid (And.intro hl7 hl8)
            clear hl7 hl8
            refine (sd_len _ HE.out).mono ?_
            rintro e wa ⟨rfl, ha⟩
            have HA := Lib.hid ha
            clear ha
            go_wp2_with fail
            refine (sd_rlen _ HA.out (by omega) H78.out.2).mono ?_
            rw [H78.out.1]
            rintro e wb ⟨rfl, hb⟩
            have HB2 := Lib.hid hb
            clear hb
            go_wp2_with fail
            refine (sd_room _ HB2.out).mono ?_
            rintro e wc ⟨rfl, rfl⟩
            go_wp2_with fail
            go_roundw
            case rel => exact ⟨k + 1, S', R', ts, by omega, by omega, by go_num, HTT.out, HT9.out, by (try simp); (try omega), by (try simp); (try omega), by first | exact HTO.out | exact tok_add HTO.out HZB.out, Sd.again HB2.out⟩
            case measure => first | (simp [intOf]; done) | (simp [intOf]; omega)
          ·
            have TI := Lib.hid tie
            have hat' : atE x.n r.T r.U hh = -1 := by rw [HT.out]; exact hat
            have k1 := sd_free_no hh _ HD.out h0 h1 ha
            have KN := Lib.hid hat'
            clear ha hat hat' tie
            go_wp2_with fail
            refine k1.mono ?_
            clear k1
            rintro e w6 ⟨rfl, h6⟩
            clear HD c0 c1 c2 c3 c4 c5 c6 c7
            have H6 := Lib.hid h6
            have k2 := sd_drop_no hh _ H6.out h0 h1 (by omega) KN.out
            clear h6
            go_wp2_with fail
            refine k2.mono ?_
            rintro e w7 ⟨rfl, h7⟩
            have HE := Lib.hid h7
            clear h7 k2 H6
            go_wp2_with fail
            have hl7 : (r).l.length = (s).m := by have h := (Tie.up TI.out).ls; rw [h]; exact stackL_len _ _
            have hl8 : (r).l.length ≤ x.n := by rw [hl7]; exact (Tie.up TI.out).mn
            have HTT := Lib.hid (Tie.up TI.out)
            have HT9 := Lib.hid (HT.out)
            have H78 := Lib.hid (And.intro hl7 hl8)
            clear hl7 hl8
            refine (sd_len _ HE.out).mono ?_
            rintro e wa ⟨rfl, ha⟩
            have HA := Lib.hid ha
            clear ha
            go_wp2_with fail
            refine (sd_rlen _ HA.out (by omega) H78.out.2).mono ?_
            rw [H78.out.1]
            rintro e wb ⟨rfl, hb⟩
            have HB2 := Lib.hid hb
            clear hb
            go_wp2_with fail
            refine (sd_room _ HB2.out).mono ?_
            rintro e wc ⟨rfl, rfl⟩
            go_wp2_with fail
            go_roundw
            case rel => exact ⟨k + 1, s, r, ts, by omega, by omega, by go_num, HTT.out, HT9.out, by (try simp); (try omega), by (try simp); (try omega), by first | exact HTO.out | exact tok_add HTO.out HZB.out, Sd.again HB2.out⟩
            case measure => first | (simp [intOf]; done) | (simp [intOf]; omega)
        ·
          rcases tie.at_ hh h0 with ⟨ha, i', hi', ht', hmod, hat⟩ | ⟨ha, hat⟩
          ·
            obtain ⟨⟨ra, rb, rc, rd, re⟩, hrq⟩ : ∃ q, s.R i' = q := ⟨_, rfl⟩
            have hrr : r.Q i' = ⟨ra, rb, rc, rd, re⟩ := (tie.qr i' hi' ht').trans hrq
            have k1 := sd_get_yes hh _ HD.out h0 h1 ha hmod
            rw [hrq] at k1
            simp only [rqv] at k1
            have TI := Lib.hid tie
            have KN := Lib.hid (show i' < x.n ∧ r.Q i' = ⟨ra, rb, rc, rd, re⟩ ∧ atE x.n r.T r.U hh = (i' : Int) from ⟨hi', hrr, by rw [HT.out]; exact hat⟩)
            have hi9 : (i' : Int) < (x.n : Int) := by omega
            have hi8 : (0 : Int) ≤ (i' : Int) := by omega
            clear ha hi' ht' hmod hat hrq hrr tie
            go_wp2_with fail
            refine k1.mono ?_
            clear k1
            rintro e w6 ⟨rfl, h6⟩
            clear HD c0 c1 c2 c3 c4 c5 c6 c7
            have H6 := Lib.hid h6
            clear h6
            go_upto_region 18 with fail
            obtain ⟨gb, hgb⟩ : ∃ g, w6.heap.size = g := ⟨_, rfl⟩
            refine wp_worlds (fun wx => Sd w wx B x s r (.slice At ts.length ct) ts ga #[.int .u8 d, .int .u64 qa, .int .i64 qb, .int .i64 qc, .int .i64 qd, .int .i64 qe, .int .u16 i, .int .u64 hh] ∧ Blk wx gb 34 #[.int .u64 ra, .int .i64 rb, .int .i64 rc, .int .i64 rd, .int .i64 re]) (hgb ▸ ⟨H6.out.below ((Below.refl _ _).alloc (Nat.le_refl _) _), Blk.made _ _ _⟩) ?_
            rw [hgb]
            clear H6 hgb
            rintro w7 ⟨h7, b7⟩
            have H7 := Lib.hid h7
            have y0 : w7.cell? ⟨gb, 0, none⟩ = some (.int .u64 ra) := b7.val rfl
            have y1 : w7.cell? ⟨gb, 1, none⟩ = some (.int .i64 rb) := b7.val rfl
            have y2 : w7.cell? ⟨gb, 2, none⟩ = some (.int .i64 rc) := b7.val rfl
            have y3 : w7.cell? ⟨gb, 3, none⟩ = some (.int .i64 rd) := b7.val rfl
            have y4 : w7.cell? ⟨gb, 4, none⟩ = some (.int .i64 re) := b7.val rfl
            have k2 := sd_at hh _ H7.out h0 h1 (by omega)
            rw [KN.out.2.2] at k2
            clear h7 b7
            go_wp2_with fail
            refine k2.mono ?_
            clear k2
            rintro e w8 ⟨rfl, rfl⟩
            obtain ⟨g4, o4, c4, hd4, -, -⟩ := H7.out.d
            have v0 := hd4.p0
            obtain ⟨csr, br, hr4⟩ := hd4.r1
            have v1 : w7.cell? ⟨x.g1, i' * 5, none⟩ = some (.int .u64 ra) := br.val ((hr4 i' KN.out.1 0 (by omega)).trans (by rw [KN.out.2.1]; rfl))
            have v2 : w7.cell? ⟨x.g1, i' * 5 + 1, none⟩ = some (.int .i64 rb) := br.val ((hr4 i' KN.out.1 1 (by omega)).trans (by rw [KN.out.2.1]; rfl))
            have v3 : w7.cell? ⟨x.g1, i' * 5 + 2, none⟩ = some (.int .i64 rc) := br.val ((hr4 i' KN.out.1 2 (by omega)).trans (by rw [KN.out.2.1]; rfl))
            have v4 : w7.cell? ⟨x.g1, i' * 5 + 3, none⟩ = some (.int .i64 rd) := br.val ((hr4 i' KN.out.1 3 (by omega)).trans (by rw [KN.out.2.1]; rfl))
            have v5 : w7.cell? ⟨x.g1, i' * 5 + 4, none⟩ = some (.int .i64 re) := br.val ((hr4 i' KN.out.1 4 (by omega)).trans (by rw [KN.out.2.1]; rfl))
            have hd1 : decide ((i' : Int) < 0) = false := by simp
            have hd2 : decide ((i' : Int) ≥ 0) = true := by simp
            clear hd4 br hr4
            go_upto_region 19 with fail
            go_quiet (fail)
            have HE := Lib.hid (H7.out.same (k := nq))
            go_wp2_with fail
            have hl7 : (r).l.length = (s).m := by have h := (Tie.up TI.out).ls; rw [h]; exact stackL_len _ _
            have hl8 : (r).l.length ≤ x.n := by rw [hl7]; exact (Tie.up TI.out).mn
            have HTT := Lib.hid (Tie.up TI.out)
            have HT9 := Lib.hid (HT.out)
            have H78 := Lib.hid (And.intro hl7 hl8)
            clear hl7 hl8
            refine (sd_len _ HE.out).mono ?_
            rintro e wa ⟨rfl, ha⟩
            have HA := Lib.hid ha
            clear ha
            go_wp2_with fail
            refine (sd_rlen _ HA.out (by omega) H78.out.2).mono ?_
            rw [H78.out.1]
            rintro e wb ⟨rfl, hb⟩
            have HB2 := Lib.hid hb
            clear hb
            go_wp2_with fail
            refine (sd_room _ HB2.out).mono ?_
            rintro e wc ⟨rfl, rfl⟩
            go_wp2_with fail
            go_roundw
            case rel => exact ⟨k + 1, s, r, ts, by omega, by omega, by go_num, HTT.out, HT9.out, by (try simp); (try omega), by (try simp); (try omega), by first | exact HTO.out | exact tok_add HTO.out HZB.out, Sd.again HB2.out⟩
            case measure => first | (simp [intOf]; done) | (simp [intOf]; omega)
          ·
            have k1 := sd_get_no hh _ HD.out h0 h1 ha
            simp only [rqv] at k1
            have TI := Lib.hid tie
            have KN := Lib.hid (show atE x.n r.T r.U hh = -1 from by rw [HT.out]; exact hat)
            clear ha hat tie
            go_wp2_with fail
            refine k1.mono ?_
            clear k1
            rintro e w6 ⟨rfl, h6⟩
            clear HD c0 c1 c2 c3 c4 c5 c6 c7
            have H6 := Lib.hid h6
            clear h6
            go_upto_region 18 with fail
            obtain ⟨gb, hgb⟩ : ∃ g, w6.heap.size = g := ⟨_, rfl⟩
            refine wp_worlds (fun wx => Sd w wx B x s r (.slice At ts.length ct) ts ga #[.int .u8 d, .int .u64 qa, .int .i64 qb, .int .i64 qc, .int .i64 qd, .int .i64 qe, .int .u16 i, .int .u64 hh] ∧ Blk wx gb 34 #[.int .u64 0, .int .i64 0, .int .i64 0, .int .i64 0, .int .i64 0]) (hgb ▸ ⟨H6.out.below ((Below.refl _ _).alloc (Nat.le_refl _) _), Blk.made _ _ _⟩) ?_
            rw [hgb]
            clear H6 hgb
            rintro w7 ⟨h7, b7⟩
            have H7 := Lib.hid h7
            have y0 : w7.cell? ⟨gb, 0, none⟩ = some (.int .u64 0) := b7.val rfl
            have y1 : w7.cell? ⟨gb, 1, none⟩ = some (.int .i64 0) := b7.val rfl
            have y2 : w7.cell? ⟨gb, 2, none⟩ = some (.int .i64 0) := b7.val rfl
            have y3 : w7.cell? ⟨gb, 3, none⟩ = some (.int .i64 0) := b7.val rfl
            have y4 : w7.cell? ⟨gb, 4, none⟩ = some (.int .i64 0) := b7.val rfl
            have k2 := sd_at hh _ H7.out h0 h1 (by omega)
            rw [KN.out] at k2
            clear h7 b7
            go_wp2_with fail
            refine k2.mono ?_
            clear k2
            rintro e w8 ⟨rfl, rfl⟩
            go_upto_region 19 with fail
            go_quiet (fail)
            have HE := Lib.hid (H7.out.same (k := nq))
            go_wp2_with fail
            have hl7 : (r).l.length = (s).m := by have h := (Tie.up TI.out).ls; rw [h]; exact stackL_len _ _
            have hl8 : (r).l.length ≤ x.n := by rw [hl7]; exact (Tie.up TI.out).mn
            have HTT := Lib.hid (Tie.up TI.out)
            have HT9 := Lib.hid (HT.out)
            have H78 := Lib.hid (And.intro hl7 hl8)
            clear hl7 hl8
            refine (sd_len _ HE.out).mono ?_
            rintro e wa ⟨rfl, ha⟩
            have HA := Lib.hid ha
            clear ha
            go_wp2_with fail
            refine (sd_rlen _ HA.out (by omega) H78.out.2).mono ?_
            rw [H78.out.1]
            rintro e wb ⟨rfl, hb⟩
            have HB2 := Lib.hid hb
            clear hb
            go_wp2_with fail
            refine (sd_room _ HB2.out).mono ?_
            rintro e wc ⟨rfl, rfl⟩
            go_wp2_with fail
            go_roundw
            case rel => exact ⟨k + 1, s, r, ts, by omega, by omega, by go_num, HTT.out, HT9.out, by (try simp); (try omega), by (try simp); (try omega), by first | exact HTO.out | exact tok_add HTO.out HZB.out, Sd.again HB2.out⟩
            case measure => first | (simp [intOf]; done) | (simp [intOf]; omega)
      · have kk2 : ¬ (k : Int) < 100 := by omega
        have hb := hz.1
        clear hz
        go_wp2_with fail
        go_ret
        exact ⟨rfl, hb.alloc hb.size _⟩
    · obtain rfl : k = len := by omega
      have hb := hz.1
      clear hz
      go_wp2_with fail
      go_ret
      exact ⟨rfl, hb⟩
set_option maxRecDepth 100000 in
theorem lifted (os : Os) (started : os.Started) (H : Type) (enc : TypeId × Value → H) :
    ReturnsInHanded {} Try.checked os 3 .any (Rows.slabPlaysSpec.pre6 enc Try.prog Try.f3 Rows.slabPlaysRow.domain false) (Rows.slabPlaysSpec.post enc Try.prog Try.f3 false true false false) := by
  refine returnsInHanded_of_change (C := Try.checked) own started (by kernel_rfl) Try.func3
    (ChangeSpec.witness6 (enc := enc) (C := Try.checked) false ⟨#[], #[.int .u16 0, .slice none 0 0], []⟩ 8 (by kernel_rfl) (by kernel_rfl) (by kernel_rfl) (by kernel_rfl)) ?_
  intro W base args ds gs before hval0 hW hcnd _
  have hval : ∀ (j : Nat) t v, Try.f3.params[j]? = some t → args[j]? = some v → Value.okWide Try.prog W .any base t v := hval0
  have hW' := hW
  obtain ⟨p, q, hA0, hV, rfl, hfz, hnd⟩ := hW
  have hA : DataW.TrodAll enc Try.prog W 0 (fun _ => true) true Try.f3.params.toList args.toList ds p := hA0
  rw [Try.params3] at hA hval
  obtain ⟨v0, vs0, d0, ds0, p0, q0, hargs, rfl, rfl, h0, r0⟩ := trodAll_cons hA
  obtain ⟨v1, vs1, d1, ds1, p1, q1, rfl, rfl, rfl, h1, r1⟩ := trodAll_cons r0
  obtain ⟨rfl, rfl, rfl⟩ := trodAll_nil r1
  obtain rfl : args = #[v0, v1] := by cases args; simp_all
  obtain ⟨rfl, rfl⟩ := trodVars_none hV
  obtain ⟨a0, rfl, rfl, rfl, w0⟩ := open_int Try.underlying22 (hval 0 _ v0 rfl rfl) h0
  obtain ⟨A1, len1, cap1, rfl⟩ := okWide_slice Try.underlying23 (hval 1 _ v1 rfl rfl)
  obtain ⟨fu1, g1⟩ := h1
  obtain ⟨s1, t1, Q1, u1, o1⟩ := open_sas g1
  clear hA0 hval0
  obtain ⟨l0, m0⟩ := wf_u16 w0
  refine (walk a0 A1 len1 cap1 Q1 W s1 t1 u1 o1 l0 m0).mono fun e W' ⟨he, hg⟩ => ?_
  subst he
  exact ⟨_, rfl, post_of_law hW' rfl laidOut reads rfl Try.underlying4 rfl rfl rfl hg⟩
theorem over : Rows.slabPlaysRow.holds Try.pinned (OpenSpec.ofChange Rows.slabPlaysSpec) :=
  OpenClaim.holds_of_wide 3 Try.f3 rfl rfl rfl rfl rfl rfl rfl ⟨rfl, rfl, rfl, rfl, rfl⟩ rfl rfl rfl rfl rfl (by kernel_rfl) Try.func3 (by kernel_rfl)
    (of_decide_eq_true (by kernel_rfl)) (by unfold Func.isWrapper; first | (rw [if_pos (by decide +kernel)]; kernel_rfl) | (rw [if_neg (by decide +kernel)]; exact ⟨rfl, rfl⟩))
    (fun os started H enc _ => lifted os started H enc)
theorem proved : Rows.SlabPlaysSaid := over
end Go.Proofs.Ytjhcppiamkkdbaa.slabPlays
