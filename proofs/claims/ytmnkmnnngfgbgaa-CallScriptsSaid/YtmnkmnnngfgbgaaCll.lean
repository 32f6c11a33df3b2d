/- A script read of its bytes. -/
import Derived.Test.YtmnkmnnngfgbgaaClj
namespace Go.Proofs.Ytmnkmnnngfgbgaa
open Go.RowKit Go.ChangeShapes Go.WideShapes Go.Deep
set_option linter.unusedVariables false
set_option linter.unusedSimpArgs false
/-- The answer of a script's read: of bytes M that stand at the head of the script L's. -/
def RsP (M : List Int) (L : List OpV) (w : World) (e : Ending) (w' : World) : Prop :=
  Below w.heap.size w w' ∧ ((∃ j v, j ≤ L.length ∧ M = ES (L.take j) ∧ e = .returned (.tuple #[v, .int .i64 0]) ∧ OwQ w' w.heap.size v (L.take j)) ∨
    ((∀ j, j ≤ L.length → M.length ≠ (ES (L.take j)).length) ∧ e = .returned (.tuple #[.slice none 0 0, .int .i64 2])))
theorem OkQ.take {L : List OpV} (h : OkQ L) (j : Nat) : OkQ (L.take j) := fun x hx => h x (List.mem_of_mem_take hx)
set_option maxRecDepth 100000 in
set_option maxHeartbeats 4000000 in
theorem readscript_any {w : World} {B c : Nat} {A : Option Addr} {L : List OpV} {M T : List Int} (h : RdK .u8 w B A M) (hB : B ≤ w.heap.size) (hc : M.length ≤ c) (hM : M ++ T = ES L) (hok : OkQ L) (hl : L.length ≤ 30) :
    Calls Try.prog 20 #[.slice A M.length c] w (RsP M L w) := by
  have hML : M.length ≤ 930 := by
    have h1 := ES_len hok
    have h2 := congrArg List.length hM
    rw [List.length_append] at h2
    omega
  have H := Lib.hid (h.more hB)
  have HM := Lib.hid hM
  have HOK := Lib.hid hok
  obtain ⟨N, hN⟩ : ∃ N, M.length = N := ⟨_, rfl⟩
  have HN := Lib.hid hN
  rw [hN] at hc hML ⊢
  obtain ⟨n, hn⟩ : ∃ n, L.length = n := ⟨_, rfl⟩
  have HNL := Lib.hid hn
  rw [hn] at hl
  clear h hM hok hN hn
  go_enter Try.func20, Try.ntmps20
  go_wp2
  go_loopw [0, 4] (fun s0 s4 wr => ∃ (j s c' : Nat) (A' : Option Addr), j ≤ n ∧ s = (ES (L.take j)).length ∧ s ≤ N ∧ N - s ≤ c' ∧ s0 = .slice A' (N - s) c' ∧ RdK .u8 wr w.heap.size A' (M.drop s) ∧ OwQ wr w.heap.size s4 (L.take j) ∧ Below w.heap.size w wr) (fun s _ _ => (match s with | .slice _ l _ => l | _ => 0))
  case atStart => exact ⟨0, 0, c, A, Nat.zero_le _, by simp [ES], Nat.zero_le _, hc, rfl, H.out, OwQ.nil_ _ _, Below.refl _ _⟩
  case round =>
    obtain ⟨j, s, c', A', hj, hs, hsN, hc', rfl, hr, ho, hb⟩ := hrel
    have HS := Lib.hid hs
    have HR := Lib.hid hr
    have HO := Lib.hid ho
    have HB := Lib.hid hb
    clear hs hr ho hb
    obtain ⟨D, hD⟩ : ∃ D, M.drop s = D := ⟨_, rfl⟩
    have hDl : D.length = N - s := by rw [← hD, List.length_drop, HN.out]
    have hDT : D ++ T = ES (L.drop j) := by
      have h1 : M.length ≥ s := by rw [HN.out]; exact hsN
      rw [← hD, ← List.drop_append_of_le_length h1, HM.out, ES_split L j, HS.out, List.drop_left]
    have hMs : M.take s = ES (L.take j) := by
      have h1 : (M ++ T).take s = M.take s := List.take_append_of_le_length (by rw [HN.out]; exact hsN)
      rw [← h1, HM.out, ES_split L j, HS.out, List.take_left]
    rw [hD] at HR
    have HD := Lib.hid hD
    have HDL := Lib.hid hDl
    have HDT := Lib.hid hDT
    have HMS := Lib.hid hMs
    clear hD hDl hDT hMs
    by_cases hse : s = N
    · have hns : N - s = 0 := by omega
      rw [hns]
      go_wp2
      go_ret2
      refine ⟨HB.out, .inl ⟨j, _, by rw [HNL.out]; exact hj, ?_, rfl, HO.out⟩⟩
      have h := HMS.out
      rw [hse, ← HN.out, List.take_length] at h
      exact h
    · obtain ⟨d, hd⟩ : ∃ d, N - s = d := ⟨_, rfl⟩
      have hd0 : 0 < d := by omega
      have hd9 : d ≤ 930 := by omega
      have HDD := Lib.hid hd
      have hjn : j < n := by
        rcases Nat.lt_or_ge j n with h | h
        · exact h
        · exfalso
          have h1 := congrArg List.length HDT.out
          rw [List.drop_eq_nil_of_le (by rw [HNL.out]; exact h), List.length_append, HDL.out] at h1
          simp [ES] at h1
          omega
      have hjL : j < L.length := by rw [HNL.out]; exact hjn
      obtain ⟨o, ho⟩ : ∃ o, L[j]! = o := ⟨_, rfl⟩
      have hoo : o.ok := by rw [← ho, getElem!_pos L j hjL]; exact HOK.out _ (List.getElem_mem hjL)
      have hdr := drop_get L hjL
      have htk := take_succ_get L hjL
      rw [ho] at hdr htk
      obtain ⟨D1, hD1⟩ : ∃ D1, D = o.k :: D1 := by
        have h1 := HDT.out
        rw [hdr, ES_cons] at h1
        have h2 : 0 < D.length := by rw [HDL.out]; omega
        match D, h2 with
        | x :: D1, _ =>
          simp only [OpV.enc, List.cons_append] at h1
          injection h1 with h1 _
          exact ⟨D1, by rw [h1]⟩
      have hD1T : D1 ++ T = encs o.ns ++ ES (L.drop (j + 1)) := by
        have h1 := HDT.out
        rw [hdr, ES_cons, hD1] at h1
        simp only [OpV.enc, List.cons_append] at h1
        injection h1 with _ h1
      have hes : (ES (L.take (j + 1))).length = s + 1 + (encs o.ns).length := by
        rw [htk, ES_append, List.length_append, HS.out]
        simp [ES, OpV.enc]; omega
      have hD1l : D1.length + 1 = d := by
        have h1 := HDL.out
        rw [hD1, List.length_cons] at h1; omega
      have hz31 : (encs o.ns).length ≤ 30 := by have := enc_len hoo; simp only [OpV.enc, List.length_cons] at this; omega
      obtain ⟨z, hz⟩ : ∃ z, (encs o.ns).length = z := ⟨_, rfl⟩
      rw [hz] at hz31 hes
      have hca := Lib.hid (fun (W : World) (hW : W = wr) => (show Calls Try.prog 17 #[.slice A' d c'] W (RoP o D1 W) by
        subst hW
        have h1 := readop_any (w := W) (o := o) (L1 := D1) (T := T) (R := ES (L.drop (j + 1))) (A := A') (c := c') (B := w.heap.size) (by rw [← hD1]; exact HR.out) HB.out.size (by rw [← hD1, HDL.out]; exact hc') hD1T (by omega) hoo
        rw [← hD1, HDL.out, hd] at h1
        exact h1))
      obtain ⟨⟨yk, yt, yc, yn⟩, hy⟩ : ∃ y, y = o := ⟨_, rfl⟩
      subst hy
      have HES := Lib.hid hes
      have HZ := Lib.hid hz
      have HTK := Lib.hid htk
      have HL1 := Lib.hid hD1l
      have HTJ := Lib.hid (show (L.take j).length ≤ 100 by rw [List.length_take, HNL.out]; omega)
      clear ho hoo hdr htk hD1 hD1T hes hD1l hz hd hse
      rw [HDD.out]
      go_wp2_with fail
      refine (hca.out _ rfl).mono ?_
      rintro e w1 ⟨hb1, (⟨hq, rfl⟩ | ⟨hq, rfl⟩)⟩
      · have HB1 := Lib.hid (HB.out.trans (hb1.mono HB.out.size))
        have HF := Lib.hid hq
        clear hq hb1
        go_wp2
        go_ret2
        refine ⟨HB1.out.alloc HB1.out.size _, .inr ⟨fun i hi he => ?_, rfl⟩⟩
        have h1 := HF.out
        have h2 := HL1.out
        have h3 := HES.out
        have h4 := HS.out
        have h5 := HDD.out
        rw [HZ.out] at h1
        rw [HN.out] at he
        rcases Nat.lt_or_ge j i with h6 | h6
        · have h7 := ES_mono L (show j + 1 ≤ i by omega); omega
        · have h7 := ES_mono L h6; omega
      · have HB1 := Lib.hid (HB.out.trans (hb1.mono HB.out.size))
        have HF := Lib.hid hq
        have HBW := Lib.hid hb1
        clear hq hb1
        rw [HZ.out]
        have hzd : 1 + z ≤ d := by have h1 := HF.out; rw [HZ.out] at h1; have h2 := HL1.out; omega
        have hsl := fun W => slice_from (A := A') (n := d) (c := c') (s := 1 + z) hzd (by have := HDD.out; omega) W
        obtain ⟨A2, hA2⟩ : ∃ A2, (if c' = 1 + z then A' else A'.map (·.add (1 + z))) = A2 := ⟨_, rfl⟩
        simp only [hA2] at hsl
        have hsl2 : ∀ W, (Instr.sliceAt 22 (.slice A' d c') (some (.int .i64 (1 + (z : Int)))) none none).run Try.prog W = .ok (.slice A2 (d - (1 + z)) (c' - (1 + z))) W := fun W => by
          have h := hsl W
          rw [show (((1 + z : Nat) : Int)) = 1 + (z : Int) by omega] at h
          exact h
        have hrd : RdK .u8 wr w.heap.size A2 (M.drop (s + (1 + z))) := by
          rw [← hA2, ← List.drop_drop, HD.out]
          exact HR.out.cut (by rw [HDL.out]; exact hc')
        have HRD := Lib.hid hrd
        clear hsl hA2 hrd
        have HSL := Lib.hid hsl2
        clear hsl2
        go_upto_region 6 with fail
        obtain ⟨w2, hw2⟩ : ∃ w2, w1.alloc (.cells #[.int .u8 yk, .int .i64 yt, .int .i64 yc, .int .i64 yn] 33) = w2 := ⟨_, rfl⟩
        have hx2 : Blk w2 w1.heap.size 33 #[.int .u8 yk, .int .i64 yt, .int .i64 yc, .int .i64 yn] := by rw [← hw2]; exact Blk.made _ _ _
        have HB2 := Lib.hid (show Below w.heap.size w w2 by rw [← hw2]; exact HB1.out.alloc HB1.out.size _)
        have HBR := Lib.hid (show Below wr.heap.size wr w2 by rw [← hw2]; exact HBW.out.alloc HBW.out.size _)
        rw [hw2]
        clear hw2
        obtain ⟨gx, hgx⟩ : ∃ gx, w1.heap.size = gx := ⟨_, rfl⟩
        rw [hgx] at hx2 ⊢
        have p0 : w2.cell? ⟨gx, 0, none⟩ = some (.int .u8 yk) := hx2.val rfl
        have p1 : w2.cell? ⟨gx, 1, none⟩ = some (.int .i64 yt) := hx2.val rfl
        have p2 : w2.cell? ⟨gx, 2, none⟩ = some (.int .i64 yc) := hx2.val rfl
        have p3 : w2.cell? ⟨gx, 3, none⟩ = some (.int .i64 yn) := hx2.val rfl
        clear hx2 hgx
        go_upto_region 7 with (at_builtin; refine wpList_op (base := w.heap.size) (v := u4) (L := L.take j) (z := ⟨yk, yt, yc, yn⟩) (g := w2.heap.size) rfl (.tmp 20) (.tmp 22) rfl rfl rfl ((HO.out.below HBR.out).below ((Below.refl _ _).alloc (Nat.le_refl _) _)) (Blk.made _ _ _) (by have := HTJ.out; omega) (by have := HB2.out.size; simp; omega) ?_; intro v5 w5 ho5 hg5; have HO5 := Lib.hid ho5; have HG2 := Lib.hid (((Below.refl w.heap.size w2).alloc HB2.out.size (.cells #[.int .u8 yk, .int .i64 yt, .int .i64 yc, .int .i64 yn] 33)).grown hg5 (by have := HB2.out.size; simp; omega) (fun k hk => (own_base HO.out hk))); have HG5 := Lib.hid (HB2.out.trans HG2.out); clear ho5 hg5)
        have hs5 := HSL.out w5
        go_wp2
        go_roundw
        case rel =>
          refine ⟨j + 1, s + (1 + z), c' - (1 + z), A2, by omega, by rw [HES.out]; omega, by have := HDD.out; omega, by have := HDD.out; omega, ?_, HRD.out.below (Below.trans (HBR.out.mono HB.out.size) ?_), by rw [HTK.out]; exact HO5.out, HG5.out⟩
          · congr 1
            have := HDD.out; omega
          · exact HG2.out
        case measure => simp [intOf]; omega
end Go.Proofs.Ytmnkmnnngfgbgaa
