/- A record read of its bytes: a byte and numbers. -/
import Derived.Test.YtmnkmnnngfgbgaaClg
import Derived.Laws.MakeOwn
namespace Go.Proofs.Ytmnkmnnngfgbgaa
open Go.RowKit Go.ChangeShapes Go.WideShapes Go.Deep
set_option linter.unusedVariables false
set_option linter.unusedSimpArgs false
theorem slice_from {A : Option Addr} {n c s : Nat} (h : s ≤ n) (hc : n ≤ c) (W : World) : (Instr.sliceAt 22 (.slice A n c) (some (.int .i64 (s : Int))) none none).run Try.prog W = .ok (.slice (if c = s then A else A.map (·.add s)) (n - s) (c - s)) W := by
  simp [go_sem]
  intro h'; omega
theorem slice_to {A : Option Addr} {n c s : Nat} (h : s ≤ c) (W : World) : (Instr.sliceAt 22 (.slice A n c) none (some (.int .i64 (s : Int))) none).run Try.prog W = .ok (.slice (if c = 0 then A else A.map (·.add 0)) s c) W := by
  simp [go_sem]
  omega
/-- The first i numbers, and zeros. -/
def fillN (ns : List Int) (i : Nat) : List Int := ns.take i ++ List.replicate (ns.length - i) 0
theorem fillN_len (ns : List Int) (i : Nat) (h : i ≤ ns.length) : (fillN ns i).length = ns.length := by simp [fillN]; omega
theorem fillN_all (ns : List Int) : fillN ns ns.length = ns := by simp [fillN]
theorem fillN_set (ns : List Int) (i : Nat) (h : i < ns.length) : (fillN ns i).set i ns[i] = fillN ns (i + 1) := by
  unfold fillN
  have h1 : (ns.take i).length = i := by simp; omega
  have h2 : List.replicate (ns.length - i) (0 : Int) = 0 :: List.replicate (ns.length - (i + 1)) 0 := by
    rw [show ns.length - i = (ns.length - (i + 1)) + 1 by omega, List.replicate_succ]
  have e : ns.take (i + 1) = ns.take i ++ [ns[i]] := by rw [List.take_add_one, List.getElem?_eq_getElem h]; rfl
  rw [h2, List.set_append, if_neg (by omega), h1, Nat.sub_self, List.set_cons_zero, e, List.append_assoc]
  rfl
theorem fillN_at (ns : List Int) (i : Nat) (h : i < ns.length) : (fillN ns i)[i]? = some 0 := by
  unfold fillN
  have h1 : (ns.take i).length = i := by simp; omega
  rw [List.getElem?_append_right (by omega), h1, Nat.sub_self, List.getElem?_replicate, if_pos (by omega)]
/-- The answer of a record's read: of a byte kd and what follows, L1. -/
def RcP (kd : Int) (L1 ns : List Int) (w : World) (e : Ending) (w' : World) : Prop :=
  Below w.heap.size w w' ∧ ((L1.length < (encs ns).length ∧ e = .returned (.tuple #[.int .u8 0, .slice none 0 0, .int .i64 0, .int .i64 2])) ∨
    ((encs ns).length ≤ L1.length ∧ ∃ g, e = .returned (.tuple #[.int .u8 kd, .slice (some ⟨g, 0, none⟩) ns.length ns.length, .int .i64 ((1 + (encs ns).length : Nat) : Int), .int .i64 0]) ∧ w.heap.size ≤ g ∧ Blk w' g 2 (ns.map (Value.int .i64)).toArray))
theorem linfo64 : (Try.prog.info? 2).map (fun i => (i.zero, i.size, i.bytes)) = some (some (.int .i64 0), 1, 8) := by kernel_rfl
theorem own_blk {w : World} {base g n c : Nat} {t : TypeId} {xs : List Value} (h : w.ownsRow base t 1 (.slice (some ⟨g, 0, none⟩) n c) n xs) (hc : c = n) (hl : xs.length = n) : Blk w g t xs.toArray := by
  rcases h.2 with ⟨h1, _⟩ | ⟨g', cap, cur, h1, hb, hg, h2, h3, h4, h5⟩
  · cases h1
  · injection h1 with h1 _ h7
    injection h1 with h1
    injection h1 with h1
    subst h1 h7 hc
    have e : cur = xs.toArray := by
      have h6 : cur.toList.length = xs.length := by rw [Array.length_toList]; omega
      have h8 : cur.toList = xs := by rw [← h5, Nat.mul_one, List.take_of_length_le (by omega)]
      rw [← h8]
    rw [← e]
    exact hg
set_option maxRecDepth 100000 in
set_option maxHeartbeats 4000000 in
theorem record_any {w : World} {B c : Nat} {A : Option Addr} {kd : Int} {L1 T R ns : List Int} (h : RdK .u8 w B A (kd :: L1)) (hB : B ≤ w.heap.size) (hc : (kd :: L1).length ≤ c) (hL : L1 ++ T = encs ns ++ R) (hl : L1.length ≤ 8000) (hn : Ok64 ns) (hk : ns.length ≤ 4) :
    Calls Try.prog 27 #[.slice A (kd :: L1).length c, .int .i64 (ns.length : Int)] w (RcP kd L1 ns w) := by
  obtain ⟨b, off, hA, hbB, hcell⟩ := h (by simp)
  have hbw : b < w.heap.size := by omega
  subst hA
  have H := Lib.hid (h.more hB)
  have HN := Lib.hid hn
  have HL := Lib.hid hL
  have HC := Lib.hid hcell
  obtain ⟨N, hN⟩ : ∃ N, (kd :: L1).length = N := ⟨_, rfl⟩
  rw [hN] at hc ⊢
  have HNN := Lib.hid hN
  have hN1 : N = L1.length + 1 := by rw [← hN]; simp
  have hNz : ((N : Int) == 0) = false := by rw [beq_eq_false_iff_ne]; omega
  obtain ⟨k, hk2⟩ : ∃ k, ns.length = k := ⟨_, rfl⟩
  have HK := Lib.hid hk2
  rw [hk2] at hk ⊢
  obtain ⟨i0, hi0, hz0, hz1, hz2⟩ := infk_of linfo64
  have HI := Lib.hid (show _ ∧ _ ∧ _ ∧ _ from ⟨hi0, hz0, hz1, hz2⟩)
  have HN1 := Lib.hid hN1
  have hNl : N ≤ 8001 := by omega
  clear h hn hL hcell hN hk2 hi0 hz0 hz1 hz2 hN1
  go_enter Try.func27, Try.ntmps27
  go_wp2_with (refine wpList_make_full _ rfl (.tmp 17) (.tmp 17) 60 rfl w.heap.size 2 i0 (.int .i64 0) 1 Try.underlying60 HI.out.1 HI.out.2.1 HI.out.2.2.1 .i64 .i64 (k : Int) (k : Int) k rfl rfl rfl rfl (by rw [HI.out.2.2.2]; omega) (by unfold maxLen; omega) (Nat.le_refl _) ?_; intro x2 hown hg2; have HO2 := Lib.hid hown; have HB2 := Lib.hid ((Below.refl w.heap.size w).grown hg2 (Nat.le_refl _) (fun k hk => by cases hk)); clear hown hg2)
  have hblk : Blk x2 w.heap.size 2 ((fillN ns 0).map (Value.int .i64)).toArray := by
    have h := own_blk HO2.out rfl (by rw [show (Value.int .i64 0).cells = #[Value.int .i64 0] from rfl, toList_madeCells_one]; simp)
    rw [Nat.mul_one] at h
    have e : (Value.int .i64 0).cells = #[Value.int .i64 0] := rfl
    rw [e, toList_madeCells_one] at h
    have e2 : ((fillN ns 0).map (Value.int .i64)).toArray = (List.replicate k (Value.int .i64 0)).toArray := by simp [fillN, HK.out]
    rw [e2]; exact h
  have HBK := Lib.hid hblk
  clear hblk HO2
  go_loopw [8, 21] (fun s8 s21 wr => ∃ i s : Nat, i ≤ k ∧ s21 = .int .i64 (i : Int) ∧ s8 = .int .i64 (s : Int) ∧ s = 1 + (encs (ns.take i)).length ∧ s ≤ N ∧ Blk wr w.heap.size 2 ((fillN ns i).map (Value.int .i64)).toArray ∧ Below w.heap.size w wr) (fun _ s _ => k - (intOf s).toNat)
  case atStart => exact ⟨0, 1, Nat.zero_le _, rfl, rfl, by simp [encs], by have := HN1.out; omega, HBK.out, HB2.out⟩
  case round =>
    clear HBK HB2
    obtain ⟨i, s, hi, rfl, rfl, hs, hsN, hbk, hbl⟩ := hrel
    have HS := Lib.hid hs
    have HBK := Lib.hid hbk
    have HBL := Lib.hid hbl
    clear hs hbk hbl
    by_cases hik : i < k
    · obtain ⟨n, hni⟩ : ∃ n, ns[i]? = some n := ⟨_, List.getElem?_eq_getElem (by rw [HK.out]; exact hik)⟩
      obtain ⟨hn0, hn1⟩ := HN.out n (List.mem_of_getElem? hni)
      have HNI := Lib.hid hni
      have hsl := slice_from (A := some ⟨b, off, none⟩) hsN hc wr
      obtain ⟨A', hA'⟩ : ∃ A', (if c = s then (some ⟨b, off, none⟩ : Option Addr) else (some ⟨b, off, none⟩ : Option Addr).map (·.add s)) = A' := ⟨_, rfl⟩
      have hrd : RdK .u8 wr w.heap.size A' ((kd :: L1).drop s) := by rw [← hA']; exact (H.out.below HBL.out).cut (by rw [HNN.out]; exact hc)
      have hml : ((kd :: L1).drop s).length = N - s := by rw [List.length_drop, HNN.out]
      rw [hA'] at hsl
      have hdr : ns.drop i = n :: ns.drop (i + 1) := by
        have hlt : i < ns.length := by rw [HK.out]; exact hik
        rw [List.drop_eq_getElem_cons hlt]
        have := List.getElem?_eq_getElem hlt
        rw [HNI.out] at this
        injection this with this
        rw [← this]
      have hLs : ((kd :: L1).drop s) ++ T = encN n ++ (encs (ns.drop (i + 1)) ++ R) := by
        have h1 : s = (encs (ns.take i)).length + 1 := by rw [HS.out]; omega
        have h2 : (encs (ns.take i)).length ≤ L1.length := by have := HN1.out; omega
        rw [h1, List.drop_succ_cons, ← List.drop_append_of_le_length h2, HL.out]
        have h3 : encs ns = encs (ns.take i) ++ encs (ns.drop i) := by rw [← encs_append, List.take_append_drop]
        rw [h3, List.append_assoc, List.drop_left, hdr, encs_cons, List.append_assoc]
      have htk : ns.take (i + 1) = ns.take i ++ [n] := by rw [List.take_add_one, HNI.out]; rfl
      have hes : (encs (ns.take (i + 1))).length = (encs (ns.take i)).length + (encN n).length := by rw [htk, encs_snoc, List.length_append]
      have hle : (encs (ns.take (i + 1))).length ≤ (encs ns).length := by
        have h3 : encs ns = encs (ns.take (i + 1)) ++ encs (ns.drop (i + 1)) := by rw [← encs_append, List.take_append_drop]
        rw [h3, List.length_append]; omega
      obtain ⟨M, hM⟩ : ∃ M, (kd :: L1).drop s = M := ⟨_, rfl⟩
      obtain ⟨m, hm⟩ : ∃ m, M.length = m := ⟨_, rfl⟩
      rw [hM] at hrd hml hLs
      have hmN : N - s = m := by rw [← hm, hml]
      rw [hmN] at hsl
      have hms : m = N - s := hmN.symm
      have HCA := Lib.hid (fun (W : World) (hW : W = wr) => (show Calls Try.prog 10 #[.slice A' m (c - s)] W (RdP M n W) by subst hW; rw [← hm]; exact read_any hrd hLs (by omega) hn0 hn1))
      have HES := Lib.hid (And.intro hes hle)
      have HM := Lib.hid hm
      have hpos := encN_pos n
      clear hA' hrd hml hdr hLs htk hes hle hM hm hmN hni hpos
      have HMS := Lib.hid hms
      clear hms
      go_wp2_with fail
      refine (HCA.out _ rfl).mono ?_
      rintro e w' ⟨rfl, (⟨hq1, rfl⟩ | ⟨hq1, hq2, rfl⟩ | ⟨hq1, rfl⟩)⟩
      · have hf : L1.length < (encs ns).length := by
          have h1 := HMS.out
          have h2 := HM.out
          have h3 := HN1.out
          have h4 := HS.out
          have h5 := HES.out
          have h6 := encN_pos n
          rw [hq1] at h2
          simp only [List.length_nil] at h2
          omega
        have HF := Lib.hid hf
        clear hq1 hf
        go_wp2
        exact bodyPost_ret (v := .tuple #[.int .u8 0, .slice none 0 0, .int .i64 0, .int .i64 2]) (by simp [results, Try.results27, go_sem]) rfl ⟨HBL.out, .inl ⟨HF.out, rfl⟩⟩
      · have hf : L1.length < (encs ns).length := by
          have h1 := HMS.out
          have h2 := HM.out
          have h3 := HN1.out
          have h4 := HS.out
          have h5 := HES.out
          omega
        have HF := Lib.hid hf
        clear hq1 hq2 hf
        go_wp2
        exact bodyPost_ret (v := .tuple #[.int .u8 0, .slice none 0 0, .int .i64 0, .int .i64 2]) (by simp [results, Try.results27, go_sem]) rfl ⟨HBL.out, .inl ⟨HF.out, rfl⟩⟩
      · obtain ⟨z, hz⟩ : ∃ z, (encN n).length = z := ⟨_, rfl⟩
        have hs2 : s + z = 1 + (encs (ns.take (i + 1))).length := by have h5 := HES.out.1; have h4 := HS.out; omega
        have hs3 : s + z ≤ N := by have h1 := HMS.out; have h2 := HM.out; have h7 := encN_pos n; omega
        have hz10 : z ≤ 10 := by rw [← hz]; exact encN_len hn0 hn1
        have hst : wr.cell? ⟨w.heap.size, i, none⟩ = some (.int .i64 0) := by
          rw [HBK.out.at_, List.getElem?_toArray, List.getElem?_map, fillN_at ns i (by rw [HK.out]; exact hik)]; rfl
        have hfr := HBK.out.free i
        rw [hz]
        have HS2 := Lib.hid hs2
        have HZ := Lib.hid hz
        clear hs2 hz hq1 hsl
        go_wp2
        go_roundw
        case rel =>
          refine ⟨i + 1, s + z, by omega, by go_num, by go_num, HS2.out, hs3, ?_, HBL.out.setCell (Nat.le_refl _) _⟩
          have h := HBK.out.set_ i (.int .i64 n)
          have hlt : i < ns.length := by rw [HK.out]; exact hik
          have e : ((fillN ns i).map (Value.int .i64)).toArray.setIfInBounds i (.int .i64 n) = ((fillN ns (i + 1)).map (Value.int .i64)).toArray := by
            have e1 := List.getElem?_eq_getElem hlt
            rw [HNI.out] at e1
            injection e1 with e1
            rw [← fillN_set ns i hlt, ← e1, List.map_set]
            simp
          rw [← e]; exact h
        case measure => simp [intOf]; omega
    · obtain rfl : i = k := by omega
      have hc0 : wr.cell? ⟨b, off, none⟩ = some (.int .u8 kd) := by
        have h1 := HC.out 0 kd rfl
        rw [Nat.add_zero] at h1
        exact (HBL.out.cell hbw).trans h1
      have hN0 : 0 < N := by have := HN1.out; omega
      go_wp2
      have hbk := HBK.out
      rw [← HK.out, fillN_all] at hbk
      have hs := HS.out
      rw [← HK.out, List.take_length] at hs
      refine bodyPost_ret (v := .tuple #[.int .u8 kd, .slice (some ⟨w.heap.size, 0, none⟩) i i, .int .i64 (s : Int), .int .i64 0]) (by simp [results, Try.results27, go_sem]) rfl ⟨HBL.out, .inr ⟨by have := HN1.out; omega, w.heap.size, by rw [HK.out, hs], Nat.le_refl _, hbk⟩⟩
end Go.Proofs.Ytmnkmnnngfgbgaa
