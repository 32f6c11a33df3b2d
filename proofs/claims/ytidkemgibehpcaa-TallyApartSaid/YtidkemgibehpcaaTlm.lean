/- The law's filled; rows of counts compared; the document's example. -/
import Derived.Test.YtidkemgibehpcaaTll
import Derived.Test.YtidkemgibehpcaaTlj
namespace Go.Proofs.Ytidkemgibehpcaa
open Go.RowKit
set_option linter.unusedVariables false
set_option linter.unusedSimpArgs false
section
variable {w : World} {B : Nat} {A : Option Addr} {len cap : Nat} {Q : Nat → Oc}
theorem kept_below_log {w w' : World} {base p : Nat} {r : Option Nat} {L : List Oc} (hk : Kept (fun k => k = p ∨ r = some k) w w') (h : LogAt base w p r L) (hp : base ≤ p) (hb : base ≤ w.heap.size) : Below base w w' :=
  hk.below (fun k hk => by
    rcases hk with rfl | hk
    · exact hp
    · exact (h.row hk).1) hb
set_option maxRecDepth 20000 in
set_option maxHeartbeats 4000000 in
theorem lfilled (w : World) (h : SeqAt w B A len 6 fun i => ocRow (Q i)) (hB : B ≤ w.heap.size) (hlc : len ≤ cap) (hcm : cap ≤ maxLen) :
    Calls Try.prog 8 #[.slice A len cap] w fun e w' => ∃ p r v, e = .returned (.tuple #[.pointer (some ⟨p, 0, none⟩), v]) ∧ w.heap.size ≤ p ∧ LogAt w.heap.size w' p r (takeF Q (min len 60)) ∧ OwO rT w' w.heap.size v (takeF Q (min len 60)) ∧ Below w.heap.size w w' := by
  obtain ⟨n, hn⟩ : ∃ n, min len 60 = n := ⟨_, rfl⟩
  rw [hn]
  have hr := rd_takeF (k := n) h (by omega)
  obtain ⟨L, hL⟩ : ∃ L, takeF Q n = L := ⟨_, rfl⟩
  have hLn : L.length = n := by rw [← hL, takeF_len]
  rw [hL] at hr ⊢
  have HR := Lib.hid hr
  have HLN := Lib.hid hLn
  have hmin : min (len : Int) 60 = (n : Int) := by omega
  have hn60 : n ≤ 60 := by omega
  have hnl : n ≤ len := by omega
  have hnc : n ≤ cap := by omega
  have hown := lown (c := cap) (L := L) (A := A) (B := B)
  rw [hLn] at hown
  have HOWN := Lib.hid hown
  unfold maxLen at hcm
  clear h hr hL hLn hown hn
  go_enter Try.func8, Try.ntmps8
  go_wp2_with (go_at_call 24; refine (tnew (base := w.heap.size) _ (Nat.le_refl _)).mono ?_; rintro e w1 ⟨rfl, hl1, hb1, hz1⟩; have HL1 := Lib.hid hl1; have HB1 := Lib.hid hb1; clear hl1 hb1)
  go_loopw [15] (fun s15 wr => ∃ (k : Nat) (r : Option Nat), k ≤ n ∧ s15 = .int .i64 (k : Int) ∧ LogAt w.heap.size wr w.heap.size r (L.take k) ∧ Below w.heap.size w wr) (fun s _ => n - (intOf s).toNat)
  case atStart => exact ⟨0, none, Nat.zero_le _, rfl, HL1.out, HB1.out⟩
  case round =>
    obtain ⟨k, r, hk, rfl, hlog, hb⟩ := hrel
    have hsz := hb.size
    have HLG := Lib.hid hlog
    have HB := Lib.hid hb
    by_cases hkn : k < n
    · have hkL : k < L.length := by rw [HLN.out]; exact hkn
      have hts := take_snoc_ hkL
      obtain ⟨g, off, rfl, hg, r0, r1, r2, r3, r4, r5⟩ := RdO.cells (SeqAt.below HR.out (hb.mono hB)) hkL
      obtain ⟨⟨ya, yb, yc, yd, ye, yf⟩, hy⟩ : ∃ y, L[k]! = y := ⟨_, rfl⟩
      rw [hy] at r0 r1 r2 r3 r4 r5 hts
      simp only at r0 r1 r2 r3 r4 r5
      have HTS := Lib.hid hts
      have HLT := Lib.hid (show (L.take k).length ≤ 1000 by rw [List.length_take]; omega)
      have k0 : (0 : Int) ≤ (k : Int) := by omega
      have k1 : (k : Int) < (n : Int) := by omega
      clear hlog hb hts hy
      go_wp2_with (go_at_call 23; refine (tadd ⟨ya, yb, yc, yd, ye, yf⟩ _ (HLG.out.below ((Below.refl _ _).alloc (Nat.le_refl _) _)) HLT.out (by simp; omega)).mono ?_; rintro e w2 ⟨rfl, r2, hr2, hl2, hk2⟩; rw [← HTS.out] at hl2; have hb2 := (HB.out.alloc hsz _).trans (kept_below_log hk2 (HLG.out.below ((Below.refl _ _).alloc (Nat.le_refl _) _)) (Nat.le_refl _) (by simp; omega)); have HL2 := Lib.hid hl2; have HB2 := Lib.hid hb2; clear hl2 hb2 hk2 hr2)
      exact ⟨⟨k + 1, r2, by omega, by go_num, HL2.out, HB2.out⟩, by simp [intOf]; omega⟩
    · obtain rfl : k = n := by omega
      have htk : L.take k = L := List.take_of_length_le (by rw [HLN.out]; exact Nat.le_refl _)
      rw [htk] at hlog
      have HLG2 := Lib.hid hlog
      clear hlog hb htk
      go_wp2_with (go_at_call 17; refine (HOWN.out _ (SeqAt.below HR.out (HB.out.mono hB)) (by omega) (by omega)).mono ?_; rintro e w3 ⟨v3, rfl, ho3, hb3⟩; obtain ⟨A3, c3, rfl, -⟩ := ho3.rd; have HO3 := Lib.hid ho3; have HB3 := Lib.hid hb3; clear ho3 hb3)
      go_ret2
      exact ⟨_, r, _, rfl, Nat.le_refl _, HLG2.out.below HB3.out, own_le HO3.out hsz, HB.out.trans (HB3.out.mono hsz)⟩
end
end Go.Proofs.Ytidkemgibehpcaa
