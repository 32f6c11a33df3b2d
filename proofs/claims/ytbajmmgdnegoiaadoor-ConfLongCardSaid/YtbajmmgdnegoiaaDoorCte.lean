/- A config as text: the program's. -/
import Derived.Test.YtbajmmgdnegoiaaDoorCtd
import Derived.Test.YtbajmmgdnegoiaaDoorCnj
namespace Go.Proofs.YtbajmmgdnegoiaaDoor
open Go.ChangeShapes Go.WideShapes Go.ChangeAt Go.RowKit Kn
set_option linter.unusedVariables false
set_option linter.unusedSimpArgs false
theorem fr1_or : ∀ i, i < 16 → fr1 i = 47 ∨ fr1 i = 49 ∨ fr1 i = 51 := by decide +kernel
set_option maxHeartbeats 1000000 in
theorem fread_at (i : Nat) (hi : i < 16) (g : Nat) (p : Addr) (n : Int) (w : World) (hg : w.cell? ⟨g, 0, none⟩ = some (.pointer (some p))) (hp : w.cell? p = some (.int .i64 n)) :
    Calls Tryd.prog (fr1 i) #[.pointer (some ⟨g, 0, none⟩)] w fun e w' => e = .returned (.int .i64 n) ∧ w = w' := by
  rcases fr1_or i hi with h | h | h <;> rw [h]
  · exact fread_int g p n w hg hp
  · exact fread_i64 g p n w hg hp
  · exact fread_q g p n w hg hp
/-- What the program's text leans on under way. -/
structure TxAt (w0 w : World) (gf gc : Nat) (bx : Nat → Nat) (v : Nat → Int) : Prop where
  p : PAt w gf gc bx (fun _ => false) v
  b : Below w0.heap.size w0 w
theorem TxAt.below {w0 w w' : World} {gf gc : Nat} {bx : Nat → Nat} {v : Nat → Int} (h : TxAt w0 w gf gc bx v) (hb : Below w.heap.size w w') : TxAt w0 w' gf gc bx v := ⟨h.p.below hb, h.b.trans (hb.mono h.b.size)⟩
theorem TxAt.drew_ {w0 w : World} {gf gc : Nat} {bx : Nat → Nat} {v : Nat → Int} (h : TxAt w0 w gf gc bx v) : TxAt w0 w.drew gf gc bx v := h.below (Below.refl _ _).drew
set_option maxRecDepth 20000 in
set_option maxHeartbeats 4000000 in
theorem text_any (c : Cf) (hc : c.ok) (w : World) (hs : Std w) :
    Calls Tryd.prog 20 #[c.v] w fun e w' => e = .returned (.string (txtK (vOf c) 16)) ∧ Below w.heap.size w w' := by
  have hv := vOf_fits hc
  have hcl : (cfL c).toArray = (cfgL (vOf c)).toArray := by rw [cfL_vOf]
  obtain ⟨v, hvv⟩ : ∃ v, vOf c = v := ⟨_, rfl⟩
  rw [hvv] at hv hcl ⊢
  have HV := Lib.hid hv
  have HC := Lib.hid hcl
  have HS := Lib.hid hs
  clear hv hcl hvv hc hs
  go_enter Tryd.func20, Tryd.ntmps20
  go_upto_region 1 with fail
  refine wp_worldx (fun wx => Blk wx w.heap.size 24 (cfgL v).toArray ∧ Below w.heap.size w wx) ⟨by rw [← HC.out]; exact Blk.made _ _ _, (Below.refl _ _).alloc (Nat.le_refl _) _⟩ ?_
  rintro x1 ⟨hg, hb⟩
  have HG := Lib.hid hg
  have HB := Lib.hid hb
  clear hg hb
  go_wp2_with fail
  refine (fields_any w.heap.size x1).mono ?_
  rintro e x2 ⟨gf, bx, rfl, -, -, hf, hb2⟩
  have HT := Lib.hid (show TxAt w x2 gf w.heap.size bx v from ⟨⟨hf, HG.out.below_ hb2 HG.out.size⟩, HB.out.trans (hb2.mono HB.out.size)⟩)
  clear hf hb2 HG HB
  go_wp2_with fail
  go_loopw [3, 8] (fun s3 s8 wr => ∃ k : Nat, k ≤ 16 ∧ s3 = .string (txtK v k) ∧ s8 = .int .i64 (k : Int) ∧ TxAt w wr gf w.heap.size bx v) (fun _ s8 _ => 17 - (intOf s8).toNat)
  case atStart => exact ⟨0, by omega, rfl, rfl, HT.out⟩
  case round =>
    obtain ⟨k, hk, rfl, rfl, ht⟩ := hrel
    have HT := Lib.hid ht
    clear ht
    by_cases hk16 : k < 16
    · have c0 := HT.out.p.f.name hk16
      have c1 := HT.out.p.f.read hk16
      have c2 := HT.out.p.f.write hk16
      have c3 := HT.out.p.f.seen hk16
      have hp := piece_len v HV.out k hk16
      have hl := txt_len v HV.out k hk
      have hx := txt_next v k
      have hD := decimal_any (v k) (HV.out k hk16).1 (HV.out k hk16).2
      obtain ⟨T, hT⟩ : ∃ T, txtK v k = T := ⟨_, rfl⟩
      obtain ⟨M, hM⟩ : ∃ M, fnm k = M := ⟨_, rfl⟩
      obtain ⟨D, hDD⟩ : ∃ D, itoaB (v k) = D := ⟨_, rfl⟩
      rw [hT, hM, hDD] at hx
      rw [hM, hDD] at hp
      rw [hT] at hl
      rw [hM] at c0
      rw [hDD] at hD
      rw [hT]
      have a1 : (M ++ ⟨#[32]⟩).size = M.size + 1 := by rw [ByteArray.size_append]; rfl
      have a2 : (M ++ ⟨#[32]⟩ ++ D).size = M.size + 1 + D.size := by rw [ByteArray.size_append, a1]
      have a3 : (M ++ ⟨#[32]⟩ ++ D ++ ⟨#[10]⟩).size = M.size + 1 + D.size + 1 := by rw [ByteArray.size_append, a2]; rfl
      have b0 : (⟨#[32]⟩ : ByteArray).size = 1 := rfl
      have b1 : (⟨#[10]⟩ : ByteArray).size = 1 := rfl
      have q1 : ¬ 9223372036854775807 < M.size + (⟨#[32]⟩ : ByteArray).size := by omega
      have q2 : ¬ 9223372036854775807 < (M ++ ⟨#[32]⟩).size + D.size := by omega
      have q3 : ¬ 9223372036854775807 < (M ++ ⟨#[32]⟩ ++ D).size + (⟨#[10]⟩ : ByteArray).size := by omega
      have q4 : ¬ 9223372036854775807 < T.size + (M ++ ⟨#[32]⟩ ++ D ++ ⟨#[10]⟩).size := by omega
      have r1 : ¬ 9223372036854775807 < M.size + 1 := by omega
      have r2 : ¬ 9223372036854775807 < M.size + 1 + D.size := by omega
      have r3 : ¬ 9223372036854775807 < M.size + 1 + D.size + 1 := by omega
      have r4 : ¬ 9223372036854775807 < T.size + (M.size + 1 + D.size + 1) := by omega
      have k1 : decide ((k : Int) < 16) = true := by simp; omega
      have k2 : IntKind.i64.wrap ((k : Int) + 1) = (k : Int) + 1 := IntWalk.i64_in _ (by omega)
      have k0 : (0 : Int) ≤ (k : Int) := by omega
      have k3 : (k : Int) < 16 := by omega
      have HX := Lib.hid hx
      have HD := Lib.hid hD
      clear hx hD hT hM hDD hp hl a1 a2 a3 b0 b1
      rcases fr1_or k hk16 with hfr | hfr | hfr
      · have hst := store_fn
        rw [hfr] at c1
        go_upto_region 5 with fail
        clear hst
        refine wp_worldx (fun wx => (wx.cell? ⟨wr.heap.size, 0, none⟩ = some (.string M) ∧ wx.cell? ⟨wr.heap.size, 1, none⟩ = some (.func (.func 47) #[] #[.pointer (some ⟨bx k, 0, none⟩)])) ∧ TxAt w wx gf w.heap.size bx v) ⟨⟨(Blk.made _ _ _).val (i := 0) rfl, (Blk.made _ _ _).val (i := 1) rfl⟩, HT.out.below ((Below.refl _ _).alloc (Nat.le_refl _) _)⟩ ?_
        rintro x3 ⟨⟨d0, d1⟩, ht3⟩
        have HT3 := Lib.hid ht3
        have d2 : x3.cell? ⟨bx k, 0, none⟩ = some (.pointer (some ⟨w.heap.size, k, none⟩)) := (ht3.p.f.boxes k hk16).val (i := 0) rfl
        have d3 := ht3.p.val hk16
        clear ht3 c0 c1 c2 c3 HT hfr
        (go_region_held3 (fun w' => w'.cell? ⟨wr.heap.size, 0, none⟩ = some (.string M) ∧ w'.cell? ⟨wr.heap.size, 1, none⟩ = some (.func (.func 47) #[] #[.pointer (some ⟨bx k, 0, none⟩)]) ∧ w'.cell? ⟨bx k, 0, none⟩ = some (.pointer (some ⟨w.heap.size, k, none⟩)) ∧ w'.cell? ⟨w.heap.size, k, none⟩ = some (.int .i64 (v k)))
          ((repeat (first | with_reducible assumption | refine ⟨?_, ?_⟩ | with_reducible refine kdrew ?_ | with_reducible refine cell_later hb ?_)))
          (first
            | (go_at_call 47; refine (fread_int (bx k) ⟨w.heap.size, k, none⟩ (v k) _ (by assumption) (by assumption)).mono ?_; rintro e w1 ⟨rfl, rfl⟩)
            | (go_at_call 32; refine (HD.out _ (HS.out.below HT3.out.drew_.b)).mono ?_; rintro e w1 ⟨rfl, hb⟩; replace HT3 := Lib.hid (HT3.out.drew_.below hb))))
        all_goals
          go_wp2_with fail
          go_roundw
          case rel => exact ⟨k + 1, by omega, by rw [← HX.out], by go_num, HT3.out⟩
          case measure => simp [intOf]; omega
      · have hst := store_fn
        rw [hfr] at c1
        go_upto_region 5 with fail
        clear hst
        refine wp_worldx (fun wx => (wx.cell? ⟨wr.heap.size, 0, none⟩ = some (.string M) ∧ wx.cell? ⟨wr.heap.size, 1, none⟩ = some (.func (.func 49) #[] #[.pointer (some ⟨bx k, 0, none⟩)])) ∧ TxAt w wx gf w.heap.size bx v) ⟨⟨(Blk.made _ _ _).val (i := 0) rfl, (Blk.made _ _ _).val (i := 1) rfl⟩, HT.out.below ((Below.refl _ _).alloc (Nat.le_refl _) _)⟩ ?_
        rintro x3 ⟨⟨d0, d1⟩, ht3⟩
        have HT3 := Lib.hid ht3
        have d2 : x3.cell? ⟨bx k, 0, none⟩ = some (.pointer (some ⟨w.heap.size, k, none⟩)) := (ht3.p.f.boxes k hk16).val (i := 0) rfl
        have d3 := ht3.p.val hk16
        clear ht3 c0 c1 c2 c3 HT hfr
        (go_region_held3 (fun w' => w'.cell? ⟨wr.heap.size, 0, none⟩ = some (.string M) ∧ w'.cell? ⟨wr.heap.size, 1, none⟩ = some (.func (.func 49) #[] #[.pointer (some ⟨bx k, 0, none⟩)]) ∧ w'.cell? ⟨bx k, 0, none⟩ = some (.pointer (some ⟨w.heap.size, k, none⟩)) ∧ w'.cell? ⟨w.heap.size, k, none⟩ = some (.int .i64 (v k)))
          ((repeat (first | with_reducible assumption | refine ⟨?_, ?_⟩ | with_reducible refine kdrew ?_ | with_reducible refine cell_later hb ?_)))
          (first
            | (go_at_call 49; refine (fread_i64 (bx k) ⟨w.heap.size, k, none⟩ (v k) _ (by assumption) (by assumption)).mono ?_; rintro e w1 ⟨rfl, rfl⟩)
            | (go_at_call 32; refine (HD.out _ (HS.out.below HT3.out.drew_.b)).mono ?_; rintro e w1 ⟨rfl, hb⟩; replace HT3 := Lib.hid (HT3.out.drew_.below hb))))
        all_goals
          go_wp2_with fail
          go_roundw
          case rel => exact ⟨k + 1, by omega, by rw [← HX.out], by go_num, HT3.out⟩
          case measure => simp [intOf]; omega
      · have hst := store_fn
        rw [hfr] at c1
        go_upto_region 5 with fail
        clear hst
        refine wp_worldx (fun wx => (wx.cell? ⟨wr.heap.size, 0, none⟩ = some (.string M) ∧ wx.cell? ⟨wr.heap.size, 1, none⟩ = some (.func (.func 51) #[] #[.pointer (some ⟨bx k, 0, none⟩)])) ∧ TxAt w wx gf w.heap.size bx v) ⟨⟨(Blk.made _ _ _).val (i := 0) rfl, (Blk.made _ _ _).val (i := 1) rfl⟩, HT.out.below ((Below.refl _ _).alloc (Nat.le_refl _) _)⟩ ?_
        rintro x3 ⟨⟨d0, d1⟩, ht3⟩
        have HT3 := Lib.hid ht3
        have d2 : x3.cell? ⟨bx k, 0, none⟩ = some (.pointer (some ⟨w.heap.size, k, none⟩)) := (ht3.p.f.boxes k hk16).val (i := 0) rfl
        have d3 := ht3.p.val hk16
        clear ht3 c0 c1 c2 c3 HT hfr
        (go_region_held3 (fun w' => w'.cell? ⟨wr.heap.size, 0, none⟩ = some (.string M) ∧ w'.cell? ⟨wr.heap.size, 1, none⟩ = some (.func (.func 51) #[] #[.pointer (some ⟨bx k, 0, none⟩)]) ∧ w'.cell? ⟨bx k, 0, none⟩ = some (.pointer (some ⟨w.heap.size, k, none⟩)) ∧ w'.cell? ⟨w.heap.size, k, none⟩ = some (.int .i64 (v k)))
          ((repeat (first | with_reducible assumption | refine ⟨?_, ?_⟩ | with_reducible refine kdrew ?_ | with_reducible refine cell_later hb ?_)))
          (first
            | (go_at_call 51; refine (fread_q (bx k) ⟨w.heap.size, k, none⟩ (v k) _ (by assumption) (by assumption)).mono ?_; rintro e w1 ⟨rfl, rfl⟩)
            | (go_at_call 32; refine (HD.out _ (HS.out.below HT3.out.drew_.b)).mono ?_; rintro e w1 ⟨rfl, hb⟩; replace HT3 := Lib.hid (HT3.out.drew_.below hb))))
        all_goals
          go_wp2_with fail
          go_roundw
          case rel => exact ⟨k + 1, by omega, by rw [← HX.out], by go_num, HT3.out⟩
          case measure => simp [intOf]; omega
    · have e : k = 16 := by omega
      subst e
      have k1 : decide (((16 : Nat) : Int) < 16) = false := by decide
      go_wp2_with fail
      go_ret
      exact ⟨rfl, HT.out.b⟩
end Go.Proofs.YtbajmmgdnegoiaaDoor
