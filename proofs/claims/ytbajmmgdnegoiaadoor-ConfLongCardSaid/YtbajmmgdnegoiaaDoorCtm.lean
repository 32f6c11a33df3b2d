/- The document's Parse: its error. -/
import Derived.Test.YtbajmmgdnegoiaaDoorCtk
import Derived.Test.YtbajmmgdnegoiaaDoorCnt
import Derived.Test.YtbajmmgdnegoiaaDoorCti
namespace Go.Proofs.YtbajmmgdnegoiaaDoor
open Go.ChangeShapes Go.WideShapes Go.ChangeAt Go.RowKit Kn
set_option linter.unusedVariables false
set_option linter.unusedSimpArgs false
/-- What Parse leans on under way: the parts, which of them were seen, the lines. -/
structure PrAt (w0 w : World) (gl gs g : Nat) (L : List (List UInt8)) (sn : Nat → Bool) (v : Nat → Int) : Prop where
  l : Blk w gl 2 (cfgL v).toArray
  s : Blk w gs 73 (seenL sn).toArray
  r : ∃ cs, Blk w g sT cs ∧ ∀ i, i < L.length → cs[i]? = (strs L)[i]?
  ne : gl ≠ gs ∧ gl ≠ g ∧ gs ≠ g
  lo : w0.heap.size ≤ gl ∧ w0.heap.size ≤ gs ∧ w0.heap.size ≤ g
  be : Below w0.heap.size w0 w
section
variable {w0 w w' : World} {gl gs g : Nat} {L : List (List UInt8)} {sn : Nat → Bool} {v : Nat → Int}
theorem PrAt.below (h : PrAt w0 w gl gs g L sn v) (hb : Below w.heap.size w w') : PrAt w0 w' gl gs g L sn v := by
  obtain ⟨cs, h1, h2⟩ := h.r
  exact ⟨h.l.below_ hb h.l.size, h.s.below_ hb h.s.size, ⟨cs, h1.below_ hb h1.size, h2⟩, h.ne, h.lo, h.be.trans (hb.mono h.be.size)⟩
theorem PrAt.row (h : PrAt w0 w gl gs g L sn v) {i : Nat} (hi : i < L.length) : w.cell? ⟨g, i, none⟩ = some (.string (mkT L[i])) := by
  obtain ⟨cs, h1, h2⟩ := h.r
  refine h1.val ?_
  rw [h2 i hi]
  unfold strs
  rw [List.getElem?_map, List.getElem?_eq_getElem hi]
  rfl
theorem PrAt.put (h : PrAt w0 w gl gs g L sn v) (i : Nat) (n : Int) : PrAt w0 ((w.setCell ⟨gl, i, none⟩ (.int .i64 n)).setCell ⟨gs, i, none⟩ (.bool true)) gl gs g L (setB sn i true) (setI v i n) := by
  obtain ⟨cs, h1, h2⟩ := h.r
  have a1 := h.l.set_ i (.int .i64 n)
  rw [cfgL_set] at a1
  have a2 := (h.s.far (p := ⟨gl, i, none⟩) (.int .i64 n) (Ne.symm h.ne.1)).set_ i (.bool true)
  rw [seenL_set] at a2
  exact ⟨a1.far _ h.ne.1, a2, ⟨cs, (h1.far _ (Ne.symm h.ne.2.1)).far _ (Ne.symm h.ne.2.2), h2⟩, h.ne, h.lo, (h.be.setCell h.lo.1 _).setCell h.lo.2.1 _⟩
end
set_option maxRecDepth 20000 in
set_option maxHeartbeats 8000000 in
theorem rparse (s : ByteArray) (hs : s.size ≤ 20000) (w : World) : Calls Tryd.prog 24 #[.string s] w fun e w' => (∃ lv : Value, e = .returned (.tuple #[lv, .int .i64 (endE (rlinesE (linesF s.data.toList) (fun _ => false) dfv))])) ∧ Below w.heap.size w w' := by
  obtain ⟨L, hL⟩ : ∃ L, linesF s.data.toList = L := ⟨_, rfl⟩
  have hll : L.length ≤ 20001 := by
    obtain ⟨o, x, e1, e2, -⟩ := linesF_last s.data.toList
    rw [← hL, e1, List.length_append]
    rw [lst_size] at e2
    simp
    omega
  have hl0 : 0 < L.length := by
    obtain ⟨o, x, e1, -, -⟩ := linesF_last s.data.toList
    rw [← hL, e1, List.length_append]
    simp
  have hlx : ∀ i (h : i < L.length), L[i].length ≤ 20000 := fun i h => by
    have := lines_each s.data.toList L[i] (by rw [hL]; exact List.getElem_mem h)
    rw [lst_size] at this
    omega
  have hLn := rlines s (by omega)
  rw [hL] at hLn
  rw [hL]
  obtain ⟨R, hR⟩ : ∃ R, rlinesE L (fun _ => false) dfv = R := ⟨_, rfl⟩
  rw [hR]
  have HLN := Lib.hid hLn
  have HLX := Lib.hid hlx
  have HR := Lib.hid hR
  have h20 : ¬ 20000 < (s.size : Int) := by omega
  have h20' : decide (20000 < (s.size : Int)) = false := decide_eq_false h20
  clear hLn hlx hR hL
  go_enter Tryd.func24, Tryd.ntmps24
  go_wp2_with fail
  refine (rdefault _).mono ?_
  rintro e x1 ⟨rfl, hd, hb1⟩
  have HD := Lib.hid (show Blk x1 w.heap.size 2 (cfgL dfv).toArray from hd)
  have HB1 := Lib.hid hb1
  clear hd hb1
  go_upto_region 5 with fail
  refine wp_worldx (fun wx => Blk wx w.heap.size 2 (cfgL dfv).toArray ∧ Blk wx x1.heap.size 73 (seenL (fun _ => false)).toArray ∧ Below w.heap.size w wx) ⟨HD.out.alloc_ _, Blk.made _ _ _, HB1.out.alloc HB1.out.size _⟩ ?_
  rintro x2 ⟨hd2, hs2, hb2⟩
  have HD2 := Lib.hid hd2
  have HS2 := Lib.hid hs2
  have HB2 := Lib.hid hb2
  have hne : w.heap.size < x1.heap.size := HD.out.size
  clear hd2 hs2 hb2 HD HB1
  go_wp2_with fail
  refine (HLN.out _).mono ?_
  rintro e x3 ⟨lv, rfl, hrow, hb3⟩
  obtain ⟨g, lcap, cur, rfl, hg2, hcap1, hcap2, hblk, hcur⟩ := own_rows hrow hl0
  unfold maxLen at hcap2
  have HP := Lib.hid (show PrAt w x3 w.heap.size x1.heap.size g L (fun _ => false) dfv from ⟨HD2.out.below_ hb3 HD2.out.size, HS2.out.below_ hb3 HS2.out.size, ⟨cur, hblk, hcur⟩, ⟨Nat.ne_of_lt hne, Nat.ne_of_lt (Nat.lt_of_lt_of_le HD2.out.size hg2), Nat.ne_of_lt (Nat.lt_of_lt_of_le HS2.out.size hg2)⟩, ⟨Nat.le_refl _, by omega, by have := HD2.out.size; omega⟩, HB2.out.trans (hb3.mono (Nat.le_of_lt HD2.out.size))⟩)
  clear hrow hb3 hblk hcur HD2 HS2 HB2
  have HR0 := Lib.hid (show rlinesE (L.drop 0) (fun _ => false) dfv = R from HR.out)
  go_wp2_with fail
  go_loopw [21] (fun s21 wr => ∃ (j : Nat) (sn : Nat → Bool) (v : Nat → Int), j ≤ L.length ∧ s21 = .int .i64 (j : Int) ∧ rlinesE (L.drop j) sn v = R ∧ PrAt w wr w.heap.size x1.heap.size g L sn v) (fun s _ => 20002 - (intOf s).toNat)
  case atStart => exact ⟨0, _, _, Nat.zero_le _, rfl, HR0.out, HP.out⟩
  case round =>
    clear HR0 HR HP
    obtain ⟨j, sn, v, hj, rfl, hRj, hp⟩ := hrel
    have HP := Lib.hid hp
    clear hp
    have j0 : (0 : Int) ≤ (j : Int) := by omega
    have jw : IntKind.i64.wrap ((j : Int) + 1) = (j : Int) + 1 := IntWalk.i64_in _ (by omega)
    by_cases hjl : j < L.length
    · have j1 : (j : Int) < (L.length : Int) := by omega
      have c0 := HP.out.row hjl
      have hxl := HLX.out j hjl
      rw [List.drop_eq_getElem_cons hjl] at hRj
      obtain ⟨x, hx⟩ : ∃ x, L[j] = x := ⟨_, rfl⟩
      rw [hx] at c0 hxl hRj
      clear hx
      have hxsa : (mkT x).size ≤ x.length := Nat.le_of_eq (mkT_size x)
      have hxsb : x.length ≤ (mkT x).size := Nat.le_of_eq (mkT_size x).symm
      cases hn : noteL (mkT x) with
      | true =>
        rw [rlinesE] at hRj
        have ha : applyE (mkT x) sn v = (0, sn, v) := by unfold applyE; rw [if_pos hn]
        rw [ha] at hRj
        simp only [if_true] at hRj
        have HRN := Lib.hid hRj
        clear hRj ha
        by_cases hz : 0 < (mkT x).size
        · have e1 : (mkT x).toList.isEmpty = false := by
            rw [ByteArray.toList_eq]
            cases hl : (mkT x).data.toList with
            | nil => have := lst_size (mkT x); rw [hl] at this; simp at this; omega
            | cons a l => rfl
          unfold noteL at hn
          rw [dif_pos hz] at hn
          go_wp2_with fail
          go_roundw
          case rel => exact ⟨j + 1, sn, v, by omega, by go_num, HRN.out, HP.out⟩
          case measure => simp [intOf]; omega
        · have hx0 : mkT x = ⟨#[]⟩ := by
            apply ByteArray.ext
            exact Array.eq_empty_of_size_eq_zero (by have : (mkT x).data.size = (mkT x).size := rfl; omega)
          rw [hx0] at c0
          have e1 : (⟨#[]⟩ : ByteArray).toList.isEmpty = true := by rw [ByteArray.toList_eq]; rfl
          go_wp2_with fail
          go_roundw
          case rel => exact ⟨j + 1, sn, v, by omega, by go_num, HRN.out, HP.out⟩
          case measure => simp [intOf]; omega
      | false =>
        obtain ⟨hz0, hq1, e1⟩ := not_note hn
        have hxs1 : (mkT x).size ≤ 20000 := by omega
        obtain ⟨wo, hwo⟩ : ∃ wo, wo = wr := ⟨_, rfl⟩
        subst hwo
        go_wp2_with fail
        go_loopw [8] (fun s8 wz => ∃ k : Nat, s8 = .int .i64 (k : Int) ∧ spR x k ∧ wz = wo) (fun s _ => 20001 - (intOf s).toNat)
        case atStart => exact ⟨0, rfl, ⟨Nat.zero_le _, by simp⟩, rfl⟩
        case round =>
          obtain ⟨k, rfl, hsp, rfl⟩ := hrel
          have k0 : (0 : Int) ≤ (k : Int) := by omega
          have hkl := hsp.1
          by_cases hkx : k < x.length
          · have k1 : (k : Int) < ((mkT x).size : Int) := by omega
            have kw : IntKind.i64.wrap ((k : Int) + 1) = (k : Int) + 1 := IntWalk.i64_in _ (by omega)
            by_cases h32 : x[k] = 32
            · have HCUT := Lib.hid (sp_cut hsp hkx h32)
              have hb32 : ((((mkT x)[k]'(by omega)).toNat : Int) == 32) = true := by
                have : (mkT x)[k]'(by omega) = x[k] := rfl
                rw [this, h32]; rfl
              have h32 := hsp.2
              have hsl : (mkT x).extract 0 k = mkT (x.take k) := by rw [mkT_extract]; simp
              have kb1 : (k : Int) ≤ ((mkT x).size : Int) := by omega
              obtain ⟨nm, hnm⟩ : ∃ nm, mkT (x.take k) = nm := ⟨_, rfl⟩
              rw [hnm] at hsl
              go_wp2_with fail
              refine (rnames _).mono ?_
              rintro e x5 ⟨rfl, hn5, hb5⟩
              have HN5 := Lib.hid hn5
              have HP5 := Lib.hid (HP.out.below hb5)
              obtain ⟨gn, hgn⟩ : ∃ gn, wr.heap.size = gn := ⟨_, rfl⟩
              rw [hgn] at HN5 ⊢
              clear hn5 hb5 hgn HP
              go_wp2_with fail
              go_loopw [9, 46] (fun s9 s46 wz => ∃ m : Nat, m ≤ 16 ∧ s9 = .int .i64 (whE nm m) ∧ s46 = .int .i64 (m : Int) ∧ wz = x5) (fun _ s _ => 17 - (intOf s).toNat)
              case atStart => exact ⟨0, by omega, rfl, rfl, rfl⟩
              case round =>
                obtain ⟨m, hm, rfl, rfl, rfl⟩ := hrel
                have m0 : (0 : Int) ≤ (m : Int) := by omega
                have mw : IntKind.i64.wrap ((m : Int) + 1) = (m : Int) + 1 := IntWalk.i64_in _ (by omega)
                by_cases hm16 : m < 16
                · have m1 : (m : Int) < 16 := by omega
                  have d0 := HN5.out.val (nmL_at hm16)
                  have hw1 : whE nm (m + 1) = if fnm m = nm then (m : Int) else whE nm m := rfl
                  obtain ⟨M, hM⟩ : ∃ M, fnm m = M := ⟨_, rfl⟩
                  rw [hM] at d0 hw1
                  obtain ⟨q, hq⟩ : ∃ q, whE nm m = q := ⟨_, rfl⟩
                  rw [hq] at hw1
                  rw [hq]
                  clear hM hq
                  by_cases he : M = nm
                  · rw [if_pos he] at hw1
                    have HW1 := Lib.hid hw1
                    subst he
                    clear hw1
                    go_wp2_with fail
                    go_roundw
                    case rel => exact ⟨m + 1, by omega, by rw [HW1.out], by go_num, by trivial⟩
                    case measure => simp [intOf]; omega
                  · rw [if_neg he] at hw1
                    have HW1 := Lib.hid hw1
                    have heb := bytes_ne he
                    clear hw1
                    go_wp2_with fail
                    go_roundw
                    case rel => exact ⟨m + 1, by omega, by rw [HW1.out], by go_num, by trivial⟩
                    case measure => simp [intOf]; omega
                · have e : m = 16 := by omega
                  subst e
                  have m1 : ¬ (((16 : Nat) : Int) < 16) := by omega
                  obtain ⟨dg, hdg⟩ : ∃ dg, x.drop (k + 1) = dg := ⟨_, rfl⟩
                  have hsl2 : (mkT x).extract (k + 1) (mkT x).size = mkT dg := by rw [mkT_extract, mkT_size, List.take_of_length_le (by rw [List.length_drop]; omega), hdg]
                  have hres := apply_cut hn HCUT.out (h32 := h32) sn v
                  rw [hnm, hdg] at hres
                  have HRES := Lib.hid hres
                  have HRJ := Lib.hid hRj
                  have kk : ((k : Int) == ((mkT x).size : Int)) = false := by simp; omega
                  have hdl : (mkT dg).size ≤ 1000000 := by rw [mkT_size, ← hdg, List.length_drop]; omega
                  have kw : IntKind.i64.wrap ((k : Int) + 1) = (k : Int) + 1 := IntWalk.i64_in _ (by omega)
                  have kb2 : (k : Int) + 1 ≤ ((mkT x).size : Int) := by omega
                  have kb3 : ((k : Int) + 1).toNat = k + 1 := by omega
                  have kb4 : (0 : Int) ≤ (k : Int) + 1 := by omega
                  clear hres hRj hdg
                  cases hfi : fidx nm with
                  | none =>
                    have hq := wh_no hfi 16 (Nat.le_refl _)
                    rw [hq]
                    have hE : endE R = 9 := by
                      have h1 := HRES.out
                      rw [hfi] at h1
                      have h2 := HRJ.out
                      rw [rlinesE, h1] at h2
                      rw [← h2]; rfl
                    have HE := Lib.hid hE
                    clear hq hE
                    go_wp2_with fail
                    go_ret2
                    exact ⟨⟨_, by (rw [HE.out]; try rfl)⟩, HP5.out.be⟩
                  | some i =>
                    have hi16 := (fidx_some hfi).1
                    have hq := wh_yes hfi 16 (Nat.le_refl _)
                    rw [if_pos hi16] at hq
                    rw [hq]
                    have hi0 : (0 : Int) ≤ (i : Int) := by omega
                    have hi1 : (i : Int) < 16 := by omega
                    have dq : decide ((i : Int) < 0) = false := by simp
                    have dq2 : ¬ (i : Int) < 0 := by omega
                    have h1 := HRES.out
                    rw [hfi] at h1
                    have H1 := Lib.hid h1
                    have HFI := Lib.hid hfi
                    clear h1 hq hfi
                    go_wp2_with fail
                    refine (rnum (mkT dg) hdl _).mono ?_
                    rintro e x6 ⟨⟨n, b, rfl, hb, hv⟩, rfl⟩
                    rw [mkT_list] at hb hv
                    cases hnr : numR dg with
                    | none =>
                      rw [hnr] at hb
                      have hE : endE R = 9 := by
                        have h1 := H1.out
                        rw [hnr] at h1
                        have h2 := HRJ.out
                        rw [rlinesE, h1] at h2
                        rw [← h2]; rfl
                      have HE := Lib.hid hE
                      clear hE hv hnr
                      simp only [Option.isSome_none] at hb
                      subst hb
                      go_wp2_with fail
                      go_ret2
                      exact ⟨⟨_, by (rw [HE.out]; try rfl)⟩, HP5.out.be⟩
                    | some n2 =>
                      rw [hnr] at hb
                      have hn2 := hv n2 hnr
                      subst hn2
                      simp only [Option.isSome_some] at hb
                      subst hb
                      have h1 := H1.out
                      rw [hnr] at h1
                      simp only at h1
                      have s0 := HP5.out.s.val (seenL_at sn hi16)
                      clear hv hnr
                      cases hsn : sn i with
                      | true =>
                        rw [hsn] at s0 h1
                        simp only [if_true] at h1
                        have hE : endE R = 2 := by
                          have h2 := HRJ.out
                          rw [rlinesE, h1] at h2
                          rw [← h2]; rfl
                        have HE := Lib.hid hE
                        clear hE h1 hsn
                        go_wp2_with fail
                        go_ret2
                        exact ⟨⟨_, by (rw [HE.out]; try rfl)⟩, HP5.out.be⟩
                      | false =>
                        rw [hsn] at s0 h1
                        simp only [Bool.false_eq_true, if_false] at h1
                        have HN2 := Lib.hid (show rlinesE (L.drop (j + 1)) (setB sn i true) (setI v i n) = R by
                          have h2 := HRJ.out
                          rw [rlinesE, h1] at h2
                          exact h2)
                        have l0 := HP5.out.l.val (cfgL_at v hi16)
                        have zl : ∀ k, wr.frozen? ⟨w.heap.size, k, none⟩ = false := HP5.out.l.free
                        have zs : ∀ k, wr.frozen? ⟨x1.heap.size, k, none⟩ = false := HP5.out.s.free
                        have hput := Lib.hid (HP5.out.put i n)
                        have hne2 : ¬ x1.heap.size = w.heap.size := by omega
                        clear h1 hsn
                        go_wp2_with fail
                        go_roundw
                        case rel => exact ⟨j + 1, _, _, by omega, by go_num, HN2.out, hput.out⟩
                        case measure => simp [intOf]; omega
            · have hsp2 := sp_next hsp hkx h32
              have hb32 : ((((mkT x)[k]'(by omega)).toNat : Int) == 32) = false := by
                have e : (mkT x)[k]'(by omega) = x[k] := rfl
                rw [e]
                simp only [beq_eq_false_iff_ne, ne_eq]
                intro q
                exact h32 ((eq_byte x[k] 32 (by decide)).2 (by omega))
              go_wp2_with fail
              go_roundw
              case rel => exact ⟨k + 1, by go_num, hsp2, by trivial⟩
              case measure => simp [intOf]; omega
          · have k1 : ¬ (k : Int) < ((mkT x).size : Int) := by omega
            have hx32 : (32 : UInt8) ∉ x := by have := hsp.2; rwa [List.take_of_length_le (by omega)] at this
            have hsl : (mkT x).extract 0 k = mkT (x.take k) := by rw [mkT_extract]; simp
            have kb1 : (k : Int) ≤ ((mkT x).size : Int) := by omega
            obtain ⟨nm, hnm⟩ : ∃ nm, mkT (x.take k) = nm := ⟨_, rfl⟩
            rw [hnm] at hsl
            go_wp2_with fail
            refine (rnames _).mono ?_
            rintro e x5 ⟨rfl, hn5, hb5⟩
            have HN5 := Lib.hid hn5
            have HP5 := Lib.hid (HP.out.below hb5)
            obtain ⟨gn, hgn⟩ : ∃ gn, wr.heap.size = gn := ⟨_, rfl⟩
            rw [hgn] at HN5 ⊢
            clear hn5 hb5 hgn HP
            go_wp2_with fail
            go_loopw [9, 46] (fun s9 s46 wz => ∃ m : Nat, m ≤ 16 ∧ s9 = .int .i64 (whE nm m) ∧ s46 = .int .i64 (m : Int) ∧ wz = x5) (fun _ s _ => 17 - (intOf s).toNat)
            case atStart => exact ⟨0, by omega, rfl, rfl, rfl⟩
            case round =>
              obtain ⟨m, hm, rfl, rfl, rfl⟩ := hrel
              have m0 : (0 : Int) ≤ (m : Int) := by omega
              have mw : IntKind.i64.wrap ((m : Int) + 1) = (m : Int) + 1 := IntWalk.i64_in _ (by omega)
              by_cases hm16 : m < 16
              · have m1 : (m : Int) < 16 := by omega
                have d0 := HN5.out.val (nmL_at hm16)
                have hw1 : whE nm (m + 1) = if fnm m = nm then (m : Int) else whE nm m := rfl
                obtain ⟨M, hM⟩ : ∃ M, fnm m = M := ⟨_, rfl⟩
                rw [hM] at d0 hw1
                obtain ⟨q, hq⟩ : ∃ q, whE nm m = q := ⟨_, rfl⟩
                rw [hq] at hw1
                rw [hq]
                clear hM hq
                by_cases he : M = nm
                · rw [if_pos he] at hw1
                  have HW1 := Lib.hid hw1
                  subst he
                  clear hw1
                  go_wp2_with fail
                  go_roundw
                  case rel => exact ⟨m + 1, by omega, by rw [HW1.out], by go_num, by trivial⟩
                  case measure => simp [intOf]; omega
                · rw [if_neg he] at hw1
                  have HW1 := Lib.hid hw1
                  have heb := bytes_ne he
                  clear hw1
                  go_wp2_with fail
                  go_roundw
                  case rel => exact ⟨m + 1, by omega, by rw [HW1.out], by go_num, by trivial⟩
                  case measure => simp [intOf]; omega
              · have e : m = 16 := by omega
                subst e
                have m1 : ¬ (((16 : Nat) : Int) < 16) := by omega
                have hres : applyE (mkT x) sn v = (9, sn, v) := apply_whole hn hx32 sn v
                rw [rlinesE, hres] at hRj
                simp only [show ¬ ((9 : Int) = 0) by decide, if_false] at hRj
                have HE := Lib.hid (show endE R = 9 by rw [← hRj]; rfl)
                clear hRj
                have kk : ((k : Int) == ((mkT x).size : Int)) = true := by simp; omega
                have kk2 : ¬ (k : Int) < ((mkT x).size : Int) := by omega
                obtain ⟨q, hq⟩ : ∃ q, whE nm 16 = q := ⟨_, rfl⟩
                rw [hq]
                clear hq
                by_cases hq0 : q < 0
                · have dq : decide (q < 0) = true := decide_eq_true hq0
                  go_wp2_with fail
                  go_ret2
                  exact ⟨⟨_, by (rw [HE.out]; try rfl)⟩, HP5.out.be⟩
                · have dq : decide (q < 0) = false := decide_eq_false hq0
                  go_wp2_with fail
                  go_ret2
                  exact ⟨⟨_, by (rw [HE.out]; try rfl)⟩, HP5.out.be⟩
    · have hje : j = L.length := by omega
      subst hje
      have j1 : ¬ (L.length : Int) < (L.length : Int) := by omega
      rw [List.drop_length, rlinesE] at hRj
      have hv := rvalid13 (cfOf v) w.heap.size wr (show Row16 wr w.heap.size (cfOf v) from HP.out.l)
      cases hb : validB (cfOf v) with
      | true =>
        have hE : endE R = 0 := by rw [← hRj]; unfold endE; rw [if_pos rfl]; unfold validE; rw [hb]; rfl
        rw [hb] at hv
        have HE := Lib.hid hE
        clear hE hb hRj
        go_wp2_with fail
        refine hv.mono ?_
        rintro e x7 ⟨rfl, hb7⟩
        go_wp2_with fail
        go_ret2
        exact ⟨⟨_, by (rw [HE.out]; try rfl)⟩, HP.out.be.trans (hb7.mono HP.out.be.size)⟩
      | false =>
        have hE : endE R = 1 := by rw [← hRj]; unfold endE; rw [if_pos rfl]; unfold validE; rw [hb]; rfl
        rw [hb] at hv
        have HE := Lib.hid hE
        clear hE hb hRj
        go_wp2_with fail
        refine hv.mono ?_
        rintro e x7 ⟨rfl, hb7⟩
        go_wp2_with fail
        go_ret2
        exact ⟨⟨_, by (rw [HE.out]; try rfl)⟩, HP.out.be.trans (hb7.mono HP.out.be.size)⟩
end Go.Proofs.YtbajmmgdnegoiaaDoor
