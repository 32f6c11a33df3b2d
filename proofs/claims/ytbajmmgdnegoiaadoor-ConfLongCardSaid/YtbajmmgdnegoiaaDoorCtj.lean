/- The document's Number. -/
import Derived.Test.YtbajmmgdnegoiaaDoorCtc
import Derived.Test.YtbajmmgdnegoiaaDoorCtg
namespace Go.Proofs.YtbajmmgdnegoiaaDoor
open Go.ChangeShapes Go.WideShapes Go.ChangeAt Go.RowKit Kn
set_option linter.unusedVariables false
set_option linter.unusedSimpArgs false
/-- What Number says. -/
def NumP (s : ByteArray) (e : Ending) : Prop := ∃ (x : Int) (b : Bool), e = .returned (.tuple #[.int .i64 x, .bool b]) ∧ b = (numR s.data.toList).isSome ∧ ∀ v, numR s.data.toList = some v → x = v
theorem NumP.no {s : ByteArray} (h : numR s.data.toList = none) {e : Ending} (he : e = .returned (.tuple #[.int .i64 0, .bool false])) : NumP s e := ⟨0, false, he, by rw [h]; rfl, fun v hv => by rw [h] at hv; cases hv⟩
theorem lst_size (s : ByteArray) : s.data.toList.length = s.size := by rw [Array.length_toList]; rfl
theorem lst_at (s : ByteArray) (k : Nat) (h : k < s.size) : s.data.toList[k]? = some s[k] := by
  rw [List.getElem?_eq_getElem (by rw [lst_size]; exact h)]
  rfl
theorem head_at (s : ByteArray) (h : 0 < s.size) : s.data.toList.head? = some s[0] := by rw [List.head?_eq_getElem?]; exact lst_at s 0 h
theorem head_no (s : ByteArray) (h : s.size = 0) : s.data.toList = [] := List.length_eq_zero_iff.1 (by rw [lst_size]; exact h)
theorem tail_ext (s : ByteArray) : (s.extract 1 s.size).data.toList = s.data.toList.tail := by
  have e : s = mkT s.data.toList := (mkT_of s).symm
  have e2 := mkT_extract s.data.toList 1 s.size
  rw [← e] at e2
  rw [e2, mkT_list, List.drop_one, List.take_of_length_le (by rw [List.length_tail, lst_size]; omega)]
theorem eq_byte (c : UInt8) (k : Nat) (hk : k < 256) : c = UInt8.ofNat k ↔ c.toNat = k := by
  constructor
  · intro e; rw [e, UInt8.toNat_ofNat']; omega
  · intro e; rw [← UInt8.ofNat_toNat (x := c), e]
theorem all_next {D : ByteArray} {k : Nat} (h : k < D.size) (ha : (D.data.toList.take k).all isDig = true) (hd : isDig D[k] = true) : (D.data.toList.take (k + 1)).all isDig = true := by
  rw [take_next D k h, List.all_append, ha]
  simp [hd]
theorem all_bad {D : ByteArray} {k : Nat} (h : k < D.size) (hd : isDig D[k] = false) : D.data.toList.all isDig = false := by
  have hm : D[k] ∈ D.data.toList := List.mem_of_getElem? (lst_at D k h)
  cases e : D.data.toList.all isDig with
  | false => rfl
  | true => have := List.all_eq_true.1 e _ hm; rw [hd] at this; cases this
theorem val_next {D : ByteArray} {k : Nat} (h : k < D.size) : valL (D.data.toList.take (k + 1)) = 10 * valL (D.data.toList.take k) + (D[k].toNat - 48) := by rw [take_next D k h, valL_snoc]
theorem val_bd {D : ByteArray} {k : Nat} (hk : k ≤ D.size) (h19 : D.size ≤ 19) (ha : (D.data.toList.take k).all isDig = true) : valL (D.data.toList.take k) < 10 ^ k ∧ 10 ^ k ≤ 10 ^ 19 := by
  refine ⟨valL_lt k _ (by rw [List.length_take, lst_size]; omega) ha, Nat.pow_le_pow_right (by decide) (by omega)⟩
section
variable {s : ByteArray}
theorem nr_below (h : 0 < s.size) (h45 : s[0] = 45) : numR s.data.toList = if (s.extract 1 s.size).size < 1 ∨ 19 < (s.extract 1 s.size).size ∨ (s.extract 1 s.size).data.toList.head? = some 48 then none else if (s.extract 1 s.size).data.toList.all isDig then if 9223372036854775808 < valL (s.extract 1 s.size).data.toList then none else some (-(valL (s.extract 1 s.size).data.toList : Int)) else none := by
  unfold numR
  rw [if_pos (by rw [head_at s h, h45]), ← tail_ext, lst_size]
theorem nr_not (h : ∀ h0 : 0 < s.size, s[0] ≠ 45) : numR s.data.toList = if s.size < 1 ∨ 19 < s.size ∨ (s.data.toList.head? = some 48 ∧ 1 < s.size) then none else if s.data.toList.all isDig then if valL s.data.toList ≤ 9223372036854775807 then some (valL s.data.toList : Int) else none else none := by
  unfold numR
  rw [if_neg ?_, lst_size]
  intro e
  rcases Nat.eq_zero_or_pos s.size with h0 | h0
  · rw [head_no s h0] at e; cases e
  · rw [head_at s h0] at e
    exact h h0 (by simpa using e)
end
set_option maxRecDepth 20000 in
set_option maxHeartbeats 8000000 in
theorem rnum (s : ByteArray) (hs : s.size ≤ 1000000) (w : World) : Calls Tryd.prog 37 #[.string s] w fun e w' => NumP s e ∧ w = w' := by
  by_cases h0 : s.size = 0
  · have HR := Lib.hid (show numR s.data.toList = none by rw [head_no s h0]; rfl)
    have g2 : ¬ 0 < (s.size : Int) := by omega
    have g1 : decide (0 < (s.size : Int)) = false := decide_eq_false g2
    have g3 : (s.size : Int) < 1 := by omega
    have g4 : decide ((s.size : Int) < 1) = true := decide_eq_true g3
    go_enter Tryd.func37, Tryd.ntmps37
    go_wp2_with fail
    all_goals (go_ret2; exact ⟨NumP.no HR.out rfl, by trivial⟩)
  · have hp : 0 < s.size := by omega
    have g2 : 0 < (s.size : Int) := by omega
    have g1 : decide (0 < (s.size : Int)) = true := decide_eq_true g2
    by_cases h45 : s[0] = 45
    · have e1 : ((s[0].toNat : Int) == 45) = true := by rw [h45]; rfl
      have hR := nr_below hp h45
      obtain ⟨D, hD⟩ : ∃ D, s.extract 1 s.size = D := ⟨_, rfl⟩
      rw [hD] at hR
      have HX := Lib.hid hD
      have hds : D.size ≤ 1000000 := by rw [← hD, ByteArray.size_extract]; omega
      clear h45 hD
      by_cases hl : D.size < 1 ∨ 19 < D.size ∨ D.data.toList.head? = some 48
      · rw [if_pos hl] at hR
        have HR := Lib.hid hR
        clear hR
        by_cases ha : D.size < 1
        · have b1 : (D.size : Int) < 1 := by omega
          have b1' : decide ((D.size : Int) < 1) = true := decide_eq_true b1
          go_enter Tryd.func37, Tryd.ntmps37
          have hD := HX.out
          go_wp2_with fail
          all_goals (go_ret2; exact ⟨NumP.no HR.out rfl, by trivial⟩)
        · have b1 : ¬ (D.size : Int) < 1 := by omega
          have b1' : decide ((D.size : Int) < 1) = false := decide_eq_false b1
          by_cases hb : 19 < D.size
          · have b2 : 19 < (D.size : Int) := by omega
            have b2' : decide (19 < (D.size : Int)) = true := decide_eq_true b2
            go_enter Tryd.func37, Tryd.ntmps37
            have hD := HX.out
            go_wp2_with fail
            all_goals (go_ret2; exact ⟨NumP.no HR.out rfl, by trivial⟩)
          · have b2 : ¬ 19 < (D.size : Int) := by omega
            have b2' : decide (19 < (D.size : Int)) = false := decide_eq_false b2
            have h1 : 0 < D.size := by omega
            have hh : D.data.toList.head? = some 48 := (hl.resolve_left ha).resolve_left hb
            have h48 : ((D[0].toNat : Int) == 48) = true := by
              have h9 := hh
              rw [head_at D h1] at h9
              have h8 : D[0] = 48 := by simpa using h9
              rw [h8]; rfl
            go_enter Tryd.func37, Tryd.ntmps37
            have hD := HX.out
            go_wp2_with fail
            all_goals (go_ret2; exact ⟨NumP.no HR.out rfl, by trivial⟩)
      · rw [if_neg hl] at hR
        have HL := Lib.hid hl
        have h19 : D.size ≤ 19 := by omega
        have h1 : 0 < D.size := by omega
        have h48 : ((D[0].toNat : Int) == 48) = false := by
          have : D[0] ≠ 48 := fun e => HL.out (.inr (.inr (by rw [head_at D h1, e])))
          simp only [beq_eq_false_iff_ne, ne_eq]
          intro e
          exact this ((eq_byte D[0] 48 (by decide)).2 (by omega))
        have HNO := Lib.hid (fun (h : D.data.toList.all isDig = false) => (show numR s.data.toList = none by rw [hR, h]; rfl))
        have HYES := Lib.hid (fun (h : D.data.toList.all isDig = true) => (show numR s.data.toList = if 9223372036854775808 < valL D.data.toList then none else some (-(valL D.data.toList : Int)) by rw [hR, if_pos h]))
        clear hR hl
        go_enter Tryd.func37, Tryd.ntmps37
        have hD := HX.out
        have b1 : ¬ ((D.size : Int) < 1) := by omega
        have b2 : ¬ (19 < (D.size : Int)) := by omega
        have b1' : decide ((D.size : Int) < 1) = false := decide_eq_false b1
        have b2' : decide (19 < (D.size : Int)) = false := decide_eq_false b2
        go_wp2_with fail
        go_loopw [6, 7] (fun s6 s7 wr => ∃ k : Nat, k ≤ D.size ∧ s7 = .int .i64 (k : Int) ∧ s6 = .int .u64 (valL (D.data.toList.take k) : Int) ∧ (D.data.toList.take k).all isDig = true ∧ wr = w) (fun _ s7 _ => 20 - (intOf s7).toNat)
        case atStart => exact ⟨0, Nat.zero_le _, rfl, rfl, rfl, rfl⟩
        case round =>
          obtain ⟨k, hk, rfl, rfl, ha, rfl⟩ := hrel
          have hbd := val_bd hk h19 ha
          have hn := fun h => @val_next D k h
          have han := fun h hd => @all_next D k h ha hd
          have hab := fun h hd => @all_bad D k h hd
          have htk : k = D.size → D.data.toList.take k = D.data.toList := fun e => List.take_of_length_le (by rw [lst_size]; omega)
          have HAT := Lib.hid (And.intro htk ha)
          obtain ⟨n, hnn⟩ : ∃ n, valL (D.data.toList.take k) = n := ⟨_, rfl⟩
          rw [hnn] at hbd hn
          rw [hnn]
          have HN := Lib.hid hnn
          have p19 : (10 : Nat) ^ 19 = 10000000000000000000 := by decide
          have hnb : n < 10000000000000000000 := by omega
          have HBD := Lib.hid hbd.1
          clear hbd hnn ha htk p19
          have k0 : (0 : Int) ≤ (k : Int) := by omega
          have k1 : IntKind.i64.wrap ((k : Int) + 1) = (k : Int) + 1 := IntWalk.i64_in _ (by omega)
          by_cases hks : k < D.size
          · have k2 : (k : Int) < (D.size : Int) := by omega
            obtain ⟨c, hc⟩ : ∃ c, D[k] = c := ⟨_, rfl⟩
            have hn' := hn hks
            have han' := han hks
            have hab' := hab hks
            rw [hc] at hn' han' hab'
            have HN1 := Lib.hid hn'
            have HA1 := Lib.hid han'
            have HB1 := Lib.hid hab'
            clear hn han hab hn' han' hab'
            have c255 : (c.toNat : Int) ≤ 255 := by have := c.toNat_lt; omega
            have hcc : (D[k].toNat : Int) = (c.toNat : Int) := by rw [hc]
            clear hc
            by_cases hlo : c.toNat < 48
            · have HR := Lib.hid (HNO.out (HB1.out (by unfold isDig; simp; omega)))
              have d1 : decide ((c.toNat : Int) < 48) = true := by simp; omega
              go_wp2_with fail
              go_ret2
              exact ⟨NumP.no HR.out rfl, by trivial⟩
            · by_cases hhi : 57 < c.toNat
              · have HR := Lib.hid (HNO.out (HB1.out (by unfold isDig; simp; omega)))
                have d1 : decide ((c.toNat : Int) < 48) = false := by simp; omega
                have d2 : decide (57 < (c.toNat : Int)) = true := by simp; omega
                go_wp2_with fail
                go_ret2
                exact ⟨NumP.no HR.out rfl, by trivial⟩
              · have HA2 := Lib.hid (HA1.out ((isDig_iff c).2 ⟨by omega, by omega⟩))
                have d1 : decide ((c.toNat : Int) < 48) = false := by simp; omega
                have d2 : decide (57 < (c.toNat : Int)) = false := by simp; omega
                have p18 : (10 : Nat) ^ k ≤ 10 ^ 18 := Nat.pow_le_pow_right (by decide) (by omega)
                have p18' : (10 : Nat) ^ 18 = 1000000000000000000 := by decide
                have hb1 := HBD.out
                have hn18 : n < 1000000000000000000 := by omega
                clear p18 p18' hb1
                have e1 : IntKind.u64.wrap (10 * (n : Int)) = 10 * (n : Int) := IntWalk.u64_in _ (by omega)
                have e2 : IntKind.u8.wrap ((c.toNat : Int) - 48) = (c.toNat : Int) - 48 := IntWalk.u8_in _ (by omega)
                have e3 : IntKind.u64.wrap ((c.toNat : Int) - 48) = (c.toNat : Int) - 48 := IntWalk.u64_in _ (by omega)
                have e4 : IntKind.u64.wrap (10 * (n : Int) + ((c.toNat : Int) - 48)) = 10 * (n : Int) + ((c.toNat : Int) - 48) := IntWalk.u64_in _ (by omega)
                go_wp2_with fail
                go_roundw
                case rel => exact ⟨k + 1, by omega, by go_num, by (try simp only [Value.int.injEq, true_and]); rw [HN1.out]; omega, HA2.out, by trivial⟩
                case measure => simp [intOf]; omega
          · have ke : k = D.size := by omega
            have hnv : valL D.data.toList = n := by rw [← HN.out, HAT.out.1 ke]
            have hall : D.data.toList.all isDig = true := by have := HAT.out.2; rwa [HAT.out.1 ke] at this
            have hY := HYES.out hall
            rw [hnv] at hY
            have npos : 0 < n := by
              have hh := head_at D h1
              cases hl : D.data.toList with
              | nil => rw [hl] at hh; cases hh
              | cons q r =>
                rw [← hnv]
                refine valL_pos _ _ q r rfl hl (fun e => HL.out (.inr (.inr (by rw [hl, e]; rfl)))) hall
            clear hn han hab hnv hall
            by_cases hbig : 9223372036854775808 < n
            · rw [if_pos hbig] at hY
              have HR := Lib.hid hY
              clear hY
              have d1 : decide ((n : Int) > 9223372036854775808) = true := by simp; omega
              have d2 : decide (9223372036854775808 < (n : Int)) = true := by simp; omega
              have k2 : ¬ (k : Int) < (D.size : Int) := by omega
              have k3 : decide ((k : Int) < (D.size : Int)) = false := decide_eq_false k2
              go_wp2_with fail
              go_ret2
              exact ⟨NumP.no HR.out rfl, by trivial⟩
            · rw [if_neg hbig] at hY
              have HR := Lib.hid hY
              clear hY
              have d2 : decide (9223372036854775808 < (n : Int)) = false := by simp; omega
              have k2 : ¬ (k : Int) < (D.size : Int) := by omega
              have k3 : decide ((k : Int) < (D.size : Int)) = false := decide_eq_false k2
              have e1 : IntKind.u64.wrap ((n : Int) - 1) = (n : Int) - 1 := IntWalk.u64_in _ (by omega)
              have e2 : IntKind.i64.wrap ((n : Int) - 1) = (n : Int) - 1 := IntWalk.i64_in _ (by omega)
              have e3 : IntKind.i64.wrap (-((n : Int) - 1)) = -((n : Int) - 1) := IntWalk.i64_in _ (by omega)
              have e4 : IntKind.i64.wrap (-((n : Int) - 1) - 1) = -(n : Int) := by rw [IntWalk.i64_in _ (by omega)]; omega
              go_wp2_with fail
              go_ret2
              exact ⟨⟨_, true, rfl, by rw [HR.out]; rfl, fun v hv => by rw [HR.out] at hv; injection hv⟩, by trivial⟩
    · have e1 : ((s[0].toNat : Int) == 45) = false := by
        simp only [beq_eq_false_iff_ne, ne_eq]
        intro e
        exact h45 ((eq_byte s[0] 45 (by decide)).2 (by omega))
      have hR := nr_not (s := s) (fun _ => h45)
      clear h45
      by_cases hl : s.size < 1 ∨ 19 < s.size ∨ (s.data.toList.head? = some 48 ∧ 1 < s.size)
      · rw [if_pos hl] at hR
        have HR := Lib.hid hR
        clear hR
        by_cases ha : s.size < 1
        · have b1 : (s.size : Int) < 1 := by omega
          have b1' : decide ((s.size : Int) < 1) = true := decide_eq_true b1
          go_enter Tryd.func37, Tryd.ntmps37
          go_wp2_with fail
          all_goals (go_ret2; exact ⟨NumP.no HR.out rfl, by trivial⟩)
        · have b1 : ¬ (s.size : Int) < 1 := by omega
          have b1' : decide ((s.size : Int) < 1) = false := decide_eq_false b1
          by_cases hb : 19 < s.size
          · have b2 : 19 < (s.size : Int) := by omega
            have b2' : decide (19 < (s.size : Int)) = true := decide_eq_true b2
            go_enter Tryd.func37, Tryd.ntmps37
            go_wp2_with fail
            all_goals (go_ret2; exact ⟨NumP.no HR.out rfl, by trivial⟩)
          · have b2 : ¬ 19 < (s.size : Int) := by omega
            have b2' : decide (19 < (s.size : Int)) = false := decide_eq_false b2
            have h1 : 0 < s.size := by omega
            have hh : s.data.toList.head? = some 48 ∧ 1 < s.size := (hl.resolve_left ha).resolve_left hb
            have h48 : ((s[0].toNat : Int) == 48) = true := by
              have h9 := hh.1
              rw [head_at s h1] at h9
              have h8 : s[0] = 48 := by simpa using h9
              rw [h8]; rfl
            have b3 : 1 < (s.size : Int) := by omega
            have b3' : decide (1 < (s.size : Int)) = true := decide_eq_true b3
            go_enter Tryd.func37, Tryd.ntmps37
            go_wp2_with fail
            all_goals (go_ret2; exact ⟨NumP.no HR.out rfl, by trivial⟩)
      · rw [if_neg hl] at hR
        have HL := Lib.hid hl
        have h19 : s.size ≤ 19 := by omega
        have HNO := Lib.hid (fun (h : s.data.toList.all isDig = false) => (show numR s.data.toList = none by rw [hR, h]; rfl))
        have HYES := Lib.hid (fun (h : s.data.toList.all isDig = true) => (show numR s.data.toList = if valL s.data.toList ≤ 9223372036854775807 then some (valL s.data.toList : Int) else none by rw [hR, if_pos h]))
        clear hR hl
        by_cases hz : s[0] = 48
        · have h48 : ((s[0].toNat : Int) == 48) = true := by rw [hz]; rfl
          have b3 : ¬ 1 < (s.size : Int) := fun h => HL.out (.inr (.inr ⟨by rw [head_at s hp, hz], by omega⟩))
          have b3' : decide (1 < (s.size : Int)) = false := decide_eq_false b3
          clear hz
          go_enter Tryd.func37, Tryd.ntmps37
          have b1 : ¬ ((s.size : Int) < 1) := by omega
          have b2 : ¬ (19 < (s.size : Int)) := by omega
          have b1' : decide ((s.size : Int) < 1) = false := decide_eq_false b1
          have b2' : decide (19 < (s.size : Int)) = false := decide_eq_false b2
          go_wp2_with fail
          go_loopw [6, 7] (fun s6 s7 wr => ∃ k : Nat, k ≤ s.size ∧ s7 = .int .i64 (k : Int) ∧ s6 = .int .u64 (valL (s.data.toList.take k) : Int) ∧ (s.data.toList.take k).all isDig = true ∧ wr = w) (fun _ s7 _ => 20 - (intOf s7).toNat)
          case atStart => exact ⟨0, Nat.zero_le _, rfl, rfl, rfl, rfl⟩
          case round =>
            obtain ⟨k, hk, rfl, rfl, ha, rfl⟩ := hrel
            have hbd := val_bd hk h19 ha
            have hn := fun h => @val_next s k h
            have han := fun h hd => @all_next s k h ha hd
            have hab := fun h hd => @all_bad s k h hd
            have htk : k = s.size → s.data.toList.take k = s.data.toList := fun e => List.take_of_length_le (by rw [lst_size]; omega)
            have HAT := Lib.hid (And.intro htk ha)
            obtain ⟨n, hnn⟩ : ∃ n, valL (s.data.toList.take k) = n := ⟨_, rfl⟩
            rw [hnn] at hbd hn
            rw [hnn]
            have HN := Lib.hid hnn
            have p19 : (10 : Nat) ^ 19 = 10000000000000000000 := by decide
            have hnb : n < 10000000000000000000 := by omega
            have HBD := Lib.hid hbd.1
            clear hbd hnn ha htk p19
            have k0 : (0 : Int) ≤ (k : Int) := by omega
            have k1 : IntKind.i64.wrap ((k : Int) + 1) = (k : Int) + 1 := IntWalk.i64_in _ (by omega)
            by_cases hks : k < s.size
            · have k2 : (k : Int) < (s.size : Int) := by omega
              obtain ⟨c, hc⟩ : ∃ c, s[k] = c := ⟨_, rfl⟩
              have hn' := hn hks
              have han' := han hks
              have hab' := hab hks
              rw [hc] at hn' han' hab'
              have HN1 := Lib.hid hn'
              have HA1 := Lib.hid han'
              have HB1 := Lib.hid hab'
              clear hn han hab hn' han' hab'
              have c255 : (c.toNat : Int) ≤ 255 := by have := c.toNat_lt; omega
              have hcc : (s[k].toNat : Int) = (c.toNat : Int) := by rw [hc]
              clear hc
              by_cases hlo : c.toNat < 48
              · have HR := Lib.hid (HNO.out (HB1.out (by unfold isDig; simp; omega)))
                have d1 : decide ((c.toNat : Int) < 48) = true := by simp; omega
                go_wp2_with fail
                go_ret2
                exact ⟨NumP.no HR.out rfl, by trivial⟩
              · by_cases hhi : 57 < c.toNat
                · have HR := Lib.hid (HNO.out (HB1.out (by unfold isDig; simp; omega)))
                  have d1 : decide ((c.toNat : Int) < 48) = false := by simp; omega
                  have d2 : decide (57 < (c.toNat : Int)) = true := by simp; omega
                  go_wp2_with fail
                  go_ret2
                  exact ⟨NumP.no HR.out rfl, by trivial⟩
                · have HA2 := Lib.hid (HA1.out ((isDig_iff c).2 ⟨by omega, by omega⟩))
                  have d1 : decide ((c.toNat : Int) < 48) = false := by simp; omega
                  have d2 : decide (57 < (c.toNat : Int)) = false := by simp; omega
                  have p18 : (10 : Nat) ^ k ≤ 10 ^ 18 := Nat.pow_le_pow_right (by decide) (by omega)
                  have p18' : (10 : Nat) ^ 18 = 1000000000000000000 := by decide
                  have hb1 := HBD.out
                  have hn18 : n < 1000000000000000000 := by omega
                  clear p18 p18' hb1
                  have e1 : IntKind.u64.wrap (10 * (n : Int)) = 10 * (n : Int) := IntWalk.u64_in _ (by omega)
                  have e2 : IntKind.u8.wrap ((c.toNat : Int) - 48) = (c.toNat : Int) - 48 := IntWalk.u8_in _ (by omega)
                  have e3 : IntKind.u64.wrap ((c.toNat : Int) - 48) = (c.toNat : Int) - 48 := IntWalk.u64_in _ (by omega)
                  have e4 : IntKind.u64.wrap (10 * (n : Int) + ((c.toNat : Int) - 48)) = 10 * (n : Int) + ((c.toNat : Int) - 48) := IntWalk.u64_in _ (by omega)
                  go_wp2_with fail
                  go_roundw
                  case rel => exact ⟨k + 1, by omega, by go_num, by (try simp only [Value.int.injEq, true_and]); rw [HN1.out]; omega, HA2.out, by trivial⟩
                  case measure => simp [intOf]; omega
            · have ke : k = s.size := by omega
              have hnv : valL s.data.toList = n := by rw [← HN.out, HAT.out.1 ke]
              have hall : s.data.toList.all isDig = true := by have := HAT.out.2; rwa [HAT.out.1 ke] at this
              have hY := HYES.out hall
              rw [hnv] at hY
              clear hn han hab hnv hall
              have k2 : ¬ (k : Int) < (s.size : Int) := by omega
              have k3 : decide ((k : Int) < (s.size : Int)) = false := decide_eq_false k2
              by_cases hbig : n ≤ 9223372036854775807
              · rw [if_pos hbig] at hY
                have HR := Lib.hid hY
                clear hY
                have d2 : decide ((n : Int) ≤ 9223372036854775807) = true := by simp; omega
                have e2 : IntKind.i64.wrap (n : Int) = (n : Int) := IntWalk.i64_in _ (by omega)
                go_wp2_with fail
                go_ret2
                exact ⟨⟨_, true, rfl, by rw [HR.out]; rfl, fun v hv => by rw [HR.out] at hv; injection hv⟩, by trivial⟩
              · rw [if_neg hbig] at hY
                have HR := Lib.hid hY
                clear hY
                have d2 : decide ((n : Int) ≤ 9223372036854775807) = false := by simp; omega
                go_wp2_with fail
                go_ret2
                exact ⟨⟨_, false, rfl, by rw [HR.out]; rfl, fun v hv => by rw [HR.out] at hv; cases hv⟩, by trivial⟩
        · have h48 : ((s[0].toNat : Int) == 48) = false := by
            simp only [beq_eq_false_iff_ne, ne_eq]
            intro e
            exact hz ((eq_byte s[0] 48 (by decide)).2 (by omega))
          clear hz
          go_enter Tryd.func37, Tryd.ntmps37
          have b1 : ¬ ((s.size : Int) < 1) := by omega
          have b2 : ¬ (19 < (s.size : Int)) := by omega
          have b1' : decide ((s.size : Int) < 1) = false := decide_eq_false b1
          have b2' : decide (19 < (s.size : Int)) = false := decide_eq_false b2
          go_wp2_with fail
          go_loopw [6, 7] (fun s6 s7 wr => ∃ k : Nat, k ≤ s.size ∧ s7 = .int .i64 (k : Int) ∧ s6 = .int .u64 (valL (s.data.toList.take k) : Int) ∧ (s.data.toList.take k).all isDig = true ∧ wr = w) (fun _ s7 _ => 20 - (intOf s7).toNat)
          case atStart => exact ⟨0, Nat.zero_le _, rfl, rfl, rfl, rfl⟩
          case round =>
            obtain ⟨k, hk, rfl, rfl, ha, rfl⟩ := hrel
            have hbd := val_bd hk h19 ha
            have hn := fun h => @val_next s k h
            have han := fun h hd => @all_next s k h ha hd
            have hab := fun h hd => @all_bad s k h hd
            have htk : k = s.size → s.data.toList.take k = s.data.toList := fun e => List.take_of_length_le (by rw [lst_size]; omega)
            have HAT := Lib.hid (And.intro htk ha)
            obtain ⟨n, hnn⟩ : ∃ n, valL (s.data.toList.take k) = n := ⟨_, rfl⟩
            rw [hnn] at hbd hn
            rw [hnn]
            have HN := Lib.hid hnn
            have p19 : (10 : Nat) ^ 19 = 10000000000000000000 := by decide
            have hnb : n < 10000000000000000000 := by omega
            have HBD := Lib.hid hbd.1
            clear hbd hnn ha htk p19
            have k0 : (0 : Int) ≤ (k : Int) := by omega
            have k1 : IntKind.i64.wrap ((k : Int) + 1) = (k : Int) + 1 := IntWalk.i64_in _ (by omega)
            by_cases hks : k < s.size
            · have k2 : (k : Int) < (s.size : Int) := by omega
              obtain ⟨c, hc⟩ : ∃ c, s[k] = c := ⟨_, rfl⟩
              have hn' := hn hks
              have han' := han hks
              have hab' := hab hks
              rw [hc] at hn' han' hab'
              have HN1 := Lib.hid hn'
              have HA1 := Lib.hid han'
              have HB1 := Lib.hid hab'
              clear hn han hab hn' han' hab'
              have c255 : (c.toNat : Int) ≤ 255 := by have := c.toNat_lt; omega
              have hcc : (s[k].toNat : Int) = (c.toNat : Int) := by rw [hc]
              clear hc
              by_cases hlo : c.toNat < 48
              · have HR := Lib.hid (HNO.out (HB1.out (by unfold isDig; simp; omega)))
                have d1 : decide ((c.toNat : Int) < 48) = true := by simp; omega
                go_wp2_with fail
                go_ret2
                exact ⟨NumP.no HR.out rfl, by trivial⟩
              · by_cases hhi : 57 < c.toNat
                · have HR := Lib.hid (HNO.out (HB1.out (by unfold isDig; simp; omega)))
                  have d1 : decide ((c.toNat : Int) < 48) = false := by simp; omega
                  have d2 : decide (57 < (c.toNat : Int)) = true := by simp; omega
                  go_wp2_with fail
                  go_ret2
                  exact ⟨NumP.no HR.out rfl, by trivial⟩
                · have HA2 := Lib.hid (HA1.out ((isDig_iff c).2 ⟨by omega, by omega⟩))
                  have d1 : decide ((c.toNat : Int) < 48) = false := by simp; omega
                  have d2 : decide (57 < (c.toNat : Int)) = false := by simp; omega
                  have p18 : (10 : Nat) ^ k ≤ 10 ^ 18 := Nat.pow_le_pow_right (by decide) (by omega)
                  have p18' : (10 : Nat) ^ 18 = 1000000000000000000 := by decide
                  have hb1 := HBD.out
                  have hn18 : n < 1000000000000000000 := by omega
                  clear p18 p18' hb1
                  have e1 : IntKind.u64.wrap (10 * (n : Int)) = 10 * (n : Int) := IntWalk.u64_in _ (by omega)
                  have e2 : IntKind.u8.wrap ((c.toNat : Int) - 48) = (c.toNat : Int) - 48 := IntWalk.u8_in _ (by omega)
                  have e3 : IntKind.u64.wrap ((c.toNat : Int) - 48) = (c.toNat : Int) - 48 := IntWalk.u64_in _ (by omega)
                  have e4 : IntKind.u64.wrap (10 * (n : Int) + ((c.toNat : Int) - 48)) = 10 * (n : Int) + ((c.toNat : Int) - 48) := IntWalk.u64_in _ (by omega)
                  go_wp2_with fail
                  go_roundw
                  case rel => exact ⟨k + 1, by omega, by go_num, by (try simp only [Value.int.injEq, true_and]); rw [HN1.out]; omega, HA2.out, by trivial⟩
                  case measure => simp [intOf]; omega
            · have ke : k = s.size := by omega
              have hnv : valL s.data.toList = n := by rw [← HN.out, HAT.out.1 ke]
              have hall : s.data.toList.all isDig = true := by have := HAT.out.2; rwa [HAT.out.1 ke] at this
              have hY := HYES.out hall
              rw [hnv] at hY
              clear hn han hab hnv hall
              have k2 : ¬ (k : Int) < (s.size : Int) := by omega
              have k3 : decide ((k : Int) < (s.size : Int)) = false := decide_eq_false k2
              by_cases hbig : n ≤ 9223372036854775807
              · rw [if_pos hbig] at hY
                have HR := Lib.hid hY
                clear hY
                have d2 : decide ((n : Int) ≤ 9223372036854775807) = true := by simp; omega
                have e2 : IntKind.i64.wrap (n : Int) = (n : Int) := IntWalk.i64_in _ (by omega)
                go_wp2_with fail
                go_ret2
                exact ⟨⟨_, true, rfl, by rw [HR.out]; rfl, fun v hv => by rw [HR.out] at hv; injection hv⟩, by trivial⟩
              · rw [if_neg hbig] at hY
                have HR := Lib.hid hY
                clear hY
                have d2 : decide ((n : Int) ≤ 9223372036854775807) = false := by simp; omega
                go_wp2_with fail
                go_ret2
                exact ⟨⟨_, false, rfl, by rw [HR.out]; rfl, fun v hv => by rw [HR.out] at hv; cases hv⟩, by trivial⟩
end Go.Proofs.YtbajmmgdnegoiaaDoor
