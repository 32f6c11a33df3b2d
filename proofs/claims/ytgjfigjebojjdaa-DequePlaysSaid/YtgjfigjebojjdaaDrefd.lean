/- The document's Row and New on rows. -/
import Derived.Test.YtgjfigjebojjdaaDrefc
namespace Go.Proofs.Ytgjfigjebojjdaa
open Go.RowKit Go.Shelf
set_option linter.unusedVariables false
theorem ints_cons (x : Nat) (l : List Nat) : ints (x :: l) = [.int .i64 (x : Int)] ++ ints l := by simp [ints]
theorem take_snoc_ {l : List Nat} {k y : Nat} (h : l[k]? = some y) : l.take (k + 1) = l.take k ++ [y] := by rw [List.take_add_one, h]; rfl
section
variable {base q g N cap M : Nat} {L : Nat → List Nat} {v : Nat → Value}
set_option maxRecDepth 100000 in
set_option maxHeartbeats 4000000 in
theorem rrow_fwd (r : Int) (w : World) (h : RefAt w base q g N cap M L v) (hL : Lists N M L) (hM : M ≤ 1024) :
    Calls Try.prog 61 #[.pointer (some ⟨q, 0, none⟩), .int .i64 r, .bool false] w fun e w' => ∃ v', e = .returned v' ∧ w'.ownsRow w.heap.size 3 1 v' (rowE N L r).length (ints (fromE false (rowE N L r))) ∧ Below w.heap.size w w' := by
  have q0 := h.h0
  have n8 := h.n8
  have nc := h.nc
  by_cases hr : r < 0 ∨ (N : Int) ≤ r
  · have hE : rowE N L r = [] := by unfold rowE; rw [if_pos hr]
    have hF : fromE false [] = [] := by rfl
    rw [hE, hF]
    clear h hE hF
    rcases hr with hr | hr
    · go_enter Try.func61, Try.ntmps61
      go_wp2
      go_ret
      exact ⟨_, rfl, World.ownsRow_nil _ _ _ _, Below.refl _ _⟩
    · have hr0 : 0 ≤ r := by omega
      go_enter Try.func61, Try.ntmps61
      go_wp2
      go_ret
      exact ⟨_, rfl, World.ownsRow_nil _ _ _ _, Below.refl _ _⟩
  obtain ⟨rn, rfl⟩ : ∃ k : Nat, r = (k : Int) := ⟨r.toNat, by omega⟩
  have hrN : rn < N := by omega
  have hE : rowE N L rn = L rn := by unfold rowE; rw [if_neg hr]; rfl
  rw [hE]
  have hlen := hL.len hrN
  have H0 := Lib.hid h
  obtain ⟨A, c, hv⟩ := h.form hrN
  have ho := h.own rn hrN
  rw [hv] at ho
  have HV := Lib.hid hv
  have HO := Lib.hid ho
  have hlq := h.lq
  have hlg := h.lg
  obtain ⟨i0, hi0, hz0, hz1, hz2⟩ := info_parts iinfoc
  have hd0 : decide ((rn : Int) < 0) = false := decide_eq_false (by omega)
  have hd1 : decide (N ≤ rn) = false := decide_eq_false (by omega)
  clear h hE hr hL hv ho
  go_enter Try.func61, Try.ntmps61
  go_wp2
  go_loopw [7, 8] (fun s7 s8 wr => ∃ k : Nat, k ≤ (L rn).length ∧ s8 = .int .i64 k ∧ wr.ownsRow w.heap.size 3 1 s7 k (ints (fromE false ((L rn).take k))) ∧ Below w.heap.size w wr) (fun _ s _ => (L rn).length - (intOf s).toNat)
  case atStart =>
    refine ⟨0, Nat.zero_le _, rfl, ?_, Below.refl _ _⟩
    have : ints (fromE false ((L rn).take 0)) = [] := by rfl
    rw [this]
    exact World.ownsRow_nil _ _ _ _
  case round =>
    obtain ⟨k, hk, rfl, hown, hbr⟩ := hrel
    have q0r := (hbr.cell (p := ⟨q, 0, none⟩) hlq).trans q0
    have HOW := Lib.hid hown
    obtain ⟨Al, cl, rfl⟩ := own_form hown
    have hR := H0.out.below hbr
    have c1 := hR.row hrN
    rw [HV.out] at c1
    have hzr := hbr.size
    clear hown hR
    by_cases hkl : k < (L rn).length
    · obtain ⟨gg, rfl, hgb, hgl, y, hy, hcy⟩ := ints_at HO.out hkl
      have hcy' := (hbr.cell (p := ⟨gg, k, none⟩) hgl).trans hcy
      have htk := take_snoc_ hy
      have hfl : ints (fromE false ((L rn).take (k + 1))) = ints (fromE false ((L rn).take k)) ++ [.int .i64 (y : Int)] := by rw [htk]; unfold fromE; simp [ints_snoc]
      have HF := Lib.hid hfl
      clear hy hfl htk
      go_wp2_with (at_builtin; refine wpList_append_own _ rfl (.tmp 46) (.tmp 57) 59 rfl w.heap.size 3 i0 (.int .i64 0) 1 8 Try.underlying59 hi0 hz0 hz1 hz2 rfl (by decide) _ _ _ rfl (HOW.out.alloc _) ⟨wr.heap.size, 0, none⟩ 1 1 [.int .i64 (y : Int)] rfl rfl (by intro j u hj; match j, hj with | 0, hj => simp at hj; subst hj; (try simp [Addr.add]); (try exact (Blk.new_ (by simp)).val rfl)) (by intro u hu; simp at hu; subst hu; rfl) (by unfold maxLen; omega) (by omega) (by simp; omega) ?_; intro v7 w7 hown7 hg7 _; have HO7 := Lib.hid hown7; have HG7 := Lib.hid hg7; clear hown7 hg7)
      go_roundw
      case rel => exact ⟨k + 1, by omega, by go_num, by rw [HF.out]; exact HO7.out, (hbr.alloc hbr.size _).grown HG7.out (by simp; omega) (fun g' e => own_base (HOW.out.alloc (.cells #[.int .i64 (y : Int)] 3)) e)⟩
      case measure => simp [intOf]; omega
    · obtain rfl : k = (L rn).length := by omega
      have htl : (L rn).take (L rn).length = L rn := List.take_length
      have HT := Lib.hid htl
      clear htl
      go_wp2
      go_ret
      exact ⟨_, rfl, by have := HOW.out; rw [HT.out] at this; exact this, hbr⟩
set_option maxRecDepth 100000 in
set_option maxHeartbeats 4000000 in
theorem rrow_back (r : Int) (w : World) (h : RefAt w base q g N cap M L v) (hL : Lists N M L) (hM : M ≤ 1024) :
    Calls Try.prog 61 #[.pointer (some ⟨q, 0, none⟩), .int .i64 r, .bool true] w fun e w' => ∃ v', e = .returned v' ∧ w'.ownsRow w.heap.size 3 1 v' (rowE N L r).length (ints (fromE true (rowE N L r))) ∧ Below w.heap.size w w' := by
  have q0 := h.h0
  have n8 := h.n8
  have nc := h.nc
  by_cases hr : r < 0 ∨ (N : Int) ≤ r
  · have hE : rowE N L r = [] := by unfold rowE; rw [if_pos hr]
    have hF : fromE true [] = [] := by rfl
    rw [hE, hF]
    clear h hE hF
    rcases hr with hr | hr
    · go_enter Try.func61, Try.ntmps61
      go_wp2
      go_ret
      exact ⟨_, rfl, World.ownsRow_nil _ _ _ _, Below.refl _ _⟩
    · have hr0 : 0 ≤ r := by omega
      go_enter Try.func61, Try.ntmps61
      go_wp2
      go_ret
      exact ⟨_, rfl, World.ownsRow_nil _ _ _ _, Below.refl _ _⟩
  obtain ⟨rn, rfl⟩ : ∃ k : Nat, r = (k : Int) := ⟨r.toNat, by omega⟩
  have hrN : rn < N := by omega
  have hE : rowE N L rn = L rn := by unfold rowE; rw [if_neg hr]; rfl
  rw [hE]
  have hlen := hL.len hrN
  have H0 := Lib.hid h
  obtain ⟨A, c, hv⟩ := h.form hrN
  have ho := h.own rn hrN
  rw [hv] at ho
  have HV := Lib.hid hv
  have HO := Lib.hid ho
  have hlq := h.lq
  have hlg := h.lg
  obtain ⟨i0, hi0, hz0, hz1, hz2⟩ := info_parts iinfoc
  have hd0 : decide ((rn : Int) < 0) = false := decide_eq_false (by omega)
  have hd1 : decide (N ≤ rn) = false := decide_eq_false (by omega)
  clear h hE hr hL hv ho
  go_enter Try.func61, Try.ntmps61
  go_wp2
  go_loopw [7, 8] (fun s7 s8 wr => ∃ k : Nat, k ≤ (L rn).length ∧ s8 = .int .i64 k ∧ wr.ownsRow w.heap.size 3 1 s7 k (ints (fromE true ((L rn).take k))) ∧ Hid (k = 0 → s7 = .slice none 0 0) ∧ Below w.heap.size w wr) (fun _ s _ => (L rn).length - (intOf s).toNat)
  case atStart =>
    refine ⟨0, Nat.zero_le _, rfl, ?_, Lib.hid fun _ => rfl, Below.refl _ _⟩
    have : ints (fromE true ((L rn).take 0)) = [] := by rfl
    rw [this]
    exact World.ownsRow_nil _ _ _ _
  case round =>
    obtain ⟨k, hk, rfl, hown, HNIL, hbr⟩ := hrel
    have q0r := (hbr.cell (p := ⟨q, 0, none⟩) hlq).trans q0
    have HOW := Lib.hid hown
    obtain ⟨Al, cl, rfl⟩ := own_form hown
    have hR := H0.out.below hbr
    have c1 := hR.row hrN
    rw [HV.out] at c1
    have hzr := hbr.size
    clear hown hR
    by_cases hkl : k < (L rn).length
    · obtain ⟨gg, rfl, hgb, hgl, y, hy, hcy⟩ := ints_at HO.out hkl
      have hcy' := (hbr.cell (p := ⟨gg, k, none⟩) hgl).trans hcy
      have htk := take_snoc_ hy
      have hfl : ints (fromE true ((L rn).take (k + 1))) = [.int .i64 (y : Int)] ++ ints (fromE true ((L rn).take k)) := by rw [htk]; unfold fromE; simp [ints]
      have hfresh : (wr.alloc (.cells #[.int .i64 (y : Int)] 3)).ownsRow w.heap.size 3 1 (.slice (some ⟨wr.heap.size, 0, none⟩) 1 1) 1 [.int .i64 (y : Int)] := World.ownsRow_lit wr #[.int .i64 (y : Int)] 1 hzr (by decide) rfl
      have HFR := Lib.hid hfresh
      by_cases hk0 : k = 0
      · subst hk0
        have hAl : Al = none ∧ cl = 0 := by simpa using HNIL.out rfl
        obtain ⟨rfl, rfl⟩ := hAl
        have h00 : ints (fromE true ((L rn).take 0)) = [] := rfl
        rw [h00] at hfl
        have HF := Lib.hid hfl
        clear hy hfl htk hfresh h00
        go_wp2_with (at_builtin; refine wpList_append_own_none rfl (.tmp 43) (.tmp 44) 59 rfl w.heap.size 3 i0 1 Try.underlying59 hi0 _ _ _ rfl HFR.out rfl ?_)
        go_roundw
        case rel => exact ⟨1, by omega, by go_num, by rw [HF.out]; exact HFR.out, Lib.hid fun e => absurd e (by omega), hbr.alloc hbr.size _⟩
        case measure => simp [intOf]; omega
      · obtain ⟨gl, c', e, hgl1, hgl2⟩ := own_at HOW.out (by omega)
        simp only [Value.slice.injEq] at e
        obtain ⟨rfl, -, rfl⟩ := e
        have hcells := (HOW.out.alloc (.cells #[.int .i64 (y : Int)] 3)).cells (g := gl) rfl
        have HC := Lib.hid hcells
        have HF := Lib.hid hfl
        have hone : ∀ u ∈ ints (fromE true ((L rn).take k)), u.oneCell' = true := fun u hu => by
          unfold ints at hu
          obtain ⟨z, _, rfl⟩ := List.mem_map.1 hu
          rfl
        have HONE := Lib.hid hone
        have hil : (ints (fromE true ((L rn).take k))).length = k * 1 := HOW.out.1
        have HIL := Lib.hid hil
        clear hy hfl htk hfresh hcells hone hil
        go_wp2_with (at_builtin; refine wpList_append_own _ rfl (.tmp 43) (.tmp 44) 59 rfl w.heap.size 3 i0 (.int .i64 0) 1 8 Try.underlying59 hi0 hz0 hz1 hz2 rfl (by decide) _ _ _ rfl HFR.out ⟨gl, 0, none⟩ k cl (ints (fromE true ((L rn).take k))) rfl HIL.out HC.out HONE.out (by unfold maxLen; omega) (by omega) (by simp; omega) ?_; intro v7 w7 hown7 hg7 _; have HO7 := Lib.hid hown7; have HG7 := Lib.hid hg7; clear hown7 hg7)
        go_roundw
        case rel => exact ⟨k + 1, by omega, by go_num, by rw [HF.out, Nat.add_comm k 1]; exact HO7.out, Lib.hid fun e => absurd e (by omega), (hbr.alloc hbr.size _).grown HG7.out (by simp; omega) (fun g' e => own_base HFR.out e)⟩
        case measure => simp [intOf]; omega
    · obtain rfl : k = (L rn).length := by omega
      have htl : (L rn).take (L rn).length = L rn := List.take_length
      have HT := Lib.hid htl
      clear htl
      go_wp2
      go_ret
      exact ⟨_, rfl, by have := HOW.out; rw [HT.out] at this; exact this, hbr⟩
end
end Go.Proofs.Ytgjfigjebojjdaa
