/- WideParses is true of every text, and changes nothing that it was given. -/
import Derived.Test.YtgjfigjebojjdaaAwakea
import Derived.Test.YtgjfigjebojjdaaRefr
import Derived.Test.YtgjfigjebojjdaaOwnn
import Derived.Test.YtgjfigjebojjdaaRowb
import Derived.Test.YtgjfigjebojjdaaRows
import Derived.WalkKit
import Derived.ProofKit
import Derived.OpenShut
import Derived.Deep.DeepCutAuto
namespace Go.Proofs.Ytgjfigjebojjdaa.wideParses
open Go.ChangeShapes Go.WideShapes Go.ChangeAt Go.RowKit Kn
set_option linter.unusedVariables false
theorem own : ownKnob Try.prog.godebug = none := by kernel_rfl
theorem laidOut : laidOutB Try.prog = true := by kernel_rfl
theorem reads : (Try.f3.params.toList.all fun t => Try.prog.readableRec t && decide (t < Try.prog.types.size)) = true := by kernel_rfl
theorem parse_det {s : ByteArray} {e1 e2 : Ending} (h1 : ParseTo s e1) (h2 : ParseTo s e2) : e1 = e2 := by
  rcases h1 with ⟨a, b, c⟩ | ⟨a, b, c⟩ | ⟨a, c⟩ <;> rcases h2 with ⟨d, e, f⟩ | ⟨d, e, f⟩ | ⟨d, f⟩
  all_goals first | (rw [c, f]; done) | omega | exact absurd a d | exact absurd d a
set_option maxRecDepth 1000000 in
set_option maxHeartbeats 8000000 in
theorem walk (s : ByteArray) (w : World) (hs : s.size ≤ maxLen) :
    Calls Try.prog 3 #[.string s] w fun e w' => e = .returned (.bool true) ∧ Below w.heap.size w w' := by
  have hb := Below.refl w.heap.size w
  unfold maxLen at hs
  by_cases h60 : s.size ≤ 60
  · have HL := Lib.hid (show s.size ≤ maxLen by unfold maxLen; omega)
    have HL6 := Lib.hid h60
    go_enter Try.func3, Try.ntmps3
    go_wp2_with (go_at_call 13; refine (awakea _).mono ?_; rintro e w1 ⟨rfl, hb1⟩; replace hb := hb1; clear hb1)
    by_cases hd : decT s
    · by_cases hv : valT s (s).size < 340282366920938463463374607431768211456
      · have HP := Lib.hid (show ParseTo s _ from .inl ⟨hd, hv, rfl⟩)
        have N0 := valT0 hd.1 (s).size
        have HX := Lib.hid (fun (p : Nat) (hp : p < 39) => txt_back hd (N := valT s (s).size) rfl (p := p) hp)
        obtain ⟨N, hN⟩ : ∃ N, valT s (s).size = N := ⟨_, rfl⟩
        rw [hN] at HP HX N0
        have N1 : N < 340282366920938463463374607431768211456 := by rw [← hN]; exact hv
        clear hd hv hN
        go_wp2_with fail
        refine (wparse_any _ _ HL.out).mono ?_
        rintro e w2 ⟨ht, hw2⟩
        obtain rfl := parse_det ht HP.out; clear ht
        replace hb := (show Below w.heap.size w _ from by (repeat (first | exact hb | apply Below.drew | apply below_drewN | refine Below.setCell ?_ (by have := hb.size; (try simp at this); (try simp); (try omega)) _ | refine Below.alloc ?_ (by have := hb.size; (try simp at this); (try simp); (try omega)) _))).trans (hw2.mono (by have := hb.size; (try simp at this); (try simp); (try omega)))
        clear hw2
        go_wp2_with fail
        refine (rparse_any _ _ HL6.out).mono ?_
        rintro e w3 ⟨ht, hw3⟩
        obtain rfl := parse_det ht HP.out; clear ht
        have p0 : w3.cell? ⟨w2.heap.size, 0, none⟩ = some (.int .u64 (hi N)) := cell_later hw3 (by (repeat (first | with_reducible assumption | (simp [go_sem]; done) | (simp [go_sem, *]; done) | with_reducible refine kdrew ?_ | (with_reducible refine ksame ?_; (simp [go_sem, *]; done)) | with_reducible refine kother ?_ (by simp; try omega) | with_reducible refine kalloc ?_ _)))
        have p1 : w3.cell? ⟨w2.heap.size, 1, none⟩ = some (.int .u64 (lo N)) := cell_later hw3 (by (repeat (first | with_reducible assumption | (simp [go_sem]; done) | (simp [go_sem, *]; done) | with_reducible refine kdrew ?_ | (with_reducible refine ksame ?_; (simp [go_sem, *]; done)) | with_reducible refine kother ?_ (by simp; try omega) | with_reducible refine kalloc ?_ _)))
        have zp0 : w2.heap.size < w3.heap.size := klt p0
        replace hb := (show Below w.heap.size w _ from by (repeat (first | exact hb | apply Below.drew | apply below_drewN | refine Below.setCell ?_ (by have := hb.size; (try simp at this); (try simp); (try omega)) _ | refine Below.alloc ?_ (by have := hb.size; (try simp at this); (try simp); (try omega)) _))).trans (hw3.mono (by have := hb.size; (try simp at this); (try simp); (try omega)))
        clear hw3
        go_wp2_with fail
        refine wp_region_noPanic ?_
        refine wp_region_held_drew (S := fun w' => w'.cell? ⟨w2.heap.size, 0, none⟩ = some (.int .u64 (hi N)) ∧ w'.cell? ⟨w2.heap.size, 1, none⟩ = some (.int .u64 (lo N)) ∧ w'.cell? ⟨w3.heap.size, 0, none⟩ = some (.int .u64 (hi N)) ∧ w'.cell? ⟨w3.heap.size, 1, none⟩ = some (.int .u64 (lo N))) (by kernel_rfl) (by refine ⟨?_, ?_, ?_, ?_⟩ <;> (repeat (first | with_reducible assumption | (simp [go_sem]; done) | (simp [go_sem, *]; done) | with_reducible refine kdrew ?_ | (with_reducible refine ksame ?_; (simp [go_sem, *]; done)) | with_reducible refine kother ?_ (by simp; try omega) | with_reducible refine kalloc ?_ _))) (fun hHeld => ?_)
        refine wpAnyH_take (i := 0) (v := ?_) rfl (by kernel_rfl) (by kernel_rfl) (by kernel_rfl) (fun _ _ _ h => h) (Or.inl ⟨by rfl, ?_⟩) (by assumption) ?_
        rotate_left
        · (intro wS hSw; (try dsimp only at hSw); (first | (go_simp; done) | (go_simp; with_reducible rfl)))
        try simp only [Act.put, List.getElem_toArray, List.getElem_cons_zero, List.getElem_cons_succ, List.setIfInBounds_toArray, List.set_cons_zero, List.set_cons_succ]
        refine wpAnyH_take (i := 2) (v := ?_) rfl (by kernel_rfl) (by kernel_rfl) (by kernel_rfl) (fun _ _ _ h => h) (Or.inl ⟨by rfl, ?_⟩) (by assumption) ?_
        rotate_left
        · (intro wS hSw; (try dsimp only at hSw); (first | (go_simp; done) | (go_simp; with_reducible rfl)))
        try simp only [Act.put, List.getElem_toArray, List.getElem_cons_zero, List.getElem_cons_succ, List.setIfInBounds_toArray, List.set_cons_zero, List.set_cons_succ]
        refine wpAnyH_ready (rs := [1]) (by kernel_rfl) (by simp) ?_
        refine AllReadyH.cons rfl (fun K hK => ?_) AllReadyH.nil
        rw [if_pos (by rfl)]
        refine wp_enter (by go_simp; exact ⟨rfl, rfl⟩) ?_
        refine (own_any _ _ _).mono ?_
        rintro e wn ⟨rfl, hbn⟩
        replace p0 : wn.cell? ⟨w2.heap.size, 0, none⟩ = some (.int .u64 (hi N)) := cell_later hbn (by (repeat (first | with_reducible exact p0 | with_reducible refine kalloc ?_ _ | with_reducible refine kdrew ?_ | with_reducible refine kdrewN ?_ _ | with_reducible refine kother ?_ (by simp; try omega))))
        replace p1 : wn.cell? ⟨w2.heap.size, 1, none⟩ = some (.int .u64 (lo N)) := cell_later hbn (by (repeat (first | with_reducible exact p1 | with_reducible refine kalloc ?_ _ | with_reducible refine kdrew ?_ | with_reducible refine kdrewN ?_ _ | with_reducible refine kother ?_ (by simp; try omega))))
        have q0 : wn.cell? ⟨w3.heap.size, 0, none⟩ = some (.int .u64 (hi N)) := cell_later hbn (by (repeat (first | with_reducible assumption | (simp [go_sem]; done) | (simp [go_sem, *]; done) | with_reducible refine kdrew ?_ | (with_reducible refine ksame ?_; (simp [go_sem, *]; done)) | with_reducible refine kother ?_ (by simp; try omega) | with_reducible refine kalloc ?_ _)))
        have q1 : wn.cell? ⟨w3.heap.size, 1, none⟩ = some (.int .u64 (lo N)) := cell_later hbn (by (repeat (first | with_reducible assumption | (simp [go_sem]; done) | (simp [go_sem, *]; done) | with_reducible refine kdrew ?_ | (with_reducible refine ksame ?_; (simp [go_sem, *]; done)) | with_reducible refine kother ?_ (by simp; try omega) | with_reducible refine kalloc ?_ _)))
        have zp0 : w2.heap.size < wn.heap.size := klt p0
        have zq0 : w3.heap.size < wn.heap.size := klt q0
        replace hb := (show Below w.heap.size w _ from by (repeat (first | exact hb | apply Below.drew | apply below_drewN | refine Below.setCell ?_ (by have := hb.size; (try simp at this); (try simp); (try omega)) _ | refine Below.alloc ?_ (by have := hb.size; (try simp at this); (try simp); (try omega)) _))).trans (hbn.mono (by have := hb.size; (try simp at this); (try simp); (try omega)))
        clear hbn
        refine ⟨_, rfl, ?_⟩
        refine hK.out _ _ (by refine ⟨?_, ?_, ?_, ?_⟩ <;> (repeat (first | with_reducible assumption | (simp [go_sem]; done) | (simp [go_sem, *]; done) | with_reducible refine kdrew ?_ | (with_reducible refine ksame ?_; (simp [go_sem, *]; done)) | with_reducible refine kother ?_ (by simp; try omega) | with_reducible refine kalloc ?_ _))) (fun hHeld => ?_)
        clear hK K
        try simp only [Act.put, List.getElem_toArray, List.getElem_cons_zero, List.getElem_cons_succ, List.setIfInBounds_toArray, List.set_cons_zero, List.set_cons_succ]
        refine wpAnyH_take (i := 3) (v := ?_) rfl (by kernel_rfl) (by kernel_rfl) (by kernel_rfl) (fun _ _ _ h => h) (Or.inl ⟨by rfl, ?_⟩) (by assumption) ?_
        rotate_left
        · (intro wS hSw; (try dsimp only at hSw); (first | (go_simp; done) | (go_simp; with_reducible rfl)))
        try simp only [Act.put, List.getElem_toArray, List.getElem_cons_zero, List.getElem_cons_succ, List.setIfInBounds_toArray, List.set_cons_zero, List.set_cons_succ]
        refine wpAnyH_take (i := 4) (v := ?_) rfl (by kernel_rfl) (by kernel_rfl) (by kernel_rfl) (fun _ _ _ h => h) (Or.inl ⟨by rfl, ?_⟩) (by assumption) ?_
        rotate_left
        · (intro wS hSw; (try dsimp only at hSw); (first | (go_simp; done) | (go_simp; with_reducible rfl)))
        try simp only [Act.put, List.getElem_toArray, List.getElem_cons_zero, List.getElem_cons_succ, List.setIfInBounds_toArray, List.set_cons_zero, List.set_cons_succ]
        refine wpAnyH_take (i := 5) (v := ?_) rfl (by kernel_rfl) (by kernel_rfl) (by kernel_rfl) (fun _ _ _ h => h) (Or.inl ⟨by rfl, ?_⟩) (by assumption) ?_
        rotate_left
        · (intro wS hSw; (try dsimp only at hSw); (first | (go_simp; done) | (go_simp; with_reducible rfl)))
        try simp only [Act.put, List.getElem_toArray, List.getElem_cons_zero, List.getElem_cons_succ, List.setIfInBounds_toArray, List.set_cons_zero, List.set_cons_succ]
        refine wpAnyH_take (i := 6) (v := ?_) rfl (by kernel_rfl) (by kernel_rfl) (by kernel_rfl) (fun _ _ _ h => h) (Or.inl ⟨by rfl, ?_⟩) (by assumption) ?_
        rotate_left
        · (intro wS hSw; (try dsimp only at hSw); (first | (go_simp; done) | (go_simp; with_reducible rfl)))
        try simp only [Act.put, List.getElem_toArray, List.getElem_cons_zero, List.getElem_cons_succ, List.setIfInBounds_toArray, List.set_cons_zero, List.set_cons_succ]
        refine wpAnyH_take (i := 7) (v := ?_) rfl (by kernel_rfl) (by kernel_rfl) (by kernel_rfl) (fun _ _ _ h => h) (Or.inl ⟨by rfl, ?_⟩) (by assumption) ?_
        rotate_left
        · (intro wS hSw; (try dsimp only at hSw); (first | (go_simp; done) | (go_simp; with_reducible rfl)))
        try simp only [Act.put, List.getElem_toArray, List.getElem_cons_zero, List.getElem_cons_succ, List.setIfInBounds_toArray, List.set_cons_zero, List.set_cons_succ]
        refine wpAnyH_take (i := 8) (v := ?_) rfl (by kernel_rfl) (by kernel_rfl) (by kernel_rfl) (fun _ _ _ h => h) (Or.inl ⟨by rfl, ?_⟩) (by assumption) ?_
        rotate_left
        · (intro wS hSw; (try dsimp only at hSw); (first | (go_simp; done) | (go_simp; with_reducible rfl)))
        try simp only [Act.put, List.getElem_toArray, List.getElem_cons_zero, List.getElem_cons_succ, List.setIfInBounds_toArray, List.set_cons_zero, List.set_cons_succ]
        refine wpAnyH_take (i := 9) (v := ?_) rfl (by kernel_rfl) (by kernel_rfl) (by kernel_rfl) (fun _ _ _ h => h) (Or.inl ⟨by rfl, ?_⟩) (by assumption) ?_
        rotate_left
        · (intro wS hSw; (try dsimp only at hSw); (first | (go_simp; done) | (go_simp; with_reducible rfl)))
        try simp only [Act.put, List.getElem_toArray, List.getElem_cons_zero, List.getElem_cons_succ, List.setIfInBounds_toArray, List.set_cons_zero, List.set_cons_succ]
        refine wpAnyH_take (i := 10) (v := ?_) rfl (by kernel_rfl) (by kernel_rfl) (by kernel_rfl) (fun _ _ _ h => h) (Or.inl ⟨by rfl, ?_⟩) (by assumption) ?_
        rotate_left
        · (intro wS hSw; (try dsimp only at hSw); (first | (go_simp; done) | (go_simp; with_reducible rfl)))
        try simp only [Act.put, List.getElem_toArray, List.getElem_cons_zero, List.getElem_cons_succ, List.setIfInBounds_toArray, List.set_cons_zero, List.set_cons_succ]
        refine wpAnyH_take (i := 11) (v := ?_) rfl (by kernel_rfl) (by kernel_rfl) (by kernel_rfl) (fun _ _ _ h => h) (Or.inl ⟨by rfl, ?_⟩) (by assumption) ?_
        rotate_left
        · (intro wS hSw; (try dsimp only at hSw); (first | (go_simp; done) | (go_simp; with_reducible rfl)))
        try simp only [Act.put, List.getElem_toArray, List.getElem_cons_zero, List.getElem_cons_succ, List.setIfInBounds_toArray, List.set_cons_zero, List.set_cons_succ]
        refine wpAnyH_take (i := 12) (v := ?_) rfl (by kernel_rfl) (by kernel_rfl) (by kernel_rfl) (fun _ _ _ h => h) (Or.inl ⟨by rfl, ?_⟩) (by assumption) ?_
        rotate_left
        · (intro wS hSw; (try dsimp only at hSw); (first | (go_simp; done) | (go_simp; with_reducible rfl)))
        try simp only [Act.put, List.getElem_toArray, List.getElem_cons_zero, List.getElem_cons_succ, List.setIfInBounds_toArray, List.set_cons_zero, List.set_cons_succ]
        refine wpAnyH_take (i := 13) (v := ?_) rfl (by kernel_rfl) (by kernel_rfl) (by kernel_rfl) (fun _ _ _ h => h) (Or.inl ⟨by rfl, ?_⟩) (by assumption) ?_
        rotate_left
        · (intro wS hSw; (try dsimp only at hSw); (first | (go_simp; done) | (go_simp; with_reducible rfl)))
        try simp only [Act.put, List.getElem_toArray, List.getElem_cons_zero, List.getElem_cons_succ, List.setIfInBounds_toArray, List.set_cons_zero, List.set_cons_succ]
        refine wpAnyH_take (i := 15) (v := ?_) rfl (by kernel_rfl) (by kernel_rfl) (by kernel_rfl) (fun _ _ _ h => h) (Or.inl ⟨by rfl, ?_⟩) (by assumption) ?_
        rotate_left
        · (intro wS hSw; (try dsimp only at hSw); (first | (go_simp; done) | (go_simp; with_reducible rfl)))
        try simp only [Act.put, List.getElem_toArray, List.getElem_cons_zero, List.getElem_cons_succ, List.setIfInBounds_toArray, List.set_cons_zero, List.set_cons_succ]
        refine wpAnyH_ready (rs := [14]) (by kernel_rfl) (by simp) ?_
        refine AllReadyH.cons rfl (fun K hK => ?_) AllReadyH.nil
        rw [if_pos (by rfl)]
        refine wp_enter (by go_simp; exact ⟨rfl, rfl⟩) ?_
        refine (wtext_num N _ N0 N1).mono ?_
        rintro e wn ⟨ht, hbn⟩
        obtain ⟨p, hp, hq1, hq2, rfl⟩ := ht; rw [HX.out p hp hq1 hq2]; clear hq1 hq2
        replace p0 : wn.cell? ⟨w2.heap.size, 0, none⟩ = some (.int .u64 (hi N)) := cell_later hbn (by (repeat (first | with_reducible exact p0 | with_reducible refine kalloc ?_ _ | with_reducible refine kdrew ?_ | with_reducible refine kdrewN ?_ _ | with_reducible refine kother ?_ (by simp; try omega))))
        replace p1 : wn.cell? ⟨w2.heap.size, 1, none⟩ = some (.int .u64 (lo N)) := cell_later hbn (by (repeat (first | with_reducible exact p1 | with_reducible refine kalloc ?_ _ | with_reducible refine kdrew ?_ | with_reducible refine kdrewN ?_ _ | with_reducible refine kother ?_ (by simp; try omega))))
        replace q0 : wn.cell? ⟨w3.heap.size, 0, none⟩ = some (.int .u64 (hi N)) := cell_later hbn (by (repeat (first | with_reducible exact q0 | with_reducible refine kalloc ?_ _ | with_reducible refine kdrew ?_ | with_reducible refine kdrewN ?_ _ | with_reducible refine kother ?_ (by simp; try omega))))
        replace q1 : wn.cell? ⟨w3.heap.size, 1, none⟩ = some (.int .u64 (lo N)) := cell_later hbn (by (repeat (first | with_reducible exact q1 | with_reducible refine kalloc ?_ _ | with_reducible refine kdrew ?_ | with_reducible refine kdrewN ?_ _ | with_reducible refine kother ?_ (by simp; try omega))))
        have zp0 : w2.heap.size < wn.heap.size := klt p0
        have zq0 : w3.heap.size < wn.heap.size := klt q0
        replace hb := (show Below w.heap.size w _ from by (repeat (first | exact hb | apply Below.drew | apply below_drewN | refine Below.setCell ?_ (by have := hb.size; (try simp at this); (try simp); (try omega)) _ | refine Below.alloc ?_ (by have := hb.size; (try simp at this); (try simp); (try omega)) _))).trans (hbn.mono (by have := hb.size; (try simp at this); (try simp); (try omega)))
        clear hbn
        refine ⟨_, rfl, ?_⟩
        refine hK.out _ _ (by refine ⟨?_, ?_, ?_, ?_⟩ <;> (repeat (first | with_reducible assumption | (simp [go_sem]; done) | (simp [go_sem, *]; done) | with_reducible refine kdrew ?_ | (with_reducible refine ksame ?_; (simp [go_sem, *]; done)) | with_reducible refine kother ?_ (by simp; try omega) | with_reducible refine kalloc ?_ _))) (fun hHeld => ?_)
        clear hK K
        try simp only [Act.put, List.getElem_toArray, List.getElem_cons_zero, List.getElem_cons_succ, List.setIfInBounds_toArray, List.set_cons_zero, List.set_cons_succ]
        refine wpAnyH_take (i := 16) (v := ?_) rfl (by kernel_rfl) (by kernel_rfl) (by kernel_rfl) (fun _ _ _ h => h) (Or.inl ⟨by rfl, ?_⟩) (by assumption) ?_
        rotate_left
        · (intro wS hSw; (try dsimp only at hSw); (first | (go_simp; done) | (go_simp; with_reducible rfl)))
        try simp only [Act.put, List.getElem_toArray, List.getElem_cons_zero, List.getElem_cons_succ, List.setIfInBounds_toArray, List.set_cons_zero, List.set_cons_succ]
        refine wpAnyH_take (i := 17) (v := ?_) rfl (by kernel_rfl) (by kernel_rfl) (by kernel_rfl) (fun _ _ _ h => h) (Or.inl ⟨by rfl, ?_⟩) (by assumption) ?_
        rotate_left
        · (intro wS hSw; (try dsimp only at hSw); (first | (go_simp; done) | (go_simp; with_reducible rfl)))
        try simp only [Act.put, List.getElem_toArray, List.getElem_cons_zero, List.getElem_cons_succ, List.setIfInBounds_toArray, List.set_cons_zero, List.set_cons_succ]
        refine wpAnyH_take (i := 18) (v := ?_) rfl (by kernel_rfl) (by kernel_rfl) (by kernel_rfl) (fun _ _ _ h => h) (Or.inl ⟨by rfl, ?_⟩) (by assumption) ?_
        rotate_left
        · (intro wS hSw; (try dsimp only at hSw); (first | (go_simp; done) | (go_simp; with_reducible rfl)))
        try simp only [Act.put, List.getElem_toArray, List.getElem_cons_zero, List.getElem_cons_succ, List.setIfInBounds_toArray, List.set_cons_zero, List.set_cons_succ]
        refine wpAnyH_take (i := 19) (v := ?_) rfl (by kernel_rfl) (by kernel_rfl) (by kernel_rfl) (fun _ _ _ h => h) (Or.inl ⟨by rfl, ?_⟩) (by assumption) ?_
        rotate_left
        · (intro wS hSw; (try dsimp only at hSw); (first | (go_simp; done) | (go_simp; with_reducible rfl)))
        try simp only [Act.put, List.getElem_toArray, List.getElem_cons_zero, List.getElem_cons_succ, List.setIfInBounds_toArray, List.set_cons_zero, List.set_cons_succ]
        refine wpAnyH_done (by kernel_rfl) ?_ _
        refine NoPanic.normal ?_
        go_wp2
        go_ret
        exact ⟨rfl, (by (repeat (first | exact hb | apply Below.drew | apply below_drewN | refine Below.setCell ?_ (by have := hb.size; (try simp at this); (try simp); (try omega)) _ | refine Below.alloc ?_ (by have := hb.size; (try simp at this); (try simp); (try omega)) _)))⟩
      · have HP := Lib.hid (parse_over hd (by omega))
        clear hd hv
        go_wp2_with fail
        refine (wparse_any _ _ HL.out).mono ?_
        rintro e w2 ⟨ht, hw2⟩
        obtain rfl := parse_det ht HP.out; clear ht
        replace hb := (show Below w.heap.size w _ from by (repeat (first | exact hb | apply Below.drew | apply below_drewN | refine Below.setCell ?_ (by have := hb.size; (try simp at this); (try simp); (try omega)) _ | refine Below.alloc ?_ (by have := hb.size; (try simp at this); (try simp); (try omega)) _))).trans (hw2.mono (by have := hb.size; (try simp at this); (try simp); (try omega)))
        clear hw2
        go_wp2_with fail
        refine (rparse_any _ _ HL6.out).mono ?_
        rintro e w3 ⟨ht, hw3⟩
        obtain rfl := parse_det ht HP.out; clear ht
        have p0 : w3.cell? ⟨w2.heap.size, 0, none⟩ = some (.int .u64 (0)) := cell_later hw3 (by (repeat (first | with_reducible assumption | (simp [go_sem]; done) | (simp [go_sem, *]; done) | with_reducible refine kdrew ?_ | (with_reducible refine ksame ?_; (simp [go_sem, *]; done)) | with_reducible refine kother ?_ (by simp; try omega) | with_reducible refine kalloc ?_ _)))
        have p1 : w3.cell? ⟨w2.heap.size, 1, none⟩ = some (.int .u64 (0)) := cell_later hw3 (by (repeat (first | with_reducible assumption | (simp [go_sem]; done) | (simp [go_sem, *]; done) | with_reducible refine kdrew ?_ | (with_reducible refine ksame ?_; (simp [go_sem, *]; done)) | with_reducible refine kother ?_ (by simp; try omega) | with_reducible refine kalloc ?_ _)))
        have zp0 : w2.heap.size < w3.heap.size := klt p0
        replace hb := (show Below w.heap.size w _ from by (repeat (first | exact hb | apply Below.drew | apply below_drewN | refine Below.setCell ?_ (by have := hb.size; (try simp at this); (try simp); (try omega)) _ | refine Below.alloc ?_ (by have := hb.size; (try simp at this); (try simp); (try omega)) _))).trans (hw3.mono (by have := hb.size; (try simp at this); (try simp); (try omega)))
        clear hw3
        go_wp2_with fail
        refine wp_region_noPanic ?_
        refine wp_region_held_drew (S := fun w' => w'.cell? ⟨w2.heap.size, 0, none⟩ = some (.int .u64 (0)) ∧ w'.cell? ⟨w2.heap.size, 1, none⟩ = some (.int .u64 (0)) ∧ w'.cell? ⟨w3.heap.size, 0, none⟩ = some (.int .u64 (0)) ∧ w'.cell? ⟨w3.heap.size, 1, none⟩ = some (.int .u64 (0))) (by kernel_rfl) (by refine ⟨?_, ?_, ?_, ?_⟩ <;> (repeat (first | with_reducible assumption | (simp [go_sem]; done) | (simp [go_sem, *]; done) | with_reducible refine kdrew ?_ | (with_reducible refine ksame ?_; (simp [go_sem, *]; done)) | with_reducible refine kother ?_ (by simp; try omega) | with_reducible refine kalloc ?_ _))) (fun hHeld => ?_)
        refine wpAnyH_take (i := 0) (v := ?_) rfl (by kernel_rfl) (by kernel_rfl) (by kernel_rfl) (fun _ _ _ h => h) (Or.inl ⟨by rfl, ?_⟩) (by assumption) ?_
        rotate_left
        · (intro wS hSw; (try dsimp only at hSw); (first | (go_simp; done) | (go_simp; with_reducible rfl)))
        try simp only [Act.put, List.getElem_toArray, List.getElem_cons_zero, List.getElem_cons_succ, List.setIfInBounds_toArray, List.set_cons_zero, List.set_cons_succ]
        refine wpAnyH_take (i := 2) (v := ?_) rfl (by kernel_rfl) (by kernel_rfl) (by kernel_rfl) (fun _ _ _ h => h) (Or.inl ⟨by rfl, ?_⟩) (by assumption) ?_
        rotate_left
        · (intro wS hSw; (try dsimp only at hSw); (first | (go_simp; done) | (go_simp; with_reducible rfl)))
        try simp only [Act.put, List.getElem_toArray, List.getElem_cons_zero, List.getElem_cons_succ, List.setIfInBounds_toArray, List.set_cons_zero, List.set_cons_succ]
        refine wpAnyH_ready (rs := [1]) (by kernel_rfl) (by simp) ?_
        refine AllReadyH.cons rfl (fun K hK => ?_) AllReadyH.nil
        rw [if_pos (by rfl)]
        refine wp_enter (by go_simp; exact ⟨rfl, rfl⟩) ?_
        refine (own_any _ _ _).mono ?_
        rintro e wn ⟨rfl, hbn⟩
        replace p0 : wn.cell? ⟨w2.heap.size, 0, none⟩ = some (.int .u64 (0)) := cell_later hbn (by (repeat (first | with_reducible exact p0 | with_reducible refine kalloc ?_ _ | with_reducible refine kdrew ?_ | with_reducible refine kdrewN ?_ _ | with_reducible refine kother ?_ (by simp; try omega))))
        replace p1 : wn.cell? ⟨w2.heap.size, 1, none⟩ = some (.int .u64 (0)) := cell_later hbn (by (repeat (first | with_reducible exact p1 | with_reducible refine kalloc ?_ _ | with_reducible refine kdrew ?_ | with_reducible refine kdrewN ?_ _ | with_reducible refine kother ?_ (by simp; try omega))))
        have q0 : wn.cell? ⟨w3.heap.size, 0, none⟩ = some (.int .u64 (0)) := cell_later hbn (by (repeat (first | with_reducible assumption | (simp [go_sem]; done) | (simp [go_sem, *]; done) | with_reducible refine kdrew ?_ | (with_reducible refine ksame ?_; (simp [go_sem, *]; done)) | with_reducible refine kother ?_ (by simp; try omega) | with_reducible refine kalloc ?_ _)))
        have q1 : wn.cell? ⟨w3.heap.size, 1, none⟩ = some (.int .u64 (0)) := cell_later hbn (by (repeat (first | with_reducible assumption | (simp [go_sem]; done) | (simp [go_sem, *]; done) | with_reducible refine kdrew ?_ | (with_reducible refine ksame ?_; (simp [go_sem, *]; done)) | with_reducible refine kother ?_ (by simp; try omega) | with_reducible refine kalloc ?_ _)))
        have zp0 : w2.heap.size < wn.heap.size := klt p0
        have zq0 : w3.heap.size < wn.heap.size := klt q0
        replace hb := (show Below w.heap.size w _ from by (repeat (first | exact hb | apply Below.drew | apply below_drewN | refine Below.setCell ?_ (by have := hb.size; (try simp at this); (try simp); (try omega)) _ | refine Below.alloc ?_ (by have := hb.size; (try simp at this); (try simp); (try omega)) _))).trans (hbn.mono (by have := hb.size; (try simp at this); (try simp); (try omega)))
        clear hbn
        refine ⟨_, rfl, ?_⟩
        refine hK.out _ _ (by refine ⟨?_, ?_, ?_, ?_⟩ <;> (repeat (first | with_reducible assumption | (simp [go_sem]; done) | (simp [go_sem, *]; done) | with_reducible refine kdrew ?_ | (with_reducible refine ksame ?_; (simp [go_sem, *]; done)) | with_reducible refine kother ?_ (by simp; try omega) | with_reducible refine kalloc ?_ _))) (fun hHeld => ?_)
        clear hK K
        try simp only [Act.put, List.getElem_toArray, List.getElem_cons_zero, List.getElem_cons_succ, List.setIfInBounds_toArray, List.set_cons_zero, List.set_cons_succ]
        refine wpAnyH_take (i := 3) (v := ?_) rfl (by kernel_rfl) (by kernel_rfl) (by kernel_rfl) (fun _ _ _ h => h) (Or.inl ⟨by rfl, ?_⟩) (by assumption) ?_
        rotate_left
        · (intro wS hSw; (try dsimp only at hSw); (first | (go_simp; done) | (go_simp; with_reducible rfl)))
        try simp only [Act.put, List.getElem_toArray, List.getElem_cons_zero, List.getElem_cons_succ, List.setIfInBounds_toArray, List.set_cons_zero, List.set_cons_succ]
        refine wpAnyH_take (i := 4) (v := ?_) rfl (by kernel_rfl) (by kernel_rfl) (by kernel_rfl) (fun _ _ _ h => h) (Or.inl ⟨by rfl, ?_⟩) (by assumption) ?_
        rotate_left
        · (intro wS hSw; (try dsimp only at hSw); (first | (go_simp; done) | (go_simp; with_reducible rfl)))
        try simp only [Act.put, List.getElem_toArray, List.getElem_cons_zero, List.getElem_cons_succ, List.setIfInBounds_toArray, List.set_cons_zero, List.set_cons_succ]
        refine wpAnyH_take (i := 5) (v := ?_) rfl (by kernel_rfl) (by kernel_rfl) (by kernel_rfl) (fun _ _ _ h => h) (Or.inl ⟨by rfl, ?_⟩) (by assumption) ?_
        rotate_left
        · (intro wS hSw; (try dsimp only at hSw); (first | (go_simp; done) | (go_simp; with_reducible rfl)))
        try simp only [Act.put, List.getElem_toArray, List.getElem_cons_zero, List.getElem_cons_succ, List.setIfInBounds_toArray, List.set_cons_zero, List.set_cons_succ]
        refine wpAnyH_take (i := 6) (v := ?_) rfl (by kernel_rfl) (by kernel_rfl) (by kernel_rfl) (fun _ _ _ h => h) (Or.inl ⟨by rfl, ?_⟩) (by assumption) ?_
        rotate_left
        · (intro wS hSw; (try dsimp only at hSw); (first | (go_simp; done) | (go_simp; with_reducible rfl)))
        try simp only [Act.put, List.getElem_toArray, List.getElem_cons_zero, List.getElem_cons_succ, List.setIfInBounds_toArray, List.set_cons_zero, List.set_cons_succ]
        refine wpAnyH_take (i := 7) (v := ?_) rfl (by kernel_rfl) (by kernel_rfl) (by kernel_rfl) (fun _ _ _ h => h) (Or.inl ⟨by rfl, ?_⟩) (by assumption) ?_
        rotate_left
        · (intro wS hSw; (try dsimp only at hSw); (first | (go_simp; done) | (go_simp; with_reducible rfl)))
        try simp only [Act.put, List.getElem_toArray, List.getElem_cons_zero, List.getElem_cons_succ, List.setIfInBounds_toArray, List.set_cons_zero, List.set_cons_succ]
        refine wpAnyH_take (i := 8) (v := ?_) rfl (by kernel_rfl) (by kernel_rfl) (by kernel_rfl) (fun _ _ _ h => h) (Or.inl ⟨by rfl, ?_⟩) (by assumption) ?_
        rotate_left
        · (intro wS hSw; (try dsimp only at hSw); (first | (go_simp; done) | (go_simp; with_reducible rfl)))
        try simp only [Act.put, List.getElem_toArray, List.getElem_cons_zero, List.getElem_cons_succ, List.setIfInBounds_toArray, List.set_cons_zero, List.set_cons_succ]
        refine wpAnyH_take (i := 9) (v := ?_) rfl (by kernel_rfl) (by kernel_rfl) (by kernel_rfl) (fun _ _ _ h => h) (Or.inl ⟨by rfl, ?_⟩) (by assumption) ?_
        rotate_left
        · (intro wS hSw; (try dsimp only at hSw); (first | (go_simp; done) | (go_simp; with_reducible rfl)))
        try simp only [Act.put, List.getElem_toArray, List.getElem_cons_zero, List.getElem_cons_succ, List.setIfInBounds_toArray, List.set_cons_zero, List.set_cons_succ]
        refine wpAnyH_take (i := 10) (v := ?_) rfl (by kernel_rfl) (by kernel_rfl) (by kernel_rfl) (fun _ _ _ h => h) (Or.inl ⟨by rfl, ?_⟩) (by assumption) ?_
        rotate_left
        · (intro wS hSw; (try dsimp only at hSw); (first | (go_simp; done) | (go_simp; with_reducible rfl)))
        try simp only [Act.put, List.getElem_toArray, List.getElem_cons_zero, List.getElem_cons_succ, List.setIfInBounds_toArray, List.set_cons_zero, List.set_cons_succ]
        refine wpAnyH_take (i := 11) (v := ?_) rfl (by kernel_rfl) (by kernel_rfl) (by kernel_rfl) (fun _ _ _ h => h) (Or.inl ⟨by rfl, ?_⟩) (by assumption) ?_
        rotate_left
        · (intro wS hSw; (try dsimp only at hSw); (first | (go_simp; done) | (go_simp; with_reducible rfl)))
        try simp only [Act.put, List.getElem_toArray, List.getElem_cons_zero, List.getElem_cons_succ, List.setIfInBounds_toArray, List.set_cons_zero, List.set_cons_succ]
        refine wpAnyH_take (i := 12) (v := ?_) rfl (by kernel_rfl) (by kernel_rfl) (by kernel_rfl) (fun _ _ _ h => h) (Or.inl ⟨by rfl, ?_⟩) (by assumption) ?_
        rotate_left
        · (intro wS hSw; (try dsimp only at hSw); (first | (go_simp; done) | (go_simp; with_reducible rfl)))
        try simp only [Act.put, List.getElem_toArray, List.getElem_cons_zero, List.getElem_cons_succ, List.setIfInBounds_toArray, List.set_cons_zero, List.set_cons_succ]
        refine wpAnyH_take (i := 13) (v := undef) rfl (by kernel_rfl) (by kernel_rfl) (by kernel_rfl) (fun _ _ _ h => h) (Or.inr ⟨by rfl, rfl⟩) (by assumption) ?_
        try simp only [Act.put, List.getElem_toArray, List.getElem_cons_zero, List.getElem_cons_succ, List.setIfInBounds_toArray, List.set_cons_zero, List.set_cons_succ]
        refine wpAnyH_take (i := 14) (v := undef) rfl (by kernel_rfl) (by kernel_rfl) (by kernel_rfl) (fun _ _ _ h => h) (Or.inr ⟨by rfl, rfl⟩) (by assumption) ?_
        try simp only [Act.put, List.getElem_toArray, List.getElem_cons_zero, List.getElem_cons_succ, List.setIfInBounds_toArray, List.set_cons_zero, List.set_cons_succ]
        refine wpAnyH_take (i := 15) (v := undef) rfl (by kernel_rfl) (by kernel_rfl) (by kernel_rfl) (fun _ _ _ h => h) (Or.inr ⟨by rfl, rfl⟩) (by assumption) ?_
        try simp only [Act.put, List.getElem_toArray, List.getElem_cons_zero, List.getElem_cons_succ, List.setIfInBounds_toArray, List.set_cons_zero, List.set_cons_succ]
        refine wpAnyH_take (i := 16) (v := undef) rfl (by kernel_rfl) (by kernel_rfl) (by kernel_rfl) (fun _ _ _ h => h) (Or.inr ⟨by rfl, rfl⟩) (by assumption) ?_
        try simp only [Act.put, List.getElem_toArray, List.getElem_cons_zero, List.getElem_cons_succ, List.setIfInBounds_toArray, List.set_cons_zero, List.set_cons_succ]
        refine wpAnyH_take (i := 17) (v := ?_) rfl (by kernel_rfl) (by kernel_rfl) (by kernel_rfl) (fun _ _ _ h => h) (Or.inl ⟨by rfl, ?_⟩) (by assumption) ?_
        rotate_left
        · (intro wS hSw; (try dsimp only at hSw); (first | (go_simp; done) | (go_simp; with_reducible rfl)))
        try simp only [Act.put, List.getElem_toArray, List.getElem_cons_zero, List.getElem_cons_succ, List.setIfInBounds_toArray, List.set_cons_zero, List.set_cons_succ]
        refine wpAnyH_take (i := 18) (v := ?_) rfl (by kernel_rfl) (by kernel_rfl) (by kernel_rfl) (fun _ _ _ h => h) (Or.inl ⟨by rfl, ?_⟩) (by assumption) ?_
        rotate_left
        · (intro wS hSw; (try dsimp only at hSw); (first | (go_simp; done) | (go_simp; with_reducible rfl)))
        try simp only [Act.put, List.getElem_toArray, List.getElem_cons_zero, List.getElem_cons_succ, List.setIfInBounds_toArray, List.set_cons_zero, List.set_cons_succ]
        refine wpAnyH_take (i := 19) (v := ?_) rfl (by kernel_rfl) (by kernel_rfl) (by kernel_rfl) (fun _ _ _ h => h) (Or.inl ⟨by rfl, ?_⟩) (by assumption) ?_
        rotate_left
        · (intro wS hSw; (try dsimp only at hSw); (first | (go_simp; done) | (go_simp; with_reducible rfl)))
        try simp only [Act.put, List.getElem_toArray, List.getElem_cons_zero, List.getElem_cons_succ, List.setIfInBounds_toArray, List.set_cons_zero, List.set_cons_succ]
        refine wpAnyH_done (by kernel_rfl) ?_ _
        refine NoPanic.normal ?_
        go_wp2
        go_ret
        exact ⟨rfl, (by (repeat (first | exact hb | apply Below.drew | apply below_drewN | refine Below.setCell ?_ (by have := hb.size; (try simp at this); (try simp); (try omega)) _ | refine Below.alloc ?_ (by have := hb.size; (try simp at this); (try simp); (try omega)) _)))⟩
    · have HP := Lib.hid (parse_no hd)
      clear hd
      go_wp2_with fail
      refine (wparse_any _ _ HL.out).mono ?_
      rintro e w2 ⟨ht, hw2⟩
      obtain rfl := parse_det ht HP.out; clear ht
      replace hb := (show Below w.heap.size w _ from by (repeat (first | exact hb | apply Below.drew | apply below_drewN | refine Below.setCell ?_ (by have := hb.size; (try simp at this); (try simp); (try omega)) _ | refine Below.alloc ?_ (by have := hb.size; (try simp at this); (try simp); (try omega)) _))).trans (hw2.mono (by have := hb.size; (try simp at this); (try simp); (try omega)))
      clear hw2
      go_wp2_with fail
      refine (rparse_any _ _ HL6.out).mono ?_
      rintro e w3 ⟨ht, hw3⟩
      obtain rfl := parse_det ht HP.out; clear ht
      have p0 : w3.cell? ⟨w2.heap.size, 0, none⟩ = some (.int .u64 (0)) := cell_later hw3 (by (repeat (first | with_reducible assumption | (simp [go_sem]; done) | (simp [go_sem, *]; done) | with_reducible refine kdrew ?_ | (with_reducible refine ksame ?_; (simp [go_sem, *]; done)) | with_reducible refine kother ?_ (by simp; try omega) | with_reducible refine kalloc ?_ _)))
      have p1 : w3.cell? ⟨w2.heap.size, 1, none⟩ = some (.int .u64 (0)) := cell_later hw3 (by (repeat (first | with_reducible assumption | (simp [go_sem]; done) | (simp [go_sem, *]; done) | with_reducible refine kdrew ?_ | (with_reducible refine ksame ?_; (simp [go_sem, *]; done)) | with_reducible refine kother ?_ (by simp; try omega) | with_reducible refine kalloc ?_ _)))
      have zp0 : w2.heap.size < w3.heap.size := klt p0
      replace hb := (show Below w.heap.size w _ from by (repeat (first | exact hb | apply Below.drew | apply below_drewN | refine Below.setCell ?_ (by have := hb.size; (try simp at this); (try simp); (try omega)) _ | refine Below.alloc ?_ (by have := hb.size; (try simp at this); (try simp); (try omega)) _))).trans (hw3.mono (by have := hb.size; (try simp at this); (try simp); (try omega)))
      clear hw3
      go_wp2_with fail
      refine wp_region_noPanic ?_
      refine wp_region_held_drew (S := fun w' => w'.cell? ⟨w2.heap.size, 0, none⟩ = some (.int .u64 (0)) ∧ w'.cell? ⟨w2.heap.size, 1, none⟩ = some (.int .u64 (0)) ∧ w'.cell? ⟨w3.heap.size, 0, none⟩ = some (.int .u64 (0)) ∧ w'.cell? ⟨w3.heap.size, 1, none⟩ = some (.int .u64 (0))) (by kernel_rfl) (by refine ⟨?_, ?_, ?_, ?_⟩ <;> (repeat (first | with_reducible assumption | (simp [go_sem]; done) | (simp [go_sem, *]; done) | with_reducible refine kdrew ?_ | (with_reducible refine ksame ?_; (simp [go_sem, *]; done)) | with_reducible refine kother ?_ (by simp; try omega) | with_reducible refine kalloc ?_ _))) (fun hHeld => ?_)
      refine wpAnyH_take (i := 0) (v := ?_) rfl (by kernel_rfl) (by kernel_rfl) (by kernel_rfl) (fun _ _ _ h => h) (Or.inl ⟨by rfl, ?_⟩) (by assumption) ?_
      rotate_left
      · (intro wS hSw; (try dsimp only at hSw); (first | (go_simp; done) | (go_simp; with_reducible rfl)))
      try simp only [Act.put, List.getElem_toArray, List.getElem_cons_zero, List.getElem_cons_succ, List.setIfInBounds_toArray, List.set_cons_zero, List.set_cons_succ]
      refine wpAnyH_take (i := 2) (v := ?_) rfl (by kernel_rfl) (by kernel_rfl) (by kernel_rfl) (fun _ _ _ h => h) (Or.inl ⟨by rfl, ?_⟩) (by assumption) ?_
      rotate_left
      · (intro wS hSw; (try dsimp only at hSw); (first | (go_simp; done) | (go_simp; with_reducible rfl)))
      try simp only [Act.put, List.getElem_toArray, List.getElem_cons_zero, List.getElem_cons_succ, List.setIfInBounds_toArray, List.set_cons_zero, List.set_cons_succ]
      refine wpAnyH_ready (rs := [1]) (by kernel_rfl) (by simp) ?_
      refine AllReadyH.cons rfl (fun K hK => ?_) AllReadyH.nil
      rw [if_pos (by rfl)]
      refine wp_enter (by go_simp; exact ⟨rfl, rfl⟩) ?_
      refine (own_any _ _ _).mono ?_
      rintro e wn ⟨rfl, hbn⟩
      replace p0 : wn.cell? ⟨w2.heap.size, 0, none⟩ = some (.int .u64 (0)) := cell_later hbn (by (repeat (first | with_reducible exact p0 | with_reducible refine kalloc ?_ _ | with_reducible refine kdrew ?_ | with_reducible refine kdrewN ?_ _ | with_reducible refine kother ?_ (by simp; try omega))))
      replace p1 : wn.cell? ⟨w2.heap.size, 1, none⟩ = some (.int .u64 (0)) := cell_later hbn (by (repeat (first | with_reducible exact p1 | with_reducible refine kalloc ?_ _ | with_reducible refine kdrew ?_ | with_reducible refine kdrewN ?_ _ | with_reducible refine kother ?_ (by simp; try omega))))
      have q0 : wn.cell? ⟨w3.heap.size, 0, none⟩ = some (.int .u64 (0)) := cell_later hbn (by (repeat (first | with_reducible assumption | (simp [go_sem]; done) | (simp [go_sem, *]; done) | with_reducible refine kdrew ?_ | (with_reducible refine ksame ?_; (simp [go_sem, *]; done)) | with_reducible refine kother ?_ (by simp; try omega) | with_reducible refine kalloc ?_ _)))
      have q1 : wn.cell? ⟨w3.heap.size, 1, none⟩ = some (.int .u64 (0)) := cell_later hbn (by (repeat (first | with_reducible assumption | (simp [go_sem]; done) | (simp [go_sem, *]; done) | with_reducible refine kdrew ?_ | (with_reducible refine ksame ?_; (simp [go_sem, *]; done)) | with_reducible refine kother ?_ (by simp; try omega) | with_reducible refine kalloc ?_ _)))
      have zp0 : w2.heap.size < wn.heap.size := klt p0
      have zq0 : w3.heap.size < wn.heap.size := klt q0
      replace hb := (show Below w.heap.size w _ from by (repeat (first | exact hb | apply Below.drew | apply below_drewN | refine Below.setCell ?_ (by have := hb.size; (try simp at this); (try simp); (try omega)) _ | refine Below.alloc ?_ (by have := hb.size; (try simp at this); (try simp); (try omega)) _))).trans (hbn.mono (by have := hb.size; (try simp at this); (try simp); (try omega)))
      clear hbn
      refine ⟨_, rfl, ?_⟩
      refine hK.out _ _ (by refine ⟨?_, ?_, ?_, ?_⟩ <;> (repeat (first | with_reducible assumption | (simp [go_sem]; done) | (simp [go_sem, *]; done) | with_reducible refine kdrew ?_ | (with_reducible refine ksame ?_; (simp [go_sem, *]; done)) | with_reducible refine kother ?_ (by simp; try omega) | with_reducible refine kalloc ?_ _))) (fun hHeld => ?_)
      clear hK K
      try simp only [Act.put, List.getElem_toArray, List.getElem_cons_zero, List.getElem_cons_succ, List.setIfInBounds_toArray, List.set_cons_zero, List.set_cons_succ]
      refine wpAnyH_take (i := 3) (v := ?_) rfl (by kernel_rfl) (by kernel_rfl) (by kernel_rfl) (fun _ _ _ h => h) (Or.inl ⟨by rfl, ?_⟩) (by assumption) ?_
      rotate_left
      · (intro wS hSw; (try dsimp only at hSw); (first | (go_simp; done) | (go_simp; with_reducible rfl)))
      try simp only [Act.put, List.getElem_toArray, List.getElem_cons_zero, List.getElem_cons_succ, List.setIfInBounds_toArray, List.set_cons_zero, List.set_cons_succ]
      refine wpAnyH_take (i := 4) (v := ?_) rfl (by kernel_rfl) (by kernel_rfl) (by kernel_rfl) (fun _ _ _ h => h) (Or.inl ⟨by rfl, ?_⟩) (by assumption) ?_
      rotate_left
      · (intro wS hSw; (try dsimp only at hSw); (first | (go_simp; done) | (go_simp; with_reducible rfl)))
      try simp only [Act.put, List.getElem_toArray, List.getElem_cons_zero, List.getElem_cons_succ, List.setIfInBounds_toArray, List.set_cons_zero, List.set_cons_succ]
      refine wpAnyH_take (i := 5) (v := ?_) rfl (by kernel_rfl) (by kernel_rfl) (by kernel_rfl) (fun _ _ _ h => h) (Or.inl ⟨by rfl, ?_⟩) (by assumption) ?_
      rotate_left
      · (intro wS hSw; (try dsimp only at hSw); (first | (go_simp; done) | (go_simp; with_reducible rfl)))
      try simp only [Act.put, List.getElem_toArray, List.getElem_cons_zero, List.getElem_cons_succ, List.setIfInBounds_toArray, List.set_cons_zero, List.set_cons_succ]
      refine wpAnyH_take (i := 6) (v := ?_) rfl (by kernel_rfl) (by kernel_rfl) (by kernel_rfl) (fun _ _ _ h => h) (Or.inl ⟨by rfl, ?_⟩) (by assumption) ?_
      rotate_left
      · (intro wS hSw; (try dsimp only at hSw); (first | (go_simp; done) | (go_simp; with_reducible rfl)))
      try simp only [Act.put, List.getElem_toArray, List.getElem_cons_zero, List.getElem_cons_succ, List.setIfInBounds_toArray, List.set_cons_zero, List.set_cons_succ]
      refine wpAnyH_take (i := 7) (v := ?_) rfl (by kernel_rfl) (by kernel_rfl) (by kernel_rfl) (fun _ _ _ h => h) (Or.inl ⟨by rfl, ?_⟩) (by assumption) ?_
      rotate_left
      · (intro wS hSw; (try dsimp only at hSw); (first | (go_simp; done) | (go_simp; with_reducible rfl)))
      try simp only [Act.put, List.getElem_toArray, List.getElem_cons_zero, List.getElem_cons_succ, List.setIfInBounds_toArray, List.set_cons_zero, List.set_cons_succ]
      refine wpAnyH_take (i := 8) (v := ?_) rfl (by kernel_rfl) (by kernel_rfl) (by kernel_rfl) (fun _ _ _ h => h) (Or.inl ⟨by rfl, ?_⟩) (by assumption) ?_
      rotate_left
      · (intro wS hSw; (try dsimp only at hSw); (first | (go_simp; done) | (go_simp; with_reducible rfl)))
      try simp only [Act.put, List.getElem_toArray, List.getElem_cons_zero, List.getElem_cons_succ, List.setIfInBounds_toArray, List.set_cons_zero, List.set_cons_succ]
      refine wpAnyH_take (i := 9) (v := ?_) rfl (by kernel_rfl) (by kernel_rfl) (by kernel_rfl) (fun _ _ _ h => h) (Or.inl ⟨by rfl, ?_⟩) (by assumption) ?_
      rotate_left
      · (intro wS hSw; (try dsimp only at hSw); (first | (go_simp; done) | (go_simp; with_reducible rfl)))
      try simp only [Act.put, List.getElem_toArray, List.getElem_cons_zero, List.getElem_cons_succ, List.setIfInBounds_toArray, List.set_cons_zero, List.set_cons_succ]
      refine wpAnyH_take (i := 10) (v := ?_) rfl (by kernel_rfl) (by kernel_rfl) (by kernel_rfl) (fun _ _ _ h => h) (Or.inl ⟨by rfl, ?_⟩) (by assumption) ?_
      rotate_left
      · (intro wS hSw; (try dsimp only at hSw); (first | (go_simp; done) | (go_simp; with_reducible rfl)))
      try simp only [Act.put, List.getElem_toArray, List.getElem_cons_zero, List.getElem_cons_succ, List.setIfInBounds_toArray, List.set_cons_zero, List.set_cons_succ]
      refine wpAnyH_take (i := 11) (v := ?_) rfl (by kernel_rfl) (by kernel_rfl) (by kernel_rfl) (fun _ _ _ h => h) (Or.inl ⟨by rfl, ?_⟩) (by assumption) ?_
      rotate_left
      · (intro wS hSw; (try dsimp only at hSw); (first | (go_simp; done) | (go_simp; with_reducible rfl)))
      try simp only [Act.put, List.getElem_toArray, List.getElem_cons_zero, List.getElem_cons_succ, List.setIfInBounds_toArray, List.set_cons_zero, List.set_cons_succ]
      refine wpAnyH_take (i := 12) (v := ?_) rfl (by kernel_rfl) (by kernel_rfl) (by kernel_rfl) (fun _ _ _ h => h) (Or.inl ⟨by rfl, ?_⟩) (by assumption) ?_
      rotate_left
      · (intro wS hSw; (try dsimp only at hSw); (first | (go_simp; done) | (go_simp; with_reducible rfl)))
      try simp only [Act.put, List.getElem_toArray, List.getElem_cons_zero, List.getElem_cons_succ, List.setIfInBounds_toArray, List.set_cons_zero, List.set_cons_succ]
      refine wpAnyH_take (i := 13) (v := undef) rfl (by kernel_rfl) (by kernel_rfl) (by kernel_rfl) (fun _ _ _ h => h) (Or.inr ⟨by rfl, rfl⟩) (by assumption) ?_
      try simp only [Act.put, List.getElem_toArray, List.getElem_cons_zero, List.getElem_cons_succ, List.setIfInBounds_toArray, List.set_cons_zero, List.set_cons_succ]
      refine wpAnyH_take (i := 14) (v := undef) rfl (by kernel_rfl) (by kernel_rfl) (by kernel_rfl) (fun _ _ _ h => h) (Or.inr ⟨by rfl, rfl⟩) (by assumption) ?_
      try simp only [Act.put, List.getElem_toArray, List.getElem_cons_zero, List.getElem_cons_succ, List.setIfInBounds_toArray, List.set_cons_zero, List.set_cons_succ]
      refine wpAnyH_take (i := 15) (v := undef) rfl (by kernel_rfl) (by kernel_rfl) (by kernel_rfl) (fun _ _ _ h => h) (Or.inr ⟨by rfl, rfl⟩) (by assumption) ?_
      try simp only [Act.put, List.getElem_toArray, List.getElem_cons_zero, List.getElem_cons_succ, List.setIfInBounds_toArray, List.set_cons_zero, List.set_cons_succ]
      refine wpAnyH_take (i := 16) (v := undef) rfl (by kernel_rfl) (by kernel_rfl) (by kernel_rfl) (fun _ _ _ h => h) (Or.inr ⟨by rfl, rfl⟩) (by assumption) ?_
      try simp only [Act.put, List.getElem_toArray, List.getElem_cons_zero, List.getElem_cons_succ, List.setIfInBounds_toArray, List.set_cons_zero, List.set_cons_succ]
      refine wpAnyH_take (i := 17) (v := ?_) rfl (by kernel_rfl) (by kernel_rfl) (by kernel_rfl) (fun _ _ _ h => h) (Or.inl ⟨by rfl, ?_⟩) (by assumption) ?_
      rotate_left
      · (intro wS hSw; (try dsimp only at hSw); (first | (go_simp; done) | (go_simp; with_reducible rfl)))
      try simp only [Act.put, List.getElem_toArray, List.getElem_cons_zero, List.getElem_cons_succ, List.setIfInBounds_toArray, List.set_cons_zero, List.set_cons_succ]
      refine wpAnyH_take (i := 18) (v := ?_) rfl (by kernel_rfl) (by kernel_rfl) (by kernel_rfl) (fun _ _ _ h => h) (Or.inl ⟨by rfl, ?_⟩) (by assumption) ?_
      rotate_left
      · (intro wS hSw; (try dsimp only at hSw); (first | (go_simp; done) | (go_simp; with_reducible rfl)))
      try simp only [Act.put, List.getElem_toArray, List.getElem_cons_zero, List.getElem_cons_succ, List.setIfInBounds_toArray, List.set_cons_zero, List.set_cons_succ]
      refine wpAnyH_take (i := 19) (v := ?_) rfl (by kernel_rfl) (by kernel_rfl) (by kernel_rfl) (fun _ _ _ h => h) (Or.inl ⟨by rfl, ?_⟩) (by assumption) ?_
      rotate_left
      · (intro wS hSw; (try dsimp only at hSw); (first | (go_simp; done) | (go_simp; with_reducible rfl)))
      try simp only [Act.put, List.getElem_toArray, List.getElem_cons_zero, List.getElem_cons_succ, List.setIfInBounds_toArray, List.set_cons_zero, List.set_cons_succ]
      refine wpAnyH_done (by kernel_rfl) ?_ _
      refine NoPanic.normal ?_
      go_wp2
      go_ret
      exact ⟨rfl, (by (repeat (first | exact hb | apply Below.drew | apply below_drewN | refine Below.setCell ?_ (by have := hb.size; (try simp at this); (try simp); (try omega)) _ | refine Below.alloc ?_ (by have := hb.size; (try simp at this); (try simp); (try omega)) _)))⟩
  · obtain ⟨t, ht⟩ : ∃ t, s.extract 0 60 = t := ⟨_, rfl⟩
    have hts : t.size ≤ 60 := by rw [← ht, ByteArray.size_extract]; omega
    have HL := Lib.hid (show t.size ≤ maxLen by unfold maxLen; omega)
    have HL6 := Lib.hid hts
    go_enter Try.func3, Try.ntmps3
    go_wp2_with (go_at_call 13; refine (awakea _).mono ?_; rintro e w1 ⟨rfl, hb1⟩; replace hb := hb1; clear hb1)
    clear ht
    by_cases hd : decT t
    · by_cases hv : valT t (t).size < 340282366920938463463374607431768211456
      · have HP := Lib.hid (show ParseTo t _ from .inl ⟨hd, hv, rfl⟩)
        have N0 := valT0 hd.1 (t).size
        have HX := Lib.hid (fun (p : Nat) (hp : p < 39) => txt_back hd (N := valT t (t).size) rfl (p := p) hp)
        obtain ⟨N, hN⟩ : ∃ N, valT t (t).size = N := ⟨_, rfl⟩
        rw [hN] at HP HX N0
        have N1 : N < 340282366920938463463374607431768211456 := by rw [← hN]; exact hv
        clear hd hv hN
        go_wp2_with fail
        refine (wparse_any _ _ HL.out).mono ?_
        rintro e w2 ⟨ht, hw2⟩
        obtain rfl := parse_det ht HP.out; clear ht
        replace hb := (show Below w.heap.size w _ from by (repeat (first | exact hb | apply Below.drew | apply below_drewN | refine Below.setCell ?_ (by have := hb.size; (try simp at this); (try simp); (try omega)) _ | refine Below.alloc ?_ (by have := hb.size; (try simp at this); (try simp); (try omega)) _))).trans (hw2.mono (by have := hb.size; (try simp at this); (try simp); (try omega)))
        clear hw2
        go_wp2_with fail
        refine (rparse_any _ _ HL6.out).mono ?_
        rintro e w3 ⟨ht, hw3⟩
        obtain rfl := parse_det ht HP.out; clear ht
        have p0 : w3.cell? ⟨w2.heap.size, 0, none⟩ = some (.int .u64 (hi N)) := cell_later hw3 (by (repeat (first | with_reducible assumption | (simp [go_sem]; done) | (simp [go_sem, *]; done) | with_reducible refine kdrew ?_ | (with_reducible refine ksame ?_; (simp [go_sem, *]; done)) | with_reducible refine kother ?_ (by simp; try omega) | with_reducible refine kalloc ?_ _)))
        have p1 : w3.cell? ⟨w2.heap.size, 1, none⟩ = some (.int .u64 (lo N)) := cell_later hw3 (by (repeat (first | with_reducible assumption | (simp [go_sem]; done) | (simp [go_sem, *]; done) | with_reducible refine kdrew ?_ | (with_reducible refine ksame ?_; (simp [go_sem, *]; done)) | with_reducible refine kother ?_ (by simp; try omega) | with_reducible refine kalloc ?_ _)))
        have zp0 : w2.heap.size < w3.heap.size := klt p0
        replace hb := (show Below w.heap.size w _ from by (repeat (first | exact hb | apply Below.drew | apply below_drewN | refine Below.setCell ?_ (by have := hb.size; (try simp at this); (try simp); (try omega)) _ | refine Below.alloc ?_ (by have := hb.size; (try simp at this); (try simp); (try omega)) _))).trans (hw3.mono (by have := hb.size; (try simp at this); (try simp); (try omega)))
        clear hw3
        go_wp2_with fail
        refine wp_region_noPanic ?_
        refine wp_region_held_drew (S := fun w' => w'.cell? ⟨w2.heap.size, 0, none⟩ = some (.int .u64 (hi N)) ∧ w'.cell? ⟨w2.heap.size, 1, none⟩ = some (.int .u64 (lo N)) ∧ w'.cell? ⟨w3.heap.size, 0, none⟩ = some (.int .u64 (hi N)) ∧ w'.cell? ⟨w3.heap.size, 1, none⟩ = some (.int .u64 (lo N))) (by kernel_rfl) (by refine ⟨?_, ?_, ?_, ?_⟩ <;> (repeat (first | with_reducible assumption | (simp [go_sem]; done) | (simp [go_sem, *]; done) | with_reducible refine kdrew ?_ | (with_reducible refine ksame ?_; (simp [go_sem, *]; done)) | with_reducible refine kother ?_ (by simp; try omega) | with_reducible refine kalloc ?_ _))) (fun hHeld => ?_)
        refine wpAnyH_take (i := 0) (v := ?_) rfl (by kernel_rfl) (by kernel_rfl) (by kernel_rfl) (fun _ _ _ h => h) (Or.inl ⟨by rfl, ?_⟩) (by assumption) ?_
        rotate_left
        · (intro wS hSw; (try dsimp only at hSw); (first | (go_simp; done) | (go_simp; with_reducible rfl)))
        try simp only [Act.put, List.getElem_toArray, List.getElem_cons_zero, List.getElem_cons_succ, List.setIfInBounds_toArray, List.set_cons_zero, List.set_cons_succ]
        refine wpAnyH_take (i := 2) (v := ?_) rfl (by kernel_rfl) (by kernel_rfl) (by kernel_rfl) (fun _ _ _ h => h) (Or.inl ⟨by rfl, ?_⟩) (by assumption) ?_
        rotate_left
        · (intro wS hSw; (try dsimp only at hSw); (first | (go_simp; done) | (go_simp; with_reducible rfl)))
        try simp only [Act.put, List.getElem_toArray, List.getElem_cons_zero, List.getElem_cons_succ, List.setIfInBounds_toArray, List.set_cons_zero, List.set_cons_succ]
        refine wpAnyH_ready (rs := [1]) (by kernel_rfl) (by simp) ?_
        refine AllReadyH.cons rfl (fun K hK => ?_) AllReadyH.nil
        rw [if_pos (by rfl)]
        refine wp_enter (by go_simp; exact ⟨rfl, rfl⟩) ?_
        refine (own_any _ _ _).mono ?_
        rintro e wn ⟨rfl, hbn⟩
        replace p0 : wn.cell? ⟨w2.heap.size, 0, none⟩ = some (.int .u64 (hi N)) := cell_later hbn (by (repeat (first | with_reducible exact p0 | with_reducible refine kalloc ?_ _ | with_reducible refine kdrew ?_ | with_reducible refine kdrewN ?_ _ | with_reducible refine kother ?_ (by simp; try omega))))
        replace p1 : wn.cell? ⟨w2.heap.size, 1, none⟩ = some (.int .u64 (lo N)) := cell_later hbn (by (repeat (first | with_reducible exact p1 | with_reducible refine kalloc ?_ _ | with_reducible refine kdrew ?_ | with_reducible refine kdrewN ?_ _ | with_reducible refine kother ?_ (by simp; try omega))))
        have q0 : wn.cell? ⟨w3.heap.size, 0, none⟩ = some (.int .u64 (hi N)) := cell_later hbn (by (repeat (first | with_reducible assumption | (simp [go_sem]; done) | (simp [go_sem, *]; done) | with_reducible refine kdrew ?_ | (with_reducible refine ksame ?_; (simp [go_sem, *]; done)) | with_reducible refine kother ?_ (by simp; try omega) | with_reducible refine kalloc ?_ _)))
        have q1 : wn.cell? ⟨w3.heap.size, 1, none⟩ = some (.int .u64 (lo N)) := cell_later hbn (by (repeat (first | with_reducible assumption | (simp [go_sem]; done) | (simp [go_sem, *]; done) | with_reducible refine kdrew ?_ | (with_reducible refine ksame ?_; (simp [go_sem, *]; done)) | with_reducible refine kother ?_ (by simp; try omega) | with_reducible refine kalloc ?_ _)))
        have zp0 : w2.heap.size < wn.heap.size := klt p0
        have zq0 : w3.heap.size < wn.heap.size := klt q0
        replace hb := (show Below w.heap.size w _ from by (repeat (first | exact hb | apply Below.drew | apply below_drewN | refine Below.setCell ?_ (by have := hb.size; (try simp at this); (try simp); (try omega)) _ | refine Below.alloc ?_ (by have := hb.size; (try simp at this); (try simp); (try omega)) _))).trans (hbn.mono (by have := hb.size; (try simp at this); (try simp); (try omega)))
        clear hbn
        refine ⟨_, rfl, ?_⟩
        refine hK.out _ _ (by refine ⟨?_, ?_, ?_, ?_⟩ <;> (repeat (first | with_reducible assumption | (simp [go_sem]; done) | (simp [go_sem, *]; done) | with_reducible refine kdrew ?_ | (with_reducible refine ksame ?_; (simp [go_sem, *]; done)) | with_reducible refine kother ?_ (by simp; try omega) | with_reducible refine kalloc ?_ _))) (fun hHeld => ?_)
        clear hK K
        try simp only [Act.put, List.getElem_toArray, List.getElem_cons_zero, List.getElem_cons_succ, List.setIfInBounds_toArray, List.set_cons_zero, List.set_cons_succ]
        refine wpAnyH_take (i := 3) (v := ?_) rfl (by kernel_rfl) (by kernel_rfl) (by kernel_rfl) (fun _ _ _ h => h) (Or.inl ⟨by rfl, ?_⟩) (by assumption) ?_
        rotate_left
        · (intro wS hSw; (try dsimp only at hSw); (first | (go_simp; done) | (go_simp; with_reducible rfl)))
        try simp only [Act.put, List.getElem_toArray, List.getElem_cons_zero, List.getElem_cons_succ, List.setIfInBounds_toArray, List.set_cons_zero, List.set_cons_succ]
        refine wpAnyH_take (i := 4) (v := ?_) rfl (by kernel_rfl) (by kernel_rfl) (by kernel_rfl) (fun _ _ _ h => h) (Or.inl ⟨by rfl, ?_⟩) (by assumption) ?_
        rotate_left
        · (intro wS hSw; (try dsimp only at hSw); (first | (go_simp; done) | (go_simp; with_reducible rfl)))
        try simp only [Act.put, List.getElem_toArray, List.getElem_cons_zero, List.getElem_cons_succ, List.setIfInBounds_toArray, List.set_cons_zero, List.set_cons_succ]
        refine wpAnyH_take (i := 5) (v := ?_) rfl (by kernel_rfl) (by kernel_rfl) (by kernel_rfl) (fun _ _ _ h => h) (Or.inl ⟨by rfl, ?_⟩) (by assumption) ?_
        rotate_left
        · (intro wS hSw; (try dsimp only at hSw); (first | (go_simp; done) | (go_simp; with_reducible rfl)))
        try simp only [Act.put, List.getElem_toArray, List.getElem_cons_zero, List.getElem_cons_succ, List.setIfInBounds_toArray, List.set_cons_zero, List.set_cons_succ]
        refine wpAnyH_take (i := 6) (v := ?_) rfl (by kernel_rfl) (by kernel_rfl) (by kernel_rfl) (fun _ _ _ h => h) (Or.inl ⟨by rfl, ?_⟩) (by assumption) ?_
        rotate_left
        · (intro wS hSw; (try dsimp only at hSw); (first | (go_simp; done) | (go_simp; with_reducible rfl)))
        try simp only [Act.put, List.getElem_toArray, List.getElem_cons_zero, List.getElem_cons_succ, List.setIfInBounds_toArray, List.set_cons_zero, List.set_cons_succ]
        refine wpAnyH_take (i := 7) (v := ?_) rfl (by kernel_rfl) (by kernel_rfl) (by kernel_rfl) (fun _ _ _ h => h) (Or.inl ⟨by rfl, ?_⟩) (by assumption) ?_
        rotate_left
        · (intro wS hSw; (try dsimp only at hSw); (first | (go_simp; done) | (go_simp; with_reducible rfl)))
        try simp only [Act.put, List.getElem_toArray, List.getElem_cons_zero, List.getElem_cons_succ, List.setIfInBounds_toArray, List.set_cons_zero, List.set_cons_succ]
        refine wpAnyH_take (i := 8) (v := ?_) rfl (by kernel_rfl) (by kernel_rfl) (by kernel_rfl) (fun _ _ _ h => h) (Or.inl ⟨by rfl, ?_⟩) (by assumption) ?_
        rotate_left
        · (intro wS hSw; (try dsimp only at hSw); (first | (go_simp; done) | (go_simp; with_reducible rfl)))
        try simp only [Act.put, List.getElem_toArray, List.getElem_cons_zero, List.getElem_cons_succ, List.setIfInBounds_toArray, List.set_cons_zero, List.set_cons_succ]
        refine wpAnyH_take (i := 9) (v := ?_) rfl (by kernel_rfl) (by kernel_rfl) (by kernel_rfl) (fun _ _ _ h => h) (Or.inl ⟨by rfl, ?_⟩) (by assumption) ?_
        rotate_left
        · (intro wS hSw; (try dsimp only at hSw); (first | (go_simp; done) | (go_simp; with_reducible rfl)))
        try simp only [Act.put, List.getElem_toArray, List.getElem_cons_zero, List.getElem_cons_succ, List.setIfInBounds_toArray, List.set_cons_zero, List.set_cons_succ]
        refine wpAnyH_take (i := 10) (v := ?_) rfl (by kernel_rfl) (by kernel_rfl) (by kernel_rfl) (fun _ _ _ h => h) (Or.inl ⟨by rfl, ?_⟩) (by assumption) ?_
        rotate_left
        · (intro wS hSw; (try dsimp only at hSw); (first | (go_simp; done) | (go_simp; with_reducible rfl)))
        try simp only [Act.put, List.getElem_toArray, List.getElem_cons_zero, List.getElem_cons_succ, List.setIfInBounds_toArray, List.set_cons_zero, List.set_cons_succ]
        refine wpAnyH_take (i := 11) (v := ?_) rfl (by kernel_rfl) (by kernel_rfl) (by kernel_rfl) (fun _ _ _ h => h) (Or.inl ⟨by rfl, ?_⟩) (by assumption) ?_
        rotate_left
        · (intro wS hSw; (try dsimp only at hSw); (first | (go_simp; done) | (go_simp; with_reducible rfl)))
        try simp only [Act.put, List.getElem_toArray, List.getElem_cons_zero, List.getElem_cons_succ, List.setIfInBounds_toArray, List.set_cons_zero, List.set_cons_succ]
        refine wpAnyH_take (i := 12) (v := ?_) rfl (by kernel_rfl) (by kernel_rfl) (by kernel_rfl) (fun _ _ _ h => h) (Or.inl ⟨by rfl, ?_⟩) (by assumption) ?_
        rotate_left
        · (intro wS hSw; (try dsimp only at hSw); (first | (go_simp; done) | (go_simp; with_reducible rfl)))
        try simp only [Act.put, List.getElem_toArray, List.getElem_cons_zero, List.getElem_cons_succ, List.setIfInBounds_toArray, List.set_cons_zero, List.set_cons_succ]
        refine wpAnyH_take (i := 13) (v := ?_) rfl (by kernel_rfl) (by kernel_rfl) (by kernel_rfl) (fun _ _ _ h => h) (Or.inl ⟨by rfl, ?_⟩) (by assumption) ?_
        rotate_left
        · (intro wS hSw; (try dsimp only at hSw); (first | (go_simp; done) | (go_simp; with_reducible rfl)))
        try simp only [Act.put, List.getElem_toArray, List.getElem_cons_zero, List.getElem_cons_succ, List.setIfInBounds_toArray, List.set_cons_zero, List.set_cons_succ]
        refine wpAnyH_take (i := 15) (v := ?_) rfl (by kernel_rfl) (by kernel_rfl) (by kernel_rfl) (fun _ _ _ h => h) (Or.inl ⟨by rfl, ?_⟩) (by assumption) ?_
        rotate_left
        · (intro wS hSw; (try dsimp only at hSw); (first | (go_simp; done) | (go_simp; with_reducible rfl)))
        try simp only [Act.put, List.getElem_toArray, List.getElem_cons_zero, List.getElem_cons_succ, List.setIfInBounds_toArray, List.set_cons_zero, List.set_cons_succ]
        refine wpAnyH_ready (rs := [14]) (by kernel_rfl) (by simp) ?_
        refine AllReadyH.cons rfl (fun K hK => ?_) AllReadyH.nil
        rw [if_pos (by rfl)]
        refine wp_enter (by go_simp; exact ⟨rfl, rfl⟩) ?_
        refine (wtext_num N _ N0 N1).mono ?_
        rintro e wn ⟨ht, hbn⟩
        obtain ⟨p, hp, hq1, hq2, rfl⟩ := ht; rw [HX.out p hp hq1 hq2]; clear hq1 hq2
        replace p0 : wn.cell? ⟨w2.heap.size, 0, none⟩ = some (.int .u64 (hi N)) := cell_later hbn (by (repeat (first | with_reducible exact p0 | with_reducible refine kalloc ?_ _ | with_reducible refine kdrew ?_ | with_reducible refine kdrewN ?_ _ | with_reducible refine kother ?_ (by simp; try omega))))
        replace p1 : wn.cell? ⟨w2.heap.size, 1, none⟩ = some (.int .u64 (lo N)) := cell_later hbn (by (repeat (first | with_reducible exact p1 | with_reducible refine kalloc ?_ _ | with_reducible refine kdrew ?_ | with_reducible refine kdrewN ?_ _ | with_reducible refine kother ?_ (by simp; try omega))))
        replace q0 : wn.cell? ⟨w3.heap.size, 0, none⟩ = some (.int .u64 (hi N)) := cell_later hbn (by (repeat (first | with_reducible exact q0 | with_reducible refine kalloc ?_ _ | with_reducible refine kdrew ?_ | with_reducible refine kdrewN ?_ _ | with_reducible refine kother ?_ (by simp; try omega))))
        replace q1 : wn.cell? ⟨w3.heap.size, 1, none⟩ = some (.int .u64 (lo N)) := cell_later hbn (by (repeat (first | with_reducible exact q1 | with_reducible refine kalloc ?_ _ | with_reducible refine kdrew ?_ | with_reducible refine kdrewN ?_ _ | with_reducible refine kother ?_ (by simp; try omega))))
        have zp0 : w2.heap.size < wn.heap.size := klt p0
        have zq0 : w3.heap.size < wn.heap.size := klt q0
        replace hb := (show Below w.heap.size w _ from by (repeat (first | exact hb | apply Below.drew | apply below_drewN | refine Below.setCell ?_ (by have := hb.size; (try simp at this); (try simp); (try omega)) _ | refine Below.alloc ?_ (by have := hb.size; (try simp at this); (try simp); (try omega)) _))).trans (hbn.mono (by have := hb.size; (try simp at this); (try simp); (try omega)))
        clear hbn
        refine ⟨_, rfl, ?_⟩
        refine hK.out _ _ (by refine ⟨?_, ?_, ?_, ?_⟩ <;> (repeat (first | with_reducible assumption | (simp [go_sem]; done) | (simp [go_sem, *]; done) | with_reducible refine kdrew ?_ | (with_reducible refine ksame ?_; (simp [go_sem, *]; done)) | with_reducible refine kother ?_ (by simp; try omega) | with_reducible refine kalloc ?_ _))) (fun hHeld => ?_)
        clear hK K
        try simp only [Act.put, List.getElem_toArray, List.getElem_cons_zero, List.getElem_cons_succ, List.setIfInBounds_toArray, List.set_cons_zero, List.set_cons_succ]
        refine wpAnyH_take (i := 16) (v := ?_) rfl (by kernel_rfl) (by kernel_rfl) (by kernel_rfl) (fun _ _ _ h => h) (Or.inl ⟨by rfl, ?_⟩) (by assumption) ?_
        rotate_left
        · (intro wS hSw; (try dsimp only at hSw); (first | (go_simp; done) | (go_simp; with_reducible rfl)))
        try simp only [Act.put, List.getElem_toArray, List.getElem_cons_zero, List.getElem_cons_succ, List.setIfInBounds_toArray, List.set_cons_zero, List.set_cons_succ]
        refine wpAnyH_take (i := 17) (v := ?_) rfl (by kernel_rfl) (by kernel_rfl) (by kernel_rfl) (fun _ _ _ h => h) (Or.inl ⟨by rfl, ?_⟩) (by assumption) ?_
        rotate_left
        · (intro wS hSw; (try dsimp only at hSw); (first | (go_simp; done) | (go_simp; with_reducible rfl)))
        try simp only [Act.put, List.getElem_toArray, List.getElem_cons_zero, List.getElem_cons_succ, List.setIfInBounds_toArray, List.set_cons_zero, List.set_cons_succ]
        refine wpAnyH_take (i := 18) (v := ?_) rfl (by kernel_rfl) (by kernel_rfl) (by kernel_rfl) (fun _ _ _ h => h) (Or.inl ⟨by rfl, ?_⟩) (by assumption) ?_
        rotate_left
        · (intro wS hSw; (try dsimp only at hSw); (first | (go_simp; done) | (go_simp; with_reducible rfl)))
        try simp only [Act.put, List.getElem_toArray, List.getElem_cons_zero, List.getElem_cons_succ, List.setIfInBounds_toArray, List.set_cons_zero, List.set_cons_succ]
        refine wpAnyH_take (i := 19) (v := ?_) rfl (by kernel_rfl) (by kernel_rfl) (by kernel_rfl) (fun _ _ _ h => h) (Or.inl ⟨by rfl, ?_⟩) (by assumption) ?_
        rotate_left
        · (intro wS hSw; (try dsimp only at hSw); (first | (go_simp; done) | (go_simp; with_reducible rfl)))
        try simp only [Act.put, List.getElem_toArray, List.getElem_cons_zero, List.getElem_cons_succ, List.setIfInBounds_toArray, List.set_cons_zero, List.set_cons_succ]
        refine wpAnyH_done (by kernel_rfl) ?_ _
        refine NoPanic.normal ?_
        go_wp2
        go_ret
        exact ⟨rfl, (by (repeat (first | exact hb | apply Below.drew | apply below_drewN | refine Below.setCell ?_ (by have := hb.size; (try simp at this); (try simp); (try omega)) _ | refine Below.alloc ?_ (by have := hb.size; (try simp at this); (try simp); (try omega)) _)))⟩
      · have HP := Lib.hid (parse_over hd (by omega))
        clear hd hv
        go_wp2_with fail
        refine (wparse_any _ _ HL.out).mono ?_
        rintro e w2 ⟨ht, hw2⟩
        obtain rfl := parse_det ht HP.out; clear ht
        replace hb := (show Below w.heap.size w _ from by (repeat (first | exact hb | apply Below.drew | apply below_drewN | refine Below.setCell ?_ (by have := hb.size; (try simp at this); (try simp); (try omega)) _ | refine Below.alloc ?_ (by have := hb.size; (try simp at this); (try simp); (try omega)) _))).trans (hw2.mono (by have := hb.size; (try simp at this); (try simp); (try omega)))
        clear hw2
        go_wp2_with fail
        refine (rparse_any _ _ HL6.out).mono ?_
        rintro e w3 ⟨ht, hw3⟩
        obtain rfl := parse_det ht HP.out; clear ht
        have p0 : w3.cell? ⟨w2.heap.size, 0, none⟩ = some (.int .u64 (0)) := cell_later hw3 (by (repeat (first | with_reducible assumption | (simp [go_sem]; done) | (simp [go_sem, *]; done) | with_reducible refine kdrew ?_ | (with_reducible refine ksame ?_; (simp [go_sem, *]; done)) | with_reducible refine kother ?_ (by simp; try omega) | with_reducible refine kalloc ?_ _)))
        have p1 : w3.cell? ⟨w2.heap.size, 1, none⟩ = some (.int .u64 (0)) := cell_later hw3 (by (repeat (first | with_reducible assumption | (simp [go_sem]; done) | (simp [go_sem, *]; done) | with_reducible refine kdrew ?_ | (with_reducible refine ksame ?_; (simp [go_sem, *]; done)) | with_reducible refine kother ?_ (by simp; try omega) | with_reducible refine kalloc ?_ _)))
        have zp0 : w2.heap.size < w3.heap.size := klt p0
        replace hb := (show Below w.heap.size w _ from by (repeat (first | exact hb | apply Below.drew | apply below_drewN | refine Below.setCell ?_ (by have := hb.size; (try simp at this); (try simp); (try omega)) _ | refine Below.alloc ?_ (by have := hb.size; (try simp at this); (try simp); (try omega)) _))).trans (hw3.mono (by have := hb.size; (try simp at this); (try simp); (try omega)))
        clear hw3
        go_wp2_with fail
        refine wp_region_noPanic ?_
        refine wp_region_held_drew (S := fun w' => w'.cell? ⟨w2.heap.size, 0, none⟩ = some (.int .u64 (0)) ∧ w'.cell? ⟨w2.heap.size, 1, none⟩ = some (.int .u64 (0)) ∧ w'.cell? ⟨w3.heap.size, 0, none⟩ = some (.int .u64 (0)) ∧ w'.cell? ⟨w3.heap.size, 1, none⟩ = some (.int .u64 (0))) (by kernel_rfl) (by refine ⟨?_, ?_, ?_, ?_⟩ <;> (repeat (first | with_reducible assumption | (simp [go_sem]; done) | (simp [go_sem, *]; done) | with_reducible refine kdrew ?_ | (with_reducible refine ksame ?_; (simp [go_sem, *]; done)) | with_reducible refine kother ?_ (by simp; try omega) | with_reducible refine kalloc ?_ _))) (fun hHeld => ?_)
        refine wpAnyH_take (i := 0) (v := ?_) rfl (by kernel_rfl) (by kernel_rfl) (by kernel_rfl) (fun _ _ _ h => h) (Or.inl ⟨by rfl, ?_⟩) (by assumption) ?_
        rotate_left
        · (intro wS hSw; (try dsimp only at hSw); (first | (go_simp; done) | (go_simp; with_reducible rfl)))
        try simp only [Act.put, List.getElem_toArray, List.getElem_cons_zero, List.getElem_cons_succ, List.setIfInBounds_toArray, List.set_cons_zero, List.set_cons_succ]
        refine wpAnyH_take (i := 2) (v := ?_) rfl (by kernel_rfl) (by kernel_rfl) (by kernel_rfl) (fun _ _ _ h => h) (Or.inl ⟨by rfl, ?_⟩) (by assumption) ?_
        rotate_left
        · (intro wS hSw; (try dsimp only at hSw); (first | (go_simp; done) | (go_simp; with_reducible rfl)))
        try simp only [Act.put, List.getElem_toArray, List.getElem_cons_zero, List.getElem_cons_succ, List.setIfInBounds_toArray, List.set_cons_zero, List.set_cons_succ]
        refine wpAnyH_ready (rs := [1]) (by kernel_rfl) (by simp) ?_
        refine AllReadyH.cons rfl (fun K hK => ?_) AllReadyH.nil
        rw [if_pos (by rfl)]
        refine wp_enter (by go_simp; exact ⟨rfl, rfl⟩) ?_
        refine (own_any _ _ _).mono ?_
        rintro e wn ⟨rfl, hbn⟩
        replace p0 : wn.cell? ⟨w2.heap.size, 0, none⟩ = some (.int .u64 (0)) := cell_later hbn (by (repeat (first | with_reducible exact p0 | with_reducible refine kalloc ?_ _ | with_reducible refine kdrew ?_ | with_reducible refine kdrewN ?_ _ | with_reducible refine kother ?_ (by simp; try omega))))
        replace p1 : wn.cell? ⟨w2.heap.size, 1, none⟩ = some (.int .u64 (0)) := cell_later hbn (by (repeat (first | with_reducible exact p1 | with_reducible refine kalloc ?_ _ | with_reducible refine kdrew ?_ | with_reducible refine kdrewN ?_ _ | with_reducible refine kother ?_ (by simp; try omega))))
        have q0 : wn.cell? ⟨w3.heap.size, 0, none⟩ = some (.int .u64 (0)) := cell_later hbn (by (repeat (first | with_reducible assumption | (simp [go_sem]; done) | (simp [go_sem, *]; done) | with_reducible refine kdrew ?_ | (with_reducible refine ksame ?_; (simp [go_sem, *]; done)) | with_reducible refine kother ?_ (by simp; try omega) | with_reducible refine kalloc ?_ _)))
        have q1 : wn.cell? ⟨w3.heap.size, 1, none⟩ = some (.int .u64 (0)) := cell_later hbn (by (repeat (first | with_reducible assumption | (simp [go_sem]; done) | (simp [go_sem, *]; done) | with_reducible refine kdrew ?_ | (with_reducible refine ksame ?_; (simp [go_sem, *]; done)) | with_reducible refine kother ?_ (by simp; try omega) | with_reducible refine kalloc ?_ _)))
        have zp0 : w2.heap.size < wn.heap.size := klt p0
        have zq0 : w3.heap.size < wn.heap.size := klt q0
        replace hb := (show Below w.heap.size w _ from by (repeat (first | exact hb | apply Below.drew | apply below_drewN | refine Below.setCell ?_ (by have := hb.size; (try simp at this); (try simp); (try omega)) _ | refine Below.alloc ?_ (by have := hb.size; (try simp at this); (try simp); (try omega)) _))).trans (hbn.mono (by have := hb.size; (try simp at this); (try simp); (try omega)))
        clear hbn
        refine ⟨_, rfl, ?_⟩
        refine hK.out _ _ (by refine ⟨?_, ?_, ?_, ?_⟩ <;> (repeat (first | with_reducible assumption | (simp [go_sem]; done) | (simp [go_sem, *]; done) | with_reducible refine kdrew ?_ | (with_reducible refine ksame ?_; (simp [go_sem, *]; done)) | with_reducible refine kother ?_ (by simp; try omega) | with_reducible refine kalloc ?_ _))) (fun hHeld => ?_)
        clear hK K
        try simp only [Act.put, List.getElem_toArray, List.getElem_cons_zero, List.getElem_cons_succ, List.setIfInBounds_toArray, List.set_cons_zero, List.set_cons_succ]
        refine wpAnyH_take (i := 3) (v := ?_) rfl (by kernel_rfl) (by kernel_rfl) (by kernel_rfl) (fun _ _ _ h => h) (Or.inl ⟨by rfl, ?_⟩) (by assumption) ?_
        rotate_left
        · (intro wS hSw; (try dsimp only at hSw); (first | (go_simp; done) | (go_simp; with_reducible rfl)))
        try simp only [Act.put, List.getElem_toArray, List.getElem_cons_zero, List.getElem_cons_succ, List.setIfInBounds_toArray, List.set_cons_zero, List.set_cons_succ]
        refine wpAnyH_take (i := 4) (v := ?_) rfl (by kernel_rfl) (by kernel_rfl) (by kernel_rfl) (fun _ _ _ h => h) (Or.inl ⟨by rfl, ?_⟩) (by assumption) ?_
        rotate_left
        · (intro wS hSw; (try dsimp only at hSw); (first | (go_simp; done) | (go_simp; with_reducible rfl)))
        try simp only [Act.put, List.getElem_toArray, List.getElem_cons_zero, List.getElem_cons_succ, List.setIfInBounds_toArray, List.set_cons_zero, List.set_cons_succ]
        refine wpAnyH_take (i := 5) (v := ?_) rfl (by kernel_rfl) (by kernel_rfl) (by kernel_rfl) (fun _ _ _ h => h) (Or.inl ⟨by rfl, ?_⟩) (by assumption) ?_
        rotate_left
        · (intro wS hSw; (try dsimp only at hSw); (first | (go_simp; done) | (go_simp; with_reducible rfl)))
        try simp only [Act.put, List.getElem_toArray, List.getElem_cons_zero, List.getElem_cons_succ, List.setIfInBounds_toArray, List.set_cons_zero, List.set_cons_succ]
        refine wpAnyH_take (i := 6) (v := ?_) rfl (by kernel_rfl) (by kernel_rfl) (by kernel_rfl) (fun _ _ _ h => h) (Or.inl ⟨by rfl, ?_⟩) (by assumption) ?_
        rotate_left
        · (intro wS hSw; (try dsimp only at hSw); (first | (go_simp; done) | (go_simp; with_reducible rfl)))
        try simp only [Act.put, List.getElem_toArray, List.getElem_cons_zero, List.getElem_cons_succ, List.setIfInBounds_toArray, List.set_cons_zero, List.set_cons_succ]
        refine wpAnyH_take (i := 7) (v := ?_) rfl (by kernel_rfl) (by kernel_rfl) (by kernel_rfl) (fun _ _ _ h => h) (Or.inl ⟨by rfl, ?_⟩) (by assumption) ?_
        rotate_left
        · (intro wS hSw; (try dsimp only at hSw); (first | (go_simp; done) | (go_simp; with_reducible rfl)))
        try simp only [Act.put, List.getElem_toArray, List.getElem_cons_zero, List.getElem_cons_succ, List.setIfInBounds_toArray, List.set_cons_zero, List.set_cons_succ]
        refine wpAnyH_take (i := 8) (v := ?_) rfl (by kernel_rfl) (by kernel_rfl) (by kernel_rfl) (fun _ _ _ h => h) (Or.inl ⟨by rfl, ?_⟩) (by assumption) ?_
        rotate_left
        · (intro wS hSw; (try dsimp only at hSw); (first | (go_simp; done) | (go_simp; with_reducible rfl)))
        try simp only [Act.put, List.getElem_toArray, List.getElem_cons_zero, List.getElem_cons_succ, List.setIfInBounds_toArray, List.set_cons_zero, List.set_cons_succ]
        refine wpAnyH_take (i := 9) (v := ?_) rfl (by kernel_rfl) (by kernel_rfl) (by kernel_rfl) (fun _ _ _ h => h) (Or.inl ⟨by rfl, ?_⟩) (by assumption) ?_
        rotate_left
        · (intro wS hSw; (try dsimp only at hSw); (first | (go_simp; done) | (go_simp; with_reducible rfl)))
        try simp only [Act.put, List.getElem_toArray, List.getElem_cons_zero, List.getElem_cons_succ, List.setIfInBounds_toArray, List.set_cons_zero, List.set_cons_succ]
        refine wpAnyH_take (i := 10) (v := ?_) rfl (by kernel_rfl) (by kernel_rfl) (by kernel_rfl) (fun _ _ _ h => h) (Or.inl ⟨by rfl, ?_⟩) (by assumption) ?_
        rotate_left
        · (intro wS hSw; (try dsimp only at hSw); (first | (go_simp; done) | (go_simp; with_reducible rfl)))
        try simp only [Act.put, List.getElem_toArray, List.getElem_cons_zero, List.getElem_cons_succ, List.setIfInBounds_toArray, List.set_cons_zero, List.set_cons_succ]
        refine wpAnyH_take (i := 11) (v := ?_) rfl (by kernel_rfl) (by kernel_rfl) (by kernel_rfl) (fun _ _ _ h => h) (Or.inl ⟨by rfl, ?_⟩) (by assumption) ?_
        rotate_left
        · (intro wS hSw; (try dsimp only at hSw); (first | (go_simp; done) | (go_simp; with_reducible rfl)))
        try simp only [Act.put, List.getElem_toArray, List.getElem_cons_zero, List.getElem_cons_succ, List.setIfInBounds_toArray, List.set_cons_zero, List.set_cons_succ]
        refine wpAnyH_take (i := 12) (v := ?_) rfl (by kernel_rfl) (by kernel_rfl) (by kernel_rfl) (fun _ _ _ h => h) (Or.inl ⟨by rfl, ?_⟩) (by assumption) ?_
        rotate_left
        · (intro wS hSw; (try dsimp only at hSw); (first | (go_simp; done) | (go_simp; with_reducible rfl)))
        try simp only [Act.put, List.getElem_toArray, List.getElem_cons_zero, List.getElem_cons_succ, List.setIfInBounds_toArray, List.set_cons_zero, List.set_cons_succ]
        refine wpAnyH_take (i := 13) (v := undef) rfl (by kernel_rfl) (by kernel_rfl) (by kernel_rfl) (fun _ _ _ h => h) (Or.inr ⟨by rfl, rfl⟩) (by assumption) ?_
        try simp only [Act.put, List.getElem_toArray, List.getElem_cons_zero, List.getElem_cons_succ, List.setIfInBounds_toArray, List.set_cons_zero, List.set_cons_succ]
        refine wpAnyH_take (i := 14) (v := undef) rfl (by kernel_rfl) (by kernel_rfl) (by kernel_rfl) (fun _ _ _ h => h) (Or.inr ⟨by rfl, rfl⟩) (by assumption) ?_
        try simp only [Act.put, List.getElem_toArray, List.getElem_cons_zero, List.getElem_cons_succ, List.setIfInBounds_toArray, List.set_cons_zero, List.set_cons_succ]
        refine wpAnyH_take (i := 15) (v := undef) rfl (by kernel_rfl) (by kernel_rfl) (by kernel_rfl) (fun _ _ _ h => h) (Or.inr ⟨by rfl, rfl⟩) (by assumption) ?_
        try simp only [Act.put, List.getElem_toArray, List.getElem_cons_zero, List.getElem_cons_succ, List.setIfInBounds_toArray, List.set_cons_zero, List.set_cons_succ]
        refine wpAnyH_take (i := 16) (v := undef) rfl (by kernel_rfl) (by kernel_rfl) (by kernel_rfl) (fun _ _ _ h => h) (Or.inr ⟨by rfl, rfl⟩) (by assumption) ?_
        try simp only [Act.put, List.getElem_toArray, List.getElem_cons_zero, List.getElem_cons_succ, List.setIfInBounds_toArray, List.set_cons_zero, List.set_cons_succ]
        refine wpAnyH_take (i := 17) (v := ?_) rfl (by kernel_rfl) (by kernel_rfl) (by kernel_rfl) (fun _ _ _ h => h) (Or.inl ⟨by rfl, ?_⟩) (by assumption) ?_
        rotate_left
        · (intro wS hSw; (try dsimp only at hSw); (first | (go_simp; done) | (go_simp; with_reducible rfl)))
        try simp only [Act.put, List.getElem_toArray, List.getElem_cons_zero, List.getElem_cons_succ, List.setIfInBounds_toArray, List.set_cons_zero, List.set_cons_succ]
        refine wpAnyH_take (i := 18) (v := ?_) rfl (by kernel_rfl) (by kernel_rfl) (by kernel_rfl) (fun _ _ _ h => h) (Or.inl ⟨by rfl, ?_⟩) (by assumption) ?_
        rotate_left
        · (intro wS hSw; (try dsimp only at hSw); (first | (go_simp; done) | (go_simp; with_reducible rfl)))
        try simp only [Act.put, List.getElem_toArray, List.getElem_cons_zero, List.getElem_cons_succ, List.setIfInBounds_toArray, List.set_cons_zero, List.set_cons_succ]
        refine wpAnyH_take (i := 19) (v := ?_) rfl (by kernel_rfl) (by kernel_rfl) (by kernel_rfl) (fun _ _ _ h => h) (Or.inl ⟨by rfl, ?_⟩) (by assumption) ?_
        rotate_left
        · (intro wS hSw; (try dsimp only at hSw); (first | (go_simp; done) | (go_simp; with_reducible rfl)))
        try simp only [Act.put, List.getElem_toArray, List.getElem_cons_zero, List.getElem_cons_succ, List.setIfInBounds_toArray, List.set_cons_zero, List.set_cons_succ]
        refine wpAnyH_done (by kernel_rfl) ?_ _
        refine NoPanic.normal ?_
        go_wp2
        go_ret
        exact ⟨rfl, (by (repeat (first | exact hb | apply Below.drew | apply below_drewN | refine Below.setCell ?_ (by have := hb.size; (try simp at this); (try simp); (try omega)) _ | refine Below.alloc ?_ (by have := hb.size; (try simp at this); (try simp); (try omega)) _)))⟩
    · have HP := Lib.hid (parse_no hd)
      clear hd
      go_wp2_with fail
      refine (wparse_any _ _ HL.out).mono ?_
      rintro e w2 ⟨ht, hw2⟩
      obtain rfl := parse_det ht HP.out; clear ht
      replace hb := (show Below w.heap.size w _ from by (repeat (first | exact hb | apply Below.drew | apply below_drewN | refine Below.setCell ?_ (by have := hb.size; (try simp at this); (try simp); (try omega)) _ | refine Below.alloc ?_ (by have := hb.size; (try simp at this); (try simp); (try omega)) _))).trans (hw2.mono (by have := hb.size; (try simp at this); (try simp); (try omega)))
      clear hw2
      go_wp2_with fail
      refine (rparse_any _ _ HL6.out).mono ?_
      rintro e w3 ⟨ht, hw3⟩
      obtain rfl := parse_det ht HP.out; clear ht
      have p0 : w3.cell? ⟨w2.heap.size, 0, none⟩ = some (.int .u64 (0)) := cell_later hw3 (by (repeat (first | with_reducible assumption | (simp [go_sem]; done) | (simp [go_sem, *]; done) | with_reducible refine kdrew ?_ | (with_reducible refine ksame ?_; (simp [go_sem, *]; done)) | with_reducible refine kother ?_ (by simp; try omega) | with_reducible refine kalloc ?_ _)))
      have p1 : w3.cell? ⟨w2.heap.size, 1, none⟩ = some (.int .u64 (0)) := cell_later hw3 (by (repeat (first | with_reducible assumption | (simp [go_sem]; done) | (simp [go_sem, *]; done) | with_reducible refine kdrew ?_ | (with_reducible refine ksame ?_; (simp [go_sem, *]; done)) | with_reducible refine kother ?_ (by simp; try omega) | with_reducible refine kalloc ?_ _)))
      have zp0 : w2.heap.size < w3.heap.size := klt p0
      replace hb := (show Below w.heap.size w _ from by (repeat (first | exact hb | apply Below.drew | apply below_drewN | refine Below.setCell ?_ (by have := hb.size; (try simp at this); (try simp); (try omega)) _ | refine Below.alloc ?_ (by have := hb.size; (try simp at this); (try simp); (try omega)) _))).trans (hw3.mono (by have := hb.size; (try simp at this); (try simp); (try omega)))
      clear hw3
      go_wp2_with fail
      refine wp_region_noPanic ?_
      refine wp_region_held_drew (S := fun w' => w'.cell? ⟨w2.heap.size, 0, none⟩ = some (.int .u64 (0)) ∧ w'.cell? ⟨w2.heap.size, 1, none⟩ = some (.int .u64 (0)) ∧ w'.cell? ⟨w3.heap.size, 0, none⟩ = some (.int .u64 (0)) ∧ w'.cell? ⟨w3.heap.size, 1, none⟩ = some (.int .u64 (0))) (by kernel_rfl) (by refine ⟨?_, ?_, ?_, ?_⟩ <;> (repeat (first | with_reducible assumption | (simp [go_sem]; done) | (simp [go_sem, *]; done) | with_reducible refine kdrew ?_ | (with_reducible refine ksame ?_; (simp [go_sem, *]; done)) | with_reducible refine kother ?_ (by simp; try omega) | with_reducible refine kalloc ?_ _))) (fun hHeld => ?_)
      refine wpAnyH_take (i := 0) (v := ?_) rfl (by kernel_rfl) (by kernel_rfl) (by kernel_rfl) (fun _ _ _ h => h) (Or.inl ⟨by rfl, ?_⟩) (by assumption) ?_
      rotate_left
      · (intro wS hSw; (try dsimp only at hSw); (first | (go_simp; done) | (go_simp; with_reducible rfl)))
      try simp only [Act.put, List.getElem_toArray, List.getElem_cons_zero, List.getElem_cons_succ, List.setIfInBounds_toArray, List.set_cons_zero, List.set_cons_succ]
      refine wpAnyH_take (i := 2) (v := ?_) rfl (by kernel_rfl) (by kernel_rfl) (by kernel_rfl) (fun _ _ _ h => h) (Or.inl ⟨by rfl, ?_⟩) (by assumption) ?_
      rotate_left
      · (intro wS hSw; (try dsimp only at hSw); (first | (go_simp; done) | (go_simp; with_reducible rfl)))
      try simp only [Act.put, List.getElem_toArray, List.getElem_cons_zero, List.getElem_cons_succ, List.setIfInBounds_toArray, List.set_cons_zero, List.set_cons_succ]
      refine wpAnyH_ready (rs := [1]) (by kernel_rfl) (by simp) ?_
      refine AllReadyH.cons rfl (fun K hK => ?_) AllReadyH.nil
      rw [if_pos (by rfl)]
      refine wp_enter (by go_simp; exact ⟨rfl, rfl⟩) ?_
      refine (own_any _ _ _).mono ?_
      rintro e wn ⟨rfl, hbn⟩
      replace p0 : wn.cell? ⟨w2.heap.size, 0, none⟩ = some (.int .u64 (0)) := cell_later hbn (by (repeat (first | with_reducible exact p0 | with_reducible refine kalloc ?_ _ | with_reducible refine kdrew ?_ | with_reducible refine kdrewN ?_ _ | with_reducible refine kother ?_ (by simp; try omega))))
      replace p1 : wn.cell? ⟨w2.heap.size, 1, none⟩ = some (.int .u64 (0)) := cell_later hbn (by (repeat (first | with_reducible exact p1 | with_reducible refine kalloc ?_ _ | with_reducible refine kdrew ?_ | with_reducible refine kdrewN ?_ _ | with_reducible refine kother ?_ (by simp; try omega))))
      have q0 : wn.cell? ⟨w3.heap.size, 0, none⟩ = some (.int .u64 (0)) := cell_later hbn (by (repeat (first | with_reducible assumption | (simp [go_sem]; done) | (simp [go_sem, *]; done) | with_reducible refine kdrew ?_ | (with_reducible refine ksame ?_; (simp [go_sem, *]; done)) | with_reducible refine kother ?_ (by simp; try omega) | with_reducible refine kalloc ?_ _)))
      have q1 : wn.cell? ⟨w3.heap.size, 1, none⟩ = some (.int .u64 (0)) := cell_later hbn (by (repeat (first | with_reducible assumption | (simp [go_sem]; done) | (simp [go_sem, *]; done) | with_reducible refine kdrew ?_ | (with_reducible refine ksame ?_; (simp [go_sem, *]; done)) | with_reducible refine kother ?_ (by simp; try omega) | with_reducible refine kalloc ?_ _)))
      have zp0 : w2.heap.size < wn.heap.size := klt p0
      have zq0 : w3.heap.size < wn.heap.size := klt q0
      replace hb := (show Below w.heap.size w _ from by (repeat (first | exact hb | apply Below.drew | apply below_drewN | refine Below.setCell ?_ (by have := hb.size; (try simp at this); (try simp); (try omega)) _ | refine Below.alloc ?_ (by have := hb.size; (try simp at this); (try simp); (try omega)) _))).trans (hbn.mono (by have := hb.size; (try simp at this); (try simp); (try omega)))
      clear hbn
      refine ⟨_, rfl, ?_⟩
      refine hK.out _ _ (by refine ⟨?_, ?_, ?_, ?_⟩ <;> (repeat (first | with_reducible assumption | (simp [go_sem]; done) | (simp [go_sem, *]; done) | with_reducible refine kdrew ?_ | (with_reducible refine ksame ?_; (simp [go_sem, *]; done)) | with_reducible refine kother ?_ (by simp; try omega) | with_reducible refine kalloc ?_ _))) (fun hHeld => ?_)
      clear hK K
      try simp only [Act.put, List.getElem_toArray, List.getElem_cons_zero, List.getElem_cons_succ, List.setIfInBounds_toArray, List.set_cons_zero, List.set_cons_succ]
      refine wpAnyH_take (i := 3) (v := ?_) rfl (by kernel_rfl) (by kernel_rfl) (by kernel_rfl) (fun _ _ _ h => h) (Or.inl ⟨by rfl, ?_⟩) (by assumption) ?_
      rotate_left
      · (intro wS hSw; (try dsimp only at hSw); (first | (go_simp; done) | (go_simp; with_reducible rfl)))
      try simp only [Act.put, List.getElem_toArray, List.getElem_cons_zero, List.getElem_cons_succ, List.setIfInBounds_toArray, List.set_cons_zero, List.set_cons_succ]
      refine wpAnyH_take (i := 4) (v := ?_) rfl (by kernel_rfl) (by kernel_rfl) (by kernel_rfl) (fun _ _ _ h => h) (Or.inl ⟨by rfl, ?_⟩) (by assumption) ?_
      rotate_left
      · (intro wS hSw; (try dsimp only at hSw); (first | (go_simp; done) | (go_simp; with_reducible rfl)))
      try simp only [Act.put, List.getElem_toArray, List.getElem_cons_zero, List.getElem_cons_succ, List.setIfInBounds_toArray, List.set_cons_zero, List.set_cons_succ]
      refine wpAnyH_take (i := 5) (v := ?_) rfl (by kernel_rfl) (by kernel_rfl) (by kernel_rfl) (fun _ _ _ h => h) (Or.inl ⟨by rfl, ?_⟩) (by assumption) ?_
      rotate_left
      · (intro wS hSw; (try dsimp only at hSw); (first | (go_simp; done) | (go_simp; with_reducible rfl)))
      try simp only [Act.put, List.getElem_toArray, List.getElem_cons_zero, List.getElem_cons_succ, List.setIfInBounds_toArray, List.set_cons_zero, List.set_cons_succ]
      refine wpAnyH_take (i := 6) (v := ?_) rfl (by kernel_rfl) (by kernel_rfl) (by kernel_rfl) (fun _ _ _ h => h) (Or.inl ⟨by rfl, ?_⟩) (by assumption) ?_
      rotate_left
      · (intro wS hSw; (try dsimp only at hSw); (first | (go_simp; done) | (go_simp; with_reducible rfl)))
      try simp only [Act.put, List.getElem_toArray, List.getElem_cons_zero, List.getElem_cons_succ, List.setIfInBounds_toArray, List.set_cons_zero, List.set_cons_succ]
      refine wpAnyH_take (i := 7) (v := ?_) rfl (by kernel_rfl) (by kernel_rfl) (by kernel_rfl) (fun _ _ _ h => h) (Or.inl ⟨by rfl, ?_⟩) (by assumption) ?_
      rotate_left
      · (intro wS hSw; (try dsimp only at hSw); (first | (go_simp; done) | (go_simp; with_reducible rfl)))
      try simp only [Act.put, List.getElem_toArray, List.getElem_cons_zero, List.getElem_cons_succ, List.setIfInBounds_toArray, List.set_cons_zero, List.set_cons_succ]
      refine wpAnyH_take (i := 8) (v := ?_) rfl (by kernel_rfl) (by kernel_rfl) (by kernel_rfl) (fun _ _ _ h => h) (Or.inl ⟨by rfl, ?_⟩) (by assumption) ?_
      rotate_left
      · (intro wS hSw; (try dsimp only at hSw); (first | (go_simp; done) | (go_simp; with_reducible rfl)))
      try simp only [Act.put, List.getElem_toArray, List.getElem_cons_zero, List.getElem_cons_succ, List.setIfInBounds_toArray, List.set_cons_zero, List.set_cons_succ]
      refine wpAnyH_take (i := 9) (v := ?_) rfl (by kernel_rfl) (by kernel_rfl) (by kernel_rfl) (fun _ _ _ h => h) (Or.inl ⟨by rfl, ?_⟩) (by assumption) ?_
      rotate_left
      · (intro wS hSw; (try dsimp only at hSw); (first | (go_simp; done) | (go_simp; with_reducible rfl)))
      try simp only [Act.put, List.getElem_toArray, List.getElem_cons_zero, List.getElem_cons_succ, List.setIfInBounds_toArray, List.set_cons_zero, List.set_cons_succ]
      refine wpAnyH_take (i := 10) (v := ?_) rfl (by kernel_rfl) (by kernel_rfl) (by kernel_rfl) (fun _ _ _ h => h) (Or.inl ⟨by rfl, ?_⟩) (by assumption) ?_
      rotate_left
      · (intro wS hSw; (try dsimp only at hSw); (first | (go_simp; done) | (go_simp; with_reducible rfl)))
      try simp only [Act.put, List.getElem_toArray, List.getElem_cons_zero, List.getElem_cons_succ, List.setIfInBounds_toArray, List.set_cons_zero, List.set_cons_succ]
      refine wpAnyH_take (i := 11) (v := ?_) rfl (by kernel_rfl) (by kernel_rfl) (by kernel_rfl) (fun _ _ _ h => h) (Or.inl ⟨by rfl, ?_⟩) (by assumption) ?_
      rotate_left
      · (intro wS hSw; (try dsimp only at hSw); (first | (go_simp; done) | (go_simp; with_reducible rfl)))
      try simp only [Act.put, List.getElem_toArray, List.getElem_cons_zero, List.getElem_cons_succ, List.setIfInBounds_toArray, List.set_cons_zero, List.set_cons_succ]
      refine wpAnyH_take (i := 12) (v := ?_) rfl (by kernel_rfl) (by kernel_rfl) (by kernel_rfl) (fun _ _ _ h => h) (Or.inl ⟨by rfl, ?_⟩) (by assumption) ?_
      rotate_left
      · (intro wS hSw; (try dsimp only at hSw); (first | (go_simp; done) | (go_simp; with_reducible rfl)))
      try simp only [Act.put, List.getElem_toArray, List.getElem_cons_zero, List.getElem_cons_succ, List.setIfInBounds_toArray, List.set_cons_zero, List.set_cons_succ]
      refine wpAnyH_take (i := 13) (v := undef) rfl (by kernel_rfl) (by kernel_rfl) (by kernel_rfl) (fun _ _ _ h => h) (Or.inr ⟨by rfl, rfl⟩) (by assumption) ?_
      try simp only [Act.put, List.getElem_toArray, List.getElem_cons_zero, List.getElem_cons_succ, List.setIfInBounds_toArray, List.set_cons_zero, List.set_cons_succ]
      refine wpAnyH_take (i := 14) (v := undef) rfl (by kernel_rfl) (by kernel_rfl) (by kernel_rfl) (fun _ _ _ h => h) (Or.inr ⟨by rfl, rfl⟩) (by assumption) ?_
      try simp only [Act.put, List.getElem_toArray, List.getElem_cons_zero, List.getElem_cons_succ, List.setIfInBounds_toArray, List.set_cons_zero, List.set_cons_succ]
      refine wpAnyH_take (i := 15) (v := undef) rfl (by kernel_rfl) (by kernel_rfl) (by kernel_rfl) (fun _ _ _ h => h) (Or.inr ⟨by rfl, rfl⟩) (by assumption) ?_
      try simp only [Act.put, List.getElem_toArray, List.getElem_cons_zero, List.getElem_cons_succ, List.setIfInBounds_toArray, List.set_cons_zero, List.set_cons_succ]
      refine wpAnyH_take (i := 16) (v := undef) rfl (by kernel_rfl) (by kernel_rfl) (by kernel_rfl) (fun _ _ _ h => h) (Or.inr ⟨by rfl, rfl⟩) (by assumption) ?_
      try simp only [Act.put, List.getElem_toArray, List.getElem_cons_zero, List.getElem_cons_succ, List.setIfInBounds_toArray, List.set_cons_zero, List.set_cons_succ]
      refine wpAnyH_take (i := 17) (v := ?_) rfl (by kernel_rfl) (by kernel_rfl) (by kernel_rfl) (fun _ _ _ h => h) (Or.inl ⟨by rfl, ?_⟩) (by assumption) ?_
      rotate_left
      · (intro wS hSw; (try dsimp only at hSw); (first | (go_simp; done) | (go_simp; with_reducible rfl)))
      try simp only [Act.put, List.getElem_toArray, List.getElem_cons_zero, List.getElem_cons_succ, List.setIfInBounds_toArray, List.set_cons_zero, List.set_cons_succ]
      refine wpAnyH_take (i := 18) (v := ?_) rfl (by kernel_rfl) (by kernel_rfl) (by kernel_rfl) (fun _ _ _ h => h) (Or.inl ⟨by rfl, ?_⟩) (by assumption) ?_
      rotate_left
      · (intro wS hSw; (try dsimp only at hSw); (first | (go_simp; done) | (go_simp; with_reducible rfl)))
      try simp only [Act.put, List.getElem_toArray, List.getElem_cons_zero, List.getElem_cons_succ, List.setIfInBounds_toArray, List.set_cons_zero, List.set_cons_succ]
      refine wpAnyH_take (i := 19) (v := ?_) rfl (by kernel_rfl) (by kernel_rfl) (by kernel_rfl) (fun _ _ _ h => h) (Or.inl ⟨by rfl, ?_⟩) (by assumption) ?_
      rotate_left
      · (intro wS hSw; (try dsimp only at hSw); (first | (go_simp; done) | (go_simp; with_reducible rfl)))
      try simp only [Act.put, List.getElem_toArray, List.getElem_cons_zero, List.getElem_cons_succ, List.setIfInBounds_toArray, List.set_cons_zero, List.set_cons_succ]
      refine wpAnyH_done (by kernel_rfl) ?_ _
      refine NoPanic.normal ?_
      go_wp2
      go_ret
      exact ⟨rfl, (by (repeat (first | exact hb | apply Below.drew | apply below_drewN | refine Below.setCell ?_ (by have := hb.size; (try simp at this); (try simp); (try omega)) _ | refine Below.alloc ?_ (by have := hb.size; (try simp at this); (try simp); (try omega)) _)))⟩
set_option maxRecDepth 100000 in
theorem lifted (os : Os) (started : os.Started) (H : Type) (enc : TypeId × Value → H) :
    ReturnsInHanded {} Try.checked os 3 .any (Rows.wideParsesSpec.pre6 enc Try.prog Try.f3 Rows.wideParsesRow.domain false) (Rows.wideParsesSpec.post enc Try.prog Try.f3 false true false false) := by
  refine returnsInHanded_of_change (C := Try.checked) own started (by kernel_rfl) Try.func3
    (ChangeSpec.witness6 (enc := enc) (C := Try.checked) false ⟨#[], #[.string ⟨#[]⟩], []⟩ 8 (by kernel_rfl) (by kernel_rfl) (by kernel_rfl) (by kernel_rfl)) ?_
  intro W base args ds gs before hval0 hW hcnd _
  have hval : ∀ (j : Nat) t v, Try.f3.params[j]? = some t → args[j]? = some v → Value.okWide Try.prog W .any base t v := hval0
  have hW' := hW
  obtain ⟨p, q, hA0, hV, rfl, hfz, hnd⟩ := hW
  have hA : DataW.TrodAll enc Try.prog W 0 (fun _ => true) true Try.f3.params.toList args.toList ds p := hA0
  rw [Try.params3] at hA hval
  obtain ⟨v0, vs0, d0, ds0, p0, q0, hargs, rfl, rfl, h0, r0⟩ := trodAll_cons hA
  obtain ⟨rfl, rfl, rfl⟩ := trodAll_nil r0
  obtain rfl : args = #[v0] := by cases args; simp_all
  obtain ⟨rfl, rfl⟩ := trodVars_none hV
  obtain ⟨s0, rfl, rfl, rfl, z0⟩ := Go.ChangeMaps.open_string Try.underlying9 (hval 0 _ v0 rfl rfl) h0
  clear hA0 hval0
  refine (walk s0 W z0).mono fun e W' ⟨he, hg⟩ => ?_
  subst he
  exact ⟨_, rfl, post_of_law hW' rfl laidOut reads rfl Try.underlying4 rfl rfl rfl hg⟩
theorem over : Rows.wideParsesRow.holds Try.pinned (OpenSpec.ofChange Rows.wideParsesSpec) :=
  OpenClaim.holds_of_wide 3 Try.f3 rfl rfl rfl rfl rfl rfl rfl ⟨rfl, rfl, rfl, rfl, rfl⟩ rfl rfl rfl rfl rfl (by kernel_rfl) Try.func3 (by kernel_rfl)
    (of_decide_eq_true (by kernel_rfl)) (by unfold Func.isWrapper; first | (rw [if_pos (by decide +kernel)]; kernel_rfl) | (rw [if_neg (by decide +kernel)]; exact ⟨rfl, rfl⟩))
    (fun os started H enc _ => lifted os started H enc)
theorem proved : Rows.WideParsesSaid := over
end Go.Proofs.Ytgjfigjebojjdaa.wideParses
