/- Texts of this claim, one behind the other: Hpe. -/
import Derived.StillTailTactics
import Derived.Test.YtcffeokbipjaoaaGreatMtag
namespace Go.Proofs.YtcffeokbipjaoaaGreat
open Go.ChangeShapes Go.WideShapes Go.RowKit
set_option linter.unusedVariables false
set_option linter.unusedSimpArgs false
def SwS (p a i j m c : Nat) (ik it im jk jt jm : Int) (w' : World) : Prop := w'.cell? ⟨p, 0, none⟩ = some (.slice (some ⟨a, 0, none⟩) m c) ∧ w'.cell? ⟨a, i * 3, none⟩ = some (.int .i64 ik) ∧ w'.cell? ⟨a, i * 3 + 1, none⟩ = some (.int .u64 it) ∧ w'.cell? ⟨a, i * 3 + 2, none⟩ = some (.int .i64 im) ∧ w'.cell? ⟨a, j * 3, none⟩ = some (.int .i64 jk) ∧ w'.cell? ⟨a, j * 3 + 1, none⟩ = some (.int .u64 jt) ∧ w'.cell? ⟨a, j * 3 + 2, none⟩ = some (.int .i64 jm)
section
variable {w w' : World} {p b n m c : Nat} {A : Option Addr} {E : Nat → En} {P : Nat → Int}
theorem get_set3 {cs : Array Value} {k x j N : Nat} {e : List Value} (he : e.length = 3) (hz : cs.size = N * 3) (hk : k < N) (hj : j < 3) (v0 v1 v2 : Value) (h0 : e = [v0, v1, v2]) :
   (((cs.setIfInBounds (k * 3) v0).setIfInBounds (k * 3 + 1) v1).setIfInBounds (k * 3 + 2) v2)[x * 3 + j]? = if x = k then e[j]? else cs[x * 3 + j]? := by
 subst h0
 by_cases hx : x = k
 · subst hx
   rw [if_pos rfl]
   match j, hj with
   | 0, _ => rw [get_set_far (by omega), get_set_far (by omega)]; exact get_set_same (by omega) _
   | 1, _ => rw [get_set_far (by omega)]; exact get_set_same (by simp; omega) _
   | 2, _ => exact get_set_same (by simp; omega) _
 · rw [if_neg hx, get_set_far (by omega), get_set_far (by omega), get_set_far (by omega)]
theorem HeapAt.setE {a k : Nat} (h : HeapAt w p b n (some ⟨a, 0, none⟩) m c E P) (hk : k < m) (e : En) :
   HeapAt (((w.setCell ⟨a, k * 3, none⟩ (.int .i64 e.k)).setCell ⟨a, k * 3 + 1, none⟩ (.int .u64 e.t)).setCell ⟨a, k * 3 + 2, none⟩ (.int .i64 e.m)) p b n (some ⟨a, 0, none⟩) m c (fun x => if x = k then e else E x) P := by
 obtain ⟨hd, h1, h2, h3, ht, ⟨ps, bp, pz, pc⟩⟩ := h
 obtain ⟨a', cs, ea, ba, az, ac⟩ := ht (by omega)
 injection ea with ea
 injection ea with ea
 subst ea
 have n1 : p ≠ a := hd.other ba (by decide)
 have n2 : b ≠ a := bp.other ba (by decide)
 refine ⟨((hd.far _ n1).far _ n1).far _ n1, h1, h2, h3, fun _ => ⟨a, _, rfl, ((ba.set_ (k * 3) _).set_ (k * 3 + 1) _).set_ (k * 3 + 2) _, by simp [az], fun x hx j hj => ?_⟩, ⟨ps, ((bp.far _ n2).far _ n2).far _ n2, pz, pc⟩⟩
 rw [get_set3 (e := entRow e) rfl az (by omega) hj _ _ _ rfl]
 by_cases hxk : x = k
 · rw [if_pos hxk, if_pos hxk]
 · rw [if_neg hxk, if_neg hxk]; exact ac x hx j hj
theorem HeapAt.setP {k : Nat} (h : HeapAt w p b n A m c E P) (v : Int) : HeapAt (w.setCell ⟨b, k, none⟩ (.int .i64 v)) p b n A m c E (fun x => if x = k then v else P x) := by
 obtain ⟨hd, h1, h2, h3, ht, ⟨ps, bp, pz, pc⟩⟩ := h
 have n1 : p ≠ b := hd.other bp (by decide)
 refine ⟨hd.far _ n1, h1, h2, h3, fun h0 => ?_, ⟨_, bp.set_ k _, by simp [pz], fun x hx => ?_⟩⟩
 · obtain ⟨a, cs, ea, ba, az, ac⟩ := ht h0
   exact ⟨a, cs, ea, ba.far _ (ba.other bp (by decide)), az, ac⟩
 · by_cases hxk : x = k
   · subst hxk; rw [if_pos rfl]; exact get_set_same (by omega) _
   · rw [if_neg hxk, get_set_far (fun e => hxk e.symm)]; exact pc x hx
theorem HeapAt.drew (h : HeapAt w p b n A m c E P) : HeapAt w.drew p b n A m c E P := h.kept (own := fun _ => False) ((Kept.refl _ _).drew_) fun _ _ _ _ _ _ => id
set_option maxRecDepth 100000 in
set_option maxHeartbeats 1000000 in
theorem hswap_any {i j : Nat} (hi : i < m) (hj : j < m) (w : World) (h : HeapAt w p b n A m c E P) (hM : ∀ k, k < m → 0 ≤ (E k).m ∧ (E k).m < (n : Int)) : Calls Tryz.prog 206 #[.pointer (some ⟨p, 0, none⟩), .int .i64 (i : Int), .int .i64 (j : Int)] w fun e w' => e = .returned (.tuple #[]) ∧ HeapAt w' p b n A m c (fun x => if x = j then E i else if x = i then E j else E x) (fun x => if (x : Int) = (E i).m then (j : Int) else if (x : Int) = (E j).m then (i : Int) else P x) ∧ Kept (fun g => g = b ∨ ∀ x, A = some x → x.block = g) w w' := by
 have q0 := h.p0
 have hm := h.mn
 have hn := h.n0
 obtain ⟨a, rfl, hc, hf⟩ := h.at_ (by omega)
 obtain ⟨c0, c1, c2⟩ := hc i hi
 obtain ⟨d0, d1, d2⟩ := hc j hj
 obtain ⟨⟨ik, it, im⟩, hei⟩ : ∃ e, E i = e := ⟨_, rfl⟩
 obtain ⟨⟨jk, jt, jm⟩, hej⟩ : ∃ e, E j = e := ⟨_, rfl⟩
 have mi := hM i hi
 have mj := hM j hj
 rw [hei] at mi
 rw [hej] at mj
 rw [hei, hej]
 rw [hei] at c0 c1 c2
 rw [hej] at d0 d1 d2
 have H := Lib.hid h
 have HI := Lib.hid hei
 have HJ := Lib.hid hej
 clear h hM hc hei hej
 have mi0 : 0 ≤ im := mi.1
 have mi1 : im < (n : Int) := mi.2
 have mj0 : 0 ≤ jm := mj.1
 have mj1 : jm < (n : Int) := mj.2
 obtain ⟨um, hum⟩ : ∃ u : Nat, im = u := ⟨im.toNat, by omega⟩
 obtain ⟨vm, hvm⟩ : ∃ u : Nat, jm = u := ⟨jm.toNat, by omega⟩
 subst hum hvm
 clear mi mj
 have i0 : (0 : Int) ≤ (i : Int) := by omega
 have i1 : (i : Int) < (m : Int) := by omega
 have j0 : (0 : Int) ≤ (j : Int) := by omega
 have j1 : (j : Int) < (m : Int) := by omega
 go_enter Tryz.func206, Tryz.ntmps206
 go_upto_region 0 with fail
 refine begun (SwS p a i j m c ik it (um : Int) jk jt (vm : Int)) [25, 27] (by kernel_rfl) ⟨q0, c0, c1, c2, d0, d1, d2⟩ (fun hShut hHeld => ?_)
 refine anyB_takeW (i := 0) (v := ?_) rfl (by kernel_rfl) (by kernel_rfl) (by kernel_rfl) (by kernel_rfl) (fun _ _ _ h => h) hShut (fun _ => hHeld) (Or.inl ⟨by rfl, ?_⟩) (fun hShut => ?_)
 case refine_2 => (rintro wz -; go_simp; try with_reducible rfl)
 try simp only [Act.put, List.setIfInBounds_toArray, List.set_cons_zero, List.set_cons_succ]
 refine anyB_takeW (i := 1) (v := ?_) rfl (by kernel_rfl) (by kernel_rfl) (by kernel_rfl) (by kernel_rfl) (fun _ _ _ h => h) hShut (fun _ => hHeld) (Or.inl ⟨by rfl, ?_⟩) (fun hShut => ?_)
 case refine_2 => (rintro wz -; go_simp; try with_reducible rfl)
 try simp only [Act.put, List.setIfInBounds_toArray, List.set_cons_zero, List.set_cons_succ]
 refine anyB_takeW (i := 2) (v := ?_) rfl (by kernel_rfl) (by kernel_rfl) (by kernel_rfl) (by kernel_rfl) (fun _ _ _ h => h) hShut (fun _ => hHeld) (Or.inl ⟨by rfl, ?_⟩) (fun hShut => ?_)
 case refine_2 => (rintro wz -; go_simp; try with_reducible rfl)
 try simp only [Act.put, List.setIfInBounds_toArray, List.set_cons_zero, List.set_cons_succ]
 refine anyB_take 9 (i := 3) (v := ?_) rfl (by kernel_rfl) (by kernel_rfl) (by kernel_rfl) (by kernel_rfl) (by kernel_rfl) (fun _ _ _ h => h) hShut hHeld (Or.inl ⟨by rfl, ?_⟩) (fun hShut => ?_)
 case refine_2 => (rintro wz ⟨sz0, sz1, sz2, sz3, sz4, sz5, sz6⟩; go_simp; try with_reducible rfl)
 try simp only [Act.put, List.setIfInBounds_toArray, List.set_cons_zero, List.set_cons_succ]
 refine anyB_takeW (i := 4) (v := ?_) rfl (by kernel_rfl) (by kernel_rfl) (by kernel_rfl) (by kernel_rfl) (fun _ _ _ h => h) hShut (fun _ => hHeld) (Or.inl ⟨by rfl, ?_⟩) (fun hShut => ?_)
 case refine_2 => (rintro wz -; go_simp; try with_reducible rfl)
 try simp only [Act.put, List.setIfInBounds_toArray, List.set_cons_zero, List.set_cons_succ]
 refine anyB_takeW (i := 5) (v := ?_) rfl (by kernel_rfl) (by kernel_rfl) (by kernel_rfl) (by kernel_rfl) (fun _ _ _ h => h) hShut (fun _ => hHeld) (Or.inl ⟨by rfl, ?_⟩) (fun hShut => ?_)
 case refine_2 => (rintro wz -; go_simp; try with_reducible rfl)
 try simp only [Act.put, List.setIfInBounds_toArray, List.set_cons_zero, List.set_cons_succ]
 refine anyB_takeW (i := 6) (v := ?_) rfl (by kernel_rfl) (by kernel_rfl) (by kernel_rfl) (by kernel_rfl) (fun _ _ _ h => h) hShut (fun _ => hHeld) (Or.inl ⟨by rfl, ?_⟩) (fun hShut => ?_)
 case refine_2 => (rintro wz -; go_simp; try with_reducible rfl)
 try simp only [Act.put, List.setIfInBounds_toArray, List.set_cons_zero, List.set_cons_succ]
 refine anyB_takeW (i := 7) (v := ?_) rfl (by kernel_rfl) (by kernel_rfl) (by kernel_rfl) (by kernel_rfl) (fun _ _ _ h => h) hShut (fun _ => hHeld) (Or.inl ⟨by rfl, ?_⟩) (fun hShut => ?_)
 case refine_2 => (rintro wz -; go_simp; try with_reducible rfl)
 try simp only [Act.put, List.setIfInBounds_toArray, List.set_cons_zero, List.set_cons_succ]
 refine anyB_take 9 (i := 8) (v := ?_) rfl (by kernel_rfl) (by kernel_rfl) (by kernel_rfl) (by kernel_rfl) (by kernel_rfl) (fun _ _ _ h => h) hShut hHeld (Or.inl ⟨by rfl, ?_⟩) (fun hShut => ?_)
 case refine_2 => (rintro wz ⟨sz0, sz1, sz2, sz3, sz4, sz5, sz6⟩; go_simp; try with_reducible rfl)
 try simp only [Act.put, List.setIfInBounds_toArray, List.set_cons_zero, List.set_cons_succ]
 refine anyB_takeW (i := 9) (v := ?_) rfl (by kernel_rfl) (by kernel_rfl) (by kernel_rfl) (by kernel_rfl) (fun _ _ _ h => h) hShut (fun _ => hHeld) (Or.inl ⟨by rfl, ?_⟩) (fun hShut => ?_)
 case refine_2 => (rintro wz -; go_simp; try with_reducible rfl)
 try simp only [Act.put, List.setIfInBounds_toArray, List.set_cons_zero, List.set_cons_succ]
 refine anyB_takeW (i := 10) (v := ?_) rfl (by kernel_rfl) (by kernel_rfl) (by kernel_rfl) (by kernel_rfl) (fun _ _ _ h => h) hShut (fun _ => hHeld) (Or.inl ⟨by rfl, ?_⟩) (fun hShut => ?_)
 case refine_2 => (rintro wz -; go_simp; try with_reducible rfl)
 try simp only [Act.put, List.setIfInBounds_toArray, List.set_cons_zero, List.set_cons_succ]
 refine anyB_takeW (i := 11) (v := ?_) rfl (by kernel_rfl) (by kernel_rfl) (by kernel_rfl) (by kernel_rfl) (fun _ _ _ h => h) hShut (fun _ => hHeld) (Or.inl ⟨by rfl, ?_⟩) (fun hShut => ?_)
 case refine_2 => (rintro wz -; go_simp; try with_reducible rfl)
 try simp only [Act.put, List.setIfInBounds_toArray, List.set_cons_zero, List.set_cons_succ]
 refine anyB_takeW (i := 12) (v := ?_) rfl (by kernel_rfl) (by kernel_rfl) (by kernel_rfl) (by kernel_rfl) (fun _ _ _ h => h) hShut (fun _ => hHeld) (Or.inl ⟨by rfl, ?_⟩) (fun hShut => ?_)
 case refine_2 => (rintro wz -; go_simp; try with_reducible rfl)
 try simp only [Act.put, List.setIfInBounds_toArray, List.set_cons_zero, List.set_cons_succ]
 refine anyB_take 9 (i := 13) (v := ?_) rfl (by kernel_rfl) (by kernel_rfl) (by kernel_rfl) (by kernel_rfl) (by kernel_rfl) (fun _ _ _ h => h) hShut hHeld (Or.inl ⟨by rfl, ?_⟩) (fun hShut => ?_)
 case refine_2 => (rintro wz ⟨sz0, sz1, sz2, sz3, sz4, sz5, sz6⟩; go_simp; try with_reducible rfl)
 try simp only [Act.put, List.setIfInBounds_toArray, List.set_cons_zero, List.set_cons_succ]
 refine anyB_takeW (i := 14) (v := ?_) rfl (by kernel_rfl) (by kernel_rfl) (by kernel_rfl) (by kernel_rfl) (fun _ _ _ h => h) hShut (fun _ => hHeld) (Or.inl ⟨by rfl, ?_⟩) (fun hShut => ?_)
 case refine_2 => (rintro wz -; go_simp; try with_reducible rfl)
 try simp only [Act.put, List.setIfInBounds_toArray, List.set_cons_zero, List.set_cons_succ]
 refine anyB_takeW (i := 15) (v := ?_) rfl (by kernel_rfl) (by kernel_rfl) (by kernel_rfl) (by kernel_rfl) (fun _ _ _ h => h) hShut (fun _ => hHeld) (Or.inl ⟨by rfl, ?_⟩) (fun hShut => ?_)
 case refine_2 => (rintro wz -; go_simp; try with_reducible rfl)
 try simp only [Act.put, List.setIfInBounds_toArray, List.set_cons_zero, List.set_cons_succ]
 refine anyB_take 9 (i := 16) (v := ?_) rfl (by kernel_rfl) (by kernel_rfl) (by kernel_rfl) (by kernel_rfl) (by kernel_rfl) (fun _ _ _ h => h) hShut hHeld (Or.inl ⟨by rfl, ?_⟩) (fun hShut => ?_)
 case refine_2 => (rintro wz ⟨sz0, sz1, sz2, sz3, sz4, sz5, sz6⟩; go_simp; try with_reducible rfl)
 try simp only [Act.put, List.setIfInBounds_toArray, List.set_cons_zero, List.set_cons_succ]
 refine anyB_takeW (i := 17) (v := ?_) rfl (by kernel_rfl) (by kernel_rfl) (by kernel_rfl) (by kernel_rfl) (fun _ _ _ h => h) hShut (fun _ => hHeld) (Or.inl ⟨by rfl, ?_⟩) (fun hShut => ?_)
 case refine_2 => (rintro wz -; go_simp; try with_reducible rfl)
 try simp only [Act.put, List.setIfInBounds_toArray, List.set_cons_zero, List.set_cons_succ]
 refine anyB_takeW (i := 18) (v := ?_) rfl (by kernel_rfl) (by kernel_rfl) (by kernel_rfl) (by kernel_rfl) (fun _ _ _ h => h) hShut (fun _ => hHeld) (Or.inl ⟨by rfl, ?_⟩) (fun hShut => ?_)
 case refine_2 => (rintro wz -; go_simp; try with_reducible rfl)
 try simp only [Act.put, List.setIfInBounds_toArray, List.set_cons_zero, List.set_cons_succ]
 refine anyB_takeW (i := 19) (v := ?_) rfl (by kernel_rfl) (by kernel_rfl) (by kernel_rfl) (by kernel_rfl) (fun _ _ _ h => h) hShut (fun _ => hHeld) (Or.inl ⟨by rfl, ?_⟩) (fun hShut => ?_)
 case refine_2 => (rintro wz -; go_simp; try with_reducible rfl)
 try simp only [Act.put, List.setIfInBounds_toArray, List.set_cons_zero, List.set_cons_succ]
 refine anyB_take 9 (i := 20) (v := ?_) rfl (by kernel_rfl) (by kernel_rfl) (by kernel_rfl) (by kernel_rfl) (by kernel_rfl) (fun _ _ _ h => h) hShut hHeld (Or.inl ⟨by rfl, ?_⟩) (fun hShut => ?_)
 case refine_2 => (rintro wz ⟨sz0, sz1, sz2, sz3, sz4, sz5, sz6⟩; go_simp; try with_reducible rfl)
 try simp only [Act.put, List.setIfInBounds_toArray, List.set_cons_zero, List.set_cons_succ]
 refine anyB_takeW (i := 21) (v := ?_) rfl (by kernel_rfl) (by kernel_rfl) (by kernel_rfl) (by kernel_rfl) (fun _ _ _ h => h) hShut (fun _ => hHeld) (Or.inl ⟨by rfl, ?_⟩) (fun hShut => ?_)
 case refine_2 => (rintro wz -; go_simp; try with_reducible rfl)
 try simp only [Act.put, List.setIfInBounds_toArray, List.set_cons_zero, List.set_cons_succ]
 refine anyB_takeW (i := 22) (v := ?_) rfl (by kernel_rfl) (by kernel_rfl) (by kernel_rfl) (by kernel_rfl) (fun _ _ _ h => h) hShut (fun _ => hHeld) (Or.inl ⟨by rfl, ?_⟩) (fun hShut => ?_)
 case refine_2 => (rintro wz -; go_simp; try with_reducible rfl)
 try simp only [Act.put, List.setIfInBounds_toArray, List.set_cons_zero, List.set_cons_succ]
 refine anyB_take 9 (i := 23) (v := ?_) rfl (by kernel_rfl) (by kernel_rfl) (by kernel_rfl) (by kernel_rfl) (by kernel_rfl) (fun _ _ _ h => h) hShut hHeld (Or.inl ⟨by rfl, ?_⟩) (fun hShut => ?_)
 case refine_2 => (rintro wz ⟨sz0, sz1, sz2, sz3, sz4, sz5, sz6⟩; go_simp; try with_reducible rfl)
 try simp only [Act.put, List.setIfInBounds_toArray, List.set_cons_zero, List.set_cons_succ]
 refine anyB_takeW (i := 24) (v := ?_) rfl (by kernel_rfl) (by kernel_rfl) (by kernel_rfl) (by kernel_rfl) (fun _ _ _ h => h) hShut (fun _ => hHeld) (Or.inl ⟨by rfl, ?_⟩) (fun hShut => ?_)
 case refine_2 => (rintro wz -; go_simp; try with_reducible rfl)
 try simp only [Act.put, List.setIfInBounds_toArray, List.set_cons_zero, List.set_cons_succ]
 refine anyB_each (rs := [25]) hShut (by kernel_rfl) (by simp) ?_
 refine List.forall_mem_cons.2 ⟨fun hShut => wpOp_step rfl (fun K hK => ?_), ?_⟩
 ·
   go_simp
   refine unheld hK (by kernel_rfl) ?_
   clear hK K
   have h1 := (H.out.setE hi ⟨jk, jt, (vm : Int)⟩).drew
   have k1 : Kept (fun g => g = b ∨ ∀ x, (some (⟨a, 0, none⟩ : Addr)) = some x → x.block = g) w _ := ((((Kept.refl _ w).set_ (p := ⟨a, i * 3, none⟩) (.inl (.inr (by intro x hx; injection hx with hx; rw [← hx]))) (.int .i64 jk)).set_ (p := ⟨a, i * 3 + 1, none⟩) (.inl (.inr (by intro x hx; injection hx with hx; rw [← hx]))) (.int .u64 jt)).set_ (p := ⟨a, i * 3 + 2, none⟩) (.inl (.inr (by intro x hx; injection hx with hx; rw [← hx]))) (.int .i64 (vm : Int))).drew_
   revert h1 k1
   generalize (World.drew (World.setCell (World.setCell (World.setCell w ⟨a, i * 3, none⟩ (.int .i64 jk)) ⟨a, i * 3 + 1, none⟩ (.int .u64 jt)) ⟨a, i * 3 + 2, none⟩ (.int .i64 (vm : Int)))) = wq
   intro h1 k1
   have H1 := Lib.hid h1
   have K1 := Lib.hid k1
   obtain ⟨a', ea, hc1, hf1⟩ := h1.at_ (by omega)
   injection ea with ea
   injection ea with ea
   subst ea
   obtain ⟨e0, e1, e2⟩ := hc1 j hj
   have hej : (if j = i then (⟨jk, jt, (vm : Int)⟩ : En) else E j) = ⟨jk, jt, (vm : Int)⟩ := by split; rfl; exact HJ.out
   simp only [hej] at e0 e1 e2
   clear h1 k1 hc1 hej hf q0 c0 c1 c2 d0 d1 d2 hHeld
   refine anyB_takeW (i := 26) (v := ?_) rfl (by kernel_rfl) (by kernel_rfl) (by kernel_rfl) (by kernel_rfl) (fun _ _ _ h => h) hShut (noS (by kernel_rfl)) (Or.inl ⟨by rfl, ?_⟩) (fun hShut => ?_)
   case refine_2 => (rintro wz -; go_simp; try with_reducible rfl)
   try simp only [Act.put, List.setIfInBounds_toArray, List.set_cons_zero, List.set_cons_succ]
   refine anyB_each (rs := [27]) hShut (by kernel_rfl) (by simp) ?_
   refine List.forall_mem_cons.2 ⟨fun hShut => wpOp_step rfl (fun K hK => ?_), ?_⟩
   ·
     go_simp
     refine unheld hK (by kernel_rfl) ?_
     clear hK K
     refine anyB_done (by kernel_rfl) ?_ _
     go_upto_region 1 with fail
     refine wp_worldh (fun wx => HeapAt wx p b n (some ⟨a, 0, none⟩) m c (fun x => if x = j then ⟨ik, it, (um : Int)⟩ else if x = i then ⟨jk, jt, (vm : Int)⟩ else E x) P ∧ Kept (fun g => g = b ∨ ∀ x, (some (⟨a, 0, none⟩ : Addr)) = some x → x.block = g) w wx) ⟨H1.out.setE hj ⟨ik, it, (um : Int)⟩, (((K1.out.set_ (p := ⟨a, j * 3, none⟩) (.inl (.inr (by intro x hx; injection hx with hx; rw [← hx]))) (.int .i64 ik)).set_ (p := ⟨a, j * 3 + 1, none⟩) (.inl (.inr (by intro x hx; injection hx with hx; rw [← hx]))) (.int .u64 it)).set_ (p := ⟨a, j * 3 + 2, none⟩) (.inl (.inr (by intro x hx; injection hx with hx; rw [← hx]))) (.int .i64 (um : Int)))⟩ ?_
     clear H1 K1 e0 e1 e2 hf1
     rintro w2 ⟨h2, k2⟩
     have H2 := Lib.hid h2
     have K2 := Lib.hid k2
     have q0 := h2.p0
     have q1 := h2.p1
     have q2 := h2.b0 (i := vm) (by omega)
     have q3 := h2.zb vm
     obtain ⟨a', ea, hc2, hf2⟩ := h2.at_ (by omega)
     injection ea with ea
     injection ea with ea
     subst ea
     have e2i : (if i = j then (⟨ik, it, (um : Int)⟩ : En) else if i = i then ⟨jk, jt, (vm : Int)⟩ else E i) = ⟨jk, jt, (vm : Int)⟩ := by
       by_cases hij : i = j
       · rw [if_pos hij]; subst hij; exact HI.out.symm.trans HJ.out
       · rw [if_neg hij, if_pos rfl]
     have f2 : w2.cell? ⟨a, i * 3 + 2, none⟩ = some (.int .i64 (vm : Int)) := (hc2 i hi).2.2.trans (congrArg (fun z : En => some (Value.int IntKind.i64 z.m)) e2i)
     have v0 : (0 : Int) ≤ (vm : Int) := by omega
     have v2 : vm < n := by omega
     have v1 : (vm : Int) < (n : Int) := by omega
     clear h2 k2 hc2 hf2 e2i
     go_still_tail 14, (by kernel_rfl)
     go_upto_region 2 with fail
     refine wp_worldh (fun wx => HeapAt wx p b n (some ⟨a, 0, none⟩) m c (fun x => if x = j then ⟨ik, it, (um : Int)⟩ else if x = i then ⟨jk, jt, (vm : Int)⟩ else E x) (fun x => if x = vm then (i : Int) else P x) ∧ Kept (fun g => g = b ∨ ∀ x, (some (⟨a, 0, none⟩ : Addr)) = some x → x.block = g) w wx) ⟨(H2.out.setP (k := vm) (i : Int)).drew, (K2.out.set_ (p := ⟨b, vm, none⟩) (.inl (.inl rfl)) (.int .i64 (i : Int))).drew_⟩ ?_
     clear H2 K2 q0 q1 q2 q3 f2
     rintro w3 ⟨h3, k3⟩
     have H3 := Lib.hid h3
     have K3 := Lib.hid k3
     have q0 := h3.p0
     have q1 := h3.p1
     obtain ⟨old, hold⟩ : ∃ z : Int, w3.cell? ⟨b, um, none⟩ = some (.int .i64 z) := ⟨_, h3.b0 (i := um) (by omega)⟩
     have q3 := h3.zb um
     obtain ⟨a', ea, hc3, hf3⟩ := h3.at_ (by omega)
     injection ea with ea
     injection ea with ea
     subst ea
     have e2j : (if j = j then (⟨ik, it, (um : Int)⟩ : En) else if j = i then ⟨jk, jt, (vm : Int)⟩ else E j) = ⟨ik, it, (um : Int)⟩ := if_pos rfl
     have f2 : w3.cell? ⟨a, j * 3 + 2, none⟩ = some (.int .i64 (um : Int)) := (hc3 j hj).2.2.trans (congrArg (fun z : En => some (Value.int IntKind.i64 z.m)) e2j)
     have v3 : (0 : Int) ≤ (um : Int) := by omega
     have v4 : um < n := by omega
     have v5 : (um : Int) < (n : Int) := by omega
     clear h3 k3 hc3 hf3 e2j
     go_still_tail 14, (by kernel_rfl)
     go_wp2
     first | go_end0 | skip
     have hP : (fun x : Nat => if x = um then (j : Int) else if x = vm then (i : Int) else P x) = fun x : Nat => if (x : Int) = (um : Int) then (j : Int) else if (x : Int) = (vm : Int) then (i : Int) else P x := by funext x; simp only [Int.ofNat_inj]
     refine ⟨rfl, ?_, ((K3.out.set_ (p := ⟨b, um, none⟩) (.inl (.inl rfl)) (.int .i64 (j : Int))).drew_).more (fun k _ ho => by rcases ho with ho | ho; exact .inl ho; exact .inr (ho _ rfl))⟩
     have h4 := (H3.out.setP (k := um) (j : Int)).drew
     rw [hP] at h4
     exact h4
   ·
     exact fun _ h => by cases h
 ·
   exact fun _ h => by cases h
end
end Go.Proofs.YtcffeokbipjaoaaGreat
