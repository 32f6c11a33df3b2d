/- Texts of this claim, one behind the other: Cnv Rowb Tla Tlb. -/
import Derived.WideKeyArgs
import Derived.Carry
import Derived.Lib.SmallJoins
import Derived.Test.YtcffeokbipjaoaaGreatChecked
import Derived.Maps.AppendAt
import Derived.OwnWalkIn
import Derived.Lib.Hide
import Derived.ChangeArms
import Derived.Outline
import Derived.RegionTactic
import Derived.BigRegion
import Derived.WalkSpells
import Derived.Laws.Pointers
import Derived.WalkKit
import Derived.ProofKit
import Derived.OpenShut
import Derived.Below
import Derived.IntWalk
import Derived.Deep.DeepCutAuto
import Derived.Deep.RegionHeld3
import Derived.Deep.RegionWith
import Derived.BigQuiet
import Derived.Deep.QuietTactic
import Derived.Test.YtcffeokbipjaoaaGreatMuaa
import Derived.Test.YtcffeokbipjaoaaGreatMuae
import Derived.Test.YtcffeokbipjaoaaGreatMual
import Derived.Test.YtcffeokbipjaoaaGreatMuat
namespace Go.Proofs.YtcffeokbipjaoaaGreat
open Go.ChangeShapes Go.WideShapes Go.ChangeAt Go.RowKit Kn
set_option linter.unusedVariables false
set_option linter.unusedSimpArgs false
def validE (c : Cf) : Int := if validB c then 0 else 1
set_option maxHeartbeats 8000000 in
theorem valid_any (c : Cf) (w : World) :
   Calls Tryz.prog 25 #[c.v] w fun e w' => e = .returned (.int .i64 (validE c)) ∧ Below w.heap.size w w' := by
 obtain ⟨b0, hb0⟩ : ∃ b, sizedB c = b := ⟨_, rfl⟩
 have HB0 := Lib.hid hb0
 clear hb0
 obtain ⟨b1, hb1⟩ : ∃ b, timedB c = b := ⟨_, rfl⟩
 have HB1 := Lib.hid hb1
 clear hb1
 obtain ⟨b2, hb2⟩ : ∃ b, modeB c.hg c.lo c.dw = b := ⟨_, rfl⟩
 have HB2 := Lib.hid hb2
 clear hb2
 obtain ⟨b3, hb3⟩ : ∃ b, pidB c.kp c.ki c.kd c.lm c.st (mostW c) = b := ⟨_, rfl⟩
 have HB3 := Lib.hid hb3
 clear hb3
 go_enter Tryz.func25, Tryz.ntmps25
 go_upto_region 1 with fail
 refine wp_worldx (fun wx => Bxs w wx [(w.heap.size, 24, [.int .i64 c.ti, .int .i64 c.ro, .int .i64 c.ta, .int .i64 c.iv, .int .i64 c.hg, .int .i64 c.lo, .int .i64 c.dw, .int .i64 c.ho, .int .i64 c.sp, .int .i64 c.kp, .int .i64 c.ki, .int .i64 c.kd, .int .i64 c.lm, .int .i64 c.st, .int .i64 c.th, .int .i64 c.rg])]) ((Bxs.nil_ w).alloc_ _ _ (by simp)) ?_
 rintro x1 bx
 have BX := Lib.hid bx
 clear bx
 obtain ⟨p0_0, p0_1, p0_2, p0_3, p0_4, p0_5, p0_6, p0_7, p0_8, p0_9, p0_10, p0_11, p0_12, p0_13, p0_14, p0_15, z0, y0⟩ := bl16 (BX.out.bl 0 _ _ _ rfl)
 go_wp2_with fail
 refine (sized_any c _).mono ?_
 rw [HB0.out]
 rintro e x2 ⟨rfl, hb⟩
 have bx : Bxs w x2 [(w.heap.size, 24, [.int .i64 c.ti, .int .i64 c.ro, .int .i64 c.ta, .int .i64 c.iv, .int .i64 c.hg, .int .i64 c.lo, .int .i64 c.dw, .int .i64 c.ho, .int .i64 c.sp, .int .i64 c.kp, .int .i64 c.ki, .int .i64 c.kd, .int .i64 c.lm, .int .i64 c.st, .int .i64 c.th, .int .i64 c.rg])] := (BX.out).below hb
 clear p0_0 p0_1 p0_2 p0_3 p0_4 p0_5 p0_6 p0_7 p0_8 p0_9 p0_10 p0_11 p0_12 p0_13 p0_14 p0_15 z0 y0
 clear hb BX
 have BX := Lib.hid bx
 clear bx
 obtain ⟨p0_0, p0_1, p0_2, p0_3, p0_4, p0_5, p0_6, p0_7, p0_8, p0_9, p0_10, p0_11, p0_12, p0_13, p0_14, p0_15, z0, y0⟩ := bl16 (BX.out.bl 0 _ _ _ rfl)
 cases b0 with
 | false =>
   go_wp2_with fail
   refine bodyPost_ret (v := .int .i64 1) (by simp [results, Tryz.results25, go_sem, *]) rfl ⟨?_, BX.out.be⟩
   have hv : validB c = false := by unfold validB; simp [HB0.out]
   unfold validE; rw [hv]; rfl
 | true =>
   go_wp2_with fail
   refine (timed_any c _).mono ?_
   rw [HB1.out]
   rintro e x3 ⟨rfl, hb⟩
   have bx : Bxs w x3 [(w.heap.size, 24, [.int .i64 c.ti, .int .i64 c.ro, .int .i64 c.ta, .int .i64 c.iv, .int .i64 c.hg, .int .i64 c.lo, .int .i64 c.dw, .int .i64 c.ho, .int .i64 c.sp, .int .i64 c.kp, .int .i64 c.ki, .int .i64 c.kd, .int .i64 c.lm, .int .i64 c.st, .int .i64 c.th, .int .i64 c.rg])] := (BX.out).below hb
   clear p0_0 p0_1 p0_2 p0_3 p0_4 p0_5 p0_6 p0_7 p0_8 p0_9 p0_10 p0_11 p0_12 p0_13 p0_14 p0_15 z0 y0
   clear hb BX
   have BX := Lib.hid bx
   clear bx
   obtain ⟨p0_0, p0_1, p0_2, p0_3, p0_4, p0_5, p0_6, p0_7, p0_8, p0_9, p0_10, p0_11, p0_12, p0_13, p0_14, p0_15, z0, y0⟩ := bl16 (BX.out.bl 0 _ _ _ rfl)
   cases b1 with
   | false =>
     go_wp2_with fail
     refine bodyPost_ret (v := .int .i64 1) (by simp [results, Tryz.results25, go_sem, *]) rfl ⟨?_, BX.out.be⟩
     have hv : validB c = false := by unfold validB; simp [HB0.out, HB1.out]
     unfold validE; rw [hv]; rfl
   | true =>
     go_wp2_with fail
     refine (cmode_any c _).mono ?_
     rintro e x4 ⟨rfl, hb⟩
     have bx : Bxs w x4 [(w.heap.size, 24, [.int .i64 c.ti, .int .i64 c.ro, .int .i64 c.ta, .int .i64 c.iv, .int .i64 c.hg, .int .i64 c.lo, .int .i64 c.dw, .int .i64 c.ho, .int .i64 c.sp, .int .i64 c.kp, .int .i64 c.ki, .int .i64 c.kd, .int .i64 c.lm, .int .i64 c.st, .int .i64 c.th, .int .i64 c.rg])] := (BX.out).below hb
     clear p0_0 p0_1 p0_2 p0_3 p0_4 p0_5 p0_6 p0_7 p0_8 p0_9 p0_10 p0_11 p0_12 p0_13 p0_14 p0_15 z0 y0
     clear hb BX
     have BX := Lib.hid bx
     clear bx
     obtain ⟨p0_0, p0_1, p0_2, p0_3, p0_4, p0_5, p0_6, p0_7, p0_8, p0_9, p0_10, p0_11, p0_12, p0_13, p0_14, p0_15, z0, y0⟩ := bl16 (BX.out.bl 0 _ _ _ rfl)
     go_wp2_with fail
     refine (mright_any_Cnf _ _ _ _).mono ?_
     rw [HB2.out]
     rintro e x5 ⟨rfl, hb⟩
     have bx : Bxs w x5 [(w.heap.size, 24, [.int .i64 c.ti, .int .i64 c.ro, .int .i64 c.ta, .int .i64 c.iv, .int .i64 c.hg, .int .i64 c.lo, .int .i64 c.dw, .int .i64 c.ho, .int .i64 c.sp, .int .i64 c.kp, .int .i64 c.ki, .int .i64 c.kd, .int .i64 c.lm, .int .i64 c.st, .int .i64 c.th, .int .i64 c.rg])] := (BX.out).below hb
     clear p0_0 p0_1 p0_2 p0_3 p0_4 p0_5 p0_6 p0_7 p0_8 p0_9 p0_10 p0_11 p0_12 p0_13 p0_14 p0_15 z0 y0
     clear hb BX
     have BX := Lib.hid bx
     clear bx
     obtain ⟨p0_0, p0_1, p0_2, p0_3, p0_4, p0_5, p0_6, p0_7, p0_8, p0_9, p0_10, p0_11, p0_12, p0_13, p0_14, p0_15, z0, y0⟩ := bl16 (BX.out.bl 0 _ _ _ rfl)
     cases b2 with
     | false =>
       go_wp2_with fail
       refine bodyPost_ret (v := .int .i64 1) (by simp [results, Tryz.results25, go_sem, *]) rfl ⟨?_, BX.out.be⟩
       have hv : validB c = false := by unfold validB; simp [HB0.out, HB1.out, HB2.out]
       unfold validE; rw [hv]; rfl
     | true =>
       go_wp2_with fail
       refine (cpid_any c _).mono ?_
       rintro e x6 ⟨rfl, hb⟩
       have bx : Bxs w x6 [(w.heap.size, 24, [.int .i64 c.ti, .int .i64 c.ro, .int .i64 c.ta, .int .i64 c.iv, .int .i64 c.hg, .int .i64 c.lo, .int .i64 c.dw, .int .i64 c.ho, .int .i64 c.sp, .int .i64 c.kp, .int .i64 c.ki, .int .i64 c.kd, .int .i64 c.lm, .int .i64 c.st, .int .i64 c.th, .int .i64 c.rg])] := (BX.out).below hb
       clear p0_0 p0_1 p0_2 p0_3 p0_4 p0_5 p0_6 p0_7 p0_8 p0_9 p0_10 p0_11 p0_12 p0_13 p0_14 p0_15 z0 y0
       clear hb BX
       have BX := Lib.hid bx
       clear bx
       obtain ⟨p0_0, p0_1, p0_2, p0_3, p0_4, p0_5, p0_6, p0_7, p0_8, p0_9, p0_10, p0_11, p0_12, p0_13, p0_14, p0_15, z0, y0⟩ := bl16 (BX.out.bl 0 _ _ _ rfl)
       go_wp2_with fail
       refine (pright_any _ _ _ _ _ _ _ _).mono ?_
       rw [HB3.out]
       rintro e x7 ⟨rfl, hb⟩
       have bx : Bxs w x7 [(w.heap.size, 24, [.int .i64 c.ti, .int .i64 c.ro, .int .i64 c.ta, .int .i64 c.iv, .int .i64 c.hg, .int .i64 c.lo, .int .i64 c.dw, .int .i64 c.ho, .int .i64 c.sp, .int .i64 c.kp, .int .i64 c.ki, .int .i64 c.kd, .int .i64 c.lm, .int .i64 c.st, .int .i64 c.th, .int .i64 c.rg])] := (BX.out).below hb
       clear p0_0 p0_1 p0_2 p0_3 p0_4 p0_5 p0_6 p0_7 p0_8 p0_9 p0_10 p0_11 p0_12 p0_13 p0_14 p0_15 z0 y0
       clear hb BX
       have BX := Lib.hid bx
       clear bx
       obtain ⟨p0_0, p0_1, p0_2, p0_3, p0_4, p0_5, p0_6, p0_7, p0_8, p0_9, p0_10, p0_11, p0_12, p0_13, p0_14, p0_15, z0, y0⟩ := bl16 (BX.out.bl 0 _ _ _ rfl)
       cases b3 with
       | false =>
         go_wp2_with fail
         refine bodyPost_ret (v := .int .i64 1) (by simp [results, Tryz.results25, go_sem, *]) rfl ⟨?_, BX.out.be⟩
         have hv : validB c = false := by unfold validB; simp [HB0.out, HB1.out, HB2.out, HB3.out]
         unfold validE; rw [hv]; rfl
       | true =>
         go_wp2_with fail
         refine bodyPost_ret (v := .int .i64 0) (by simp [results, Tryz.results25, go_sem, *]) rfl ⟨?_, BX.out.be⟩
         have hv : validB c = true := by unfold validB; simp [HB0.out, HB1.out, HB2.out, HB3.out]
         unfold validE; rw [hv]; rfl
end Go.Proofs.YtcffeokbipjaoaaGreat
namespace Go.Proofs.YtcffeokbipjaoaaGreat
open Go.RowKit Go.WideShapes Go.ChangeShapes Go.Deep
theorem trodAll_stays {H : Type} {enc : TypeId × Value → H} {P : Program} (hl : laidOutB P = true) {W W' : World} {sp' : Nat → Bool} :
   ∀ (ts : List TypeId) (vs : List Value) (ds : List (DataW H)) (ps : List MemPlace), (ts.all fun t => P.readableRec t && decide (t < P.types.size)) = true → DataW.TrodAll enc P W 0 (fun _ => true) true ts vs ds ps →
     (∀ p ∈ ps, W.sameAt W' p) → (∀ p ∈ ps, sp' p.block = true) → DataW.TrodAll enc P W' 0 sp' true ts vs ds ps := by
 intro ts
 induction ts with
 | nil =>
   intro vs ds ps _ h _ _
   obtain ⟨rfl, rfl, rfl⟩ := trodAll_nil h
   exact trodAll_mk0
 | cons t ts ih =>
   intro vs ds ps hall h hs hp
   simp only [List.all_cons, Bool.and_eq_true, decide_eq_true_eq] at hall
   obtain ⟨v0, vs0, d0, ds0, p0, q0, rfl, rfl, rfl, h0, r0⟩ := trodAll_cons h
   exact trodAll_cons_mk (WideElems.Trod_stays hl hall.1.1 hall.1.2 h0 (fun p hp' => hs p (List.mem_append_left _ hp')) (fun p hp' => hp p (List.mem_append_left _ hp')))
     (ih _ _ _ hall.2 r0 (fun p hp' => hs p (List.mem_append_right _ hp')) (fun p hp' => hp p (List.mem_append_right _ hp')))
theorem post_of_law {H : Type} {enc : TypeId × Value → H} {P : Program} {f : Func} {s : ChangeSpec} {apart fresh handsOn again : Bool} {W W' : World} {args : Array Value} {ds : List (DataW H)} {before : List MemPlace}
   (hW : DataW.Whole enc P f.params.toList s.vars apart W args.toList ds [] before) (hv : s.vars = []) (hl : laidOutB P = true) (hr : (f.params.toList.all fun t => P.readableRec t && decide (t < P.types.size)) = true)
   {b : TypeId} (hrt : f.resultTypes = #[b]) (hbool : P.underlying b = some .bool) (hres : (s.fn H (ds ++ [])).results = [.lit (.bool true)]) (hargs : (s.fn H (ds ++ [])).args = ds) (hvars : (s.fn H (ds ++ [])).vars = [])
   (hb : Below W.heap.size W W') : s.post enc P f apart fresh handsOn again W args (.bool true) W' := by
 obtain ⟨p, q, hA, hV, rfl, hfz, hnd⟩ := id hW
 rw [hv] at hV
 obtain ⟨_, rfl⟩ := trodVars_none hV
 refine post_of_under (pa := p) (pv := []) hW (fun _ _ _ => ?_) (fun sp hs => ?_) (fun sp hs => ?_) rfl hb ?_
 · rw [hres, hrt]
   exact trodAll_cons_mk (shut_bool hbool _) trodAll_mk0
 · rw [hargs]
   exact trodAll_stays hl _ _ _ _ hr hA (fun x hx => hb.same (hW.lt x (by simpa using hx))) (fun x hx => hs x (by simpa using hx))
 · rw [hvars, hv]; rfl
 · exact ok_one hrt rfl (okWide_bool_mk hbool _)
section
variable {H : Type} {enc : TypeId × Value → H} {P : Program} {w : World} {base : Nat} {spare : Nat → Bool} {held : Bool}
end
end Go.Proofs.YtcffeokbipjaoaaGreat
namespace Go.Proofs.YtcffeokbipjaoaaGreat
open Go.RowKit Go.ChangeShapes Go.WideShapes Go.Deep
set_option linter.unusedVariables false
set_option linter.unusedSimpArgs false
structure Oc where
 a : Int
 b : Int
 c : Int
 d : Int
 e : Int
 f : Int
def oc0 : Oc := ⟨0, 0, 0, 0, 0, 0⟩
instance : Inhabited Oc := ⟨oc0⟩
def ocRow (o : Oc) : List Value := [.int .u64 o.a, .int .i64 o.b, .int .i64 o.c, .int .u8 o.d, .int .i64 o.e, .int .i64 o.f]
abbrev Oc.v (o : Oc) : Value := .agg #[.int .u64 o.a, .int .i64 o.b, .int .i64 o.c, .int .u8 o.d, .int .i64 o.e, .int .i64 o.f]
def Oc.ok (q : Oc) : Prop := (0 ≤ q.a ∧ q.a ≤ 18446744073709551615) ∧ (-9223372036854775808 ≤ q.b ∧ q.b ≤ 9223372036854775807) ∧ (-9223372036854775808 ≤ q.c ∧ q.c ≤ 9223372036854775807) ∧ (0 ≤ q.d ∧ q.d ≤ 255) ∧ (-9223372036854775808 ≤ q.e ∧ q.e ≤ 9223372036854775807) ∧ (-9223372036854775808 ≤ q.f ∧ q.f ≤ 9223372036854775807)
theorem oc0_ok : oc0.ok := by unfold Oc.ok oc0; simp
def OkL (L : List Oc) : Prop := ∀ o ∈ L, o.ok
theorem OkL.get {L : List Oc} (h : OkL L) (i : Nat) : (L[i]!).ok := by
 by_cases hi : i < L.length
 · rw [getElem!_pos L i hi]; exact h _ (List.getElem_mem hi)
 · rw [getElem!_neg L i hi]; exact oc0_ok
def flatO (L : List Oc) : List Value := L.flatMap ocRow
theorem ocRow_len (o : Oc) : (ocRow o).length = 6 := rfl
theorem flatO_get : ∀ (L : List Oc) (i j : Nat), i < L.length → j < 6 → (flatO L)[i * 6 + j]? = (ocRow L[i]!)[j]?
 | [], i, j, hi, _ => by simp at hi
 | a :: L, 0, j, _, hj => by
   unfold flatO
   rw [List.flatMap_cons, List.getElem?_append_left (by rw [ocRow_len]; omega)]
   simp
 | a :: L, i + 1, j, hi, hj => by
   have h := flatO_get L i j (by simpa using hi) hj
   unfold flatO at h ⊢
   rw [List.flatMap_cons, List.getElem?_append_right (by rw [ocRow_len]; omega)]
   rw [show (i + 1) * 6 + j - (ocRow a).length = i * 6 + j from by rw [ocRow_len]; omega, h]
   simp
theorem flatO_one (e : Oc) : flatO [e] = ocRow e := by unfold flatO; simp
theorem flatO_append (l l' : List Oc) : flatO (l ++ l') = flatO l ++ flatO l' := by unfold flatO; simp
theorem oc_one {o : Oc} : ∀ u ∈ ocRow o, u.oneCell' = true := by
 intro u hu
 unfold ocRow at hu
 simp only [List.mem_cons, List.not_mem_nil, or_false] at hu
 rcases hu with rfl | rfl | rfl | rfl | rfl | rfl <;> rfl
abbrev OwO (t : TypeId) (w : World) (base : Nat) (v : Value) (L : List Oc) : Prop := w.ownsRow base t 6 v L.length (flatO L)
abbrev RdO (w : World) (B : Nat) (A : Option Addr) (L : List Oc) : Prop := SeqAt w B A L.length 6 fun i => ocRow L[i]!
section
variable {t : TypeId} {w w' : World} {base B : Nat} {v : Value} {L L' : List Oc}
theorem OwO.nil_ (t : TypeId) (w : World) (base : Nat) : OwO t w base (.slice none 0 0) [] := World.ownsRow_nil _ _ _ _
theorem OwO.below (h : OwO t w base v L) (hb : Below w.heap.size w w') : OwO t w' base v L :=
 own_kept h (Kept.of_below (own := fun _ => False) hb) (fun _ _ _ h => h)
theorem OwO.rd (h : OwO t w base v L) : ∃ A c, v = .slice A L.length c ∧ RdO w w.heap.size A L ∧ (v.ownBlock = none ∧ A = none ∧ L.length = 0 ∧ c = 0 ∨ ∃ g, v.ownBlock = some g ∧ A = some ⟨g, 0, none⟩ ∧ base ≤ g ∧ g < w.heap.size ∧ ∃ cs, Blk w g t cs ∧ cs.size = c * 6 ∧ L.length ≤ c ∧ ∀ j, j < L.length * 6 → cs[j]? = (flatO L)[j]?) := by
 rcases h.2 with ⟨rfl, h0⟩ | ⟨g, cap, cur, rfl, hb, hg, h1, h2, h3, h4⟩
 · exact ⟨none, 0, by rw [h0], fun c => absurd c (by omega), .inl ⟨rfl, rfl, h0, rfl⟩⟩
 · have hb' : Blk w g t cur := hg
   have hx : ∀ j, j < L.length * 6 → cur[j]? = (flatO L)[j]? := fun j hj => by
     rw [← h4, List.getElem?_take_of_lt hj, Array.getElem?_toList]
   exact ⟨_, cap, rfl, fun _ => ⟨g, 0, rfl, hb'.size, fun i hi k hk => by rw [Nat.zero_add, hb'.at_, hx _ (by omega), flatO_get L i k hi hk]⟩, .inr ⟨g, rfl, rfl, hb, hb'.size, cur, hb', h3, h1, hx⟩⟩
theorem OwO.own_lt (h : OwO t w base v L) {g : Nat} (hg : v.ownBlock = some g) : base ≤ g ∧ ∃ cs, Blk w g t cs := by
 obtain ⟨A, c, e, _, (⟨e1, _⟩ | ⟨g', e1, _, hb, _, cs, hc, _⟩)⟩ := h.rd
 · rw [hg] at e1; cases e1
 · rw [hg] at e1; injection e1 with e1; subst e1; exact ⟨hb, cs, hc⟩
theorem OwO.kept {own : Nat → Prop} (h : OwO t w base v L) (hk : Kept own w w') (hn : ∀ g, v.ownBlock = some g → ¬ own g) : OwO t w' base v L := by
 refine ⟨h.1, ?_⟩
 rcases h.2 with h0 | ⟨g, cap, cur, rfl, hb, hg, h1⟩
 · exact .inl h0
 · exact .inr ⟨g, cap, cur, rfl, hb, Blk.kept (cs := cur) hg hk (hn g rfl), h1⟩
theorem RdO.cells {A : Option Addr} (h : RdO w B A L) {i : Nat} (hi : i < L.length) : ∃ b off, A = some ⟨b, off, none⟩ ∧ b < B ∧
   w.cell? ⟨b, off + i * 6, none⟩ = some (.int .u64 (L[i]!).a) ∧ w.cell? ⟨b, off + i * 6 + 1, none⟩ = some (.int .i64 (L[i]!).b) ∧ w.cell? ⟨b, off + i * 6 + 2, none⟩ = some (.int .i64 (L[i]!).c) ∧
   w.cell? ⟨b, off + i * 6 + 3, none⟩ = some (.int .u8 (L[i]!).d) ∧ w.cell? ⟨b, off + i * 6 + 4, none⟩ = some (.int .i64 (L[i]!).e) ∧ w.cell? ⟨b, off + i * 6 + 5, none⟩ = some (.int .i64 (L[i]!).f) := by
 obtain ⟨b, off, e, hb, hc⟩ := h (by omega)
 have := hc i hi
 exact ⟨b, off, e, hb, this 0 (by omega), this 1 (by omega), this 2 (by omega), this 3 (by omega), this 4 (by omega), this 5 (by omega)⟩
end
section
variable {H : Type} {enc : TypeId × Value → H} {w : World}
end
theorem tlinfo : (Tryz.prog.info? 164).map (fun i => (i.zero, i.size, i.bytes)) = some (some oc0.v, 6, 48) := by kernel_rfl
theorem inf_of {t : TypeId} {z : Option Value} {s b : Nat} (h : (Tryz.prog.info? t).map (fun i => (i.zero, i.size, i.bytes)) = some (z, s, b)) : ∃ i, Tryz.prog.info? t = some i ∧ i.zero = z ∧ i.size = s ∧ i.bytes = b := by
 obtain ⟨i, hi, hz⟩ := Option.map_eq_some_iff.1 h
 simp only [Prod.mk.injEq] at hz
 exact ⟨i, hi, hz.1, hz.2.1, hz.2.2⟩
theorem maxbig : 100000 ≤ maxLen := by unfold maxLen; omega
section
variable {w : World} {ops : Array Oper} {rest : List Oper} {o : Oper} {ac : Act} {Q : Exit → Act → World → Prop}
end
end Go.Proofs.YtcffeokbipjaoaaGreat
namespace Go.Proofs.YtcffeokbipjaoaaGreat
open Go.RowKit Go.ChangeShapes Go.WideShapes Go.Deep
set_option linter.unusedVariables false
set_option linter.unusedSimpArgs false
abbrev tT : TypeId := 164
structure LogAt (base : Nat) (w : World) (p : Nat) (r : Option Nat) (L : List Oc) : Prop where
 ex : ∃ v, Blk w p 110 #[v] ∧ OwO tT w base v L ∧ v.ownBlock = r
section
variable {base p : Nat} {r : Option Nat} {w w' : World} {L : List Oc}
theorem LogAt.lt (h : LogAt base w p r L) : p < w.heap.size := by obtain ⟨v, hb, _⟩ := h.ex; exact hb.size
theorem LogAt.head (h : LogAt base w p r L) : ∃ cs, Blk w p 110 cs := by obtain ⟨v, hb, _⟩ := h.ex; exact ⟨_, hb⟩
theorem LogAt.row (h : LogAt base w p r L) {g : Nat} (hg : r = some g) : base ≤ g ∧ ∃ cs, Blk w g tT cs := by
 obtain ⟨v, _, ho, rfl⟩ := h.ex
 exact ho.own_lt hg
theorem LogAt.kept {own : Nat → Prop} (h : LogAt base w p r L) (hk : Kept own w w') (hp : ¬ own p) (hr : ∀ g, r = some g → ¬ own g) : LogAt base w' p r L := by
 obtain ⟨v, hb, ho, rfl⟩ := h.ex
 exact ⟨v, hb.kept hk hp, ho.kept hk hr, rfl⟩
theorem LogAt.below (h : LogAt base w p r L) (hb : Below w.heap.size w w') : LogAt base w' p r L := h.kept (own := fun _ => False) (Kept.of_below hb) id fun _ _ h => h
theorem LogAt.slice (h : LogAt base w p r L) : ∃ A c, w.cell? ⟨p, 0, none⟩ = some (.slice A L.length c) ∧ RdO w w.heap.size A L ∧ (A = none ∧ L.length = 0 ∧ c = 0 ∨ ∃ g, r = some g ∧ A = some ⟨g, 0, none⟩) ∧ OwO tT w base (.slice A L.length c) L ∧ Blk w p 110 #[.slice A L.length c] ∧ (Value.slice A L.length c).ownBlock = r := by
 obtain ⟨v, hb, ho, hr⟩ := h.ex
 obtain ⟨A, c, rfl, hd, hc⟩ := ho.rd
 refine ⟨A, c, hb.val rfl, hd, ?_, ho, hb, hr⟩
 rcases hc with ⟨_, h1, h2, h3⟩ | ⟨g, h1, h2, _⟩
 · exact .inl ⟨h1, h2, h3⟩
 · exact .inr ⟨g, by rw [← hr]; exact h1, h2⟩
end
end Go.Proofs.YtcffeokbipjaoaaGreat
