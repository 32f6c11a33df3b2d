/- Texts of this claim, one behind the other: Any Hpe. -/
import Derived.OrdersHeld
import Derived.RegionTactic
import Derived.Deep.AppendLies
import Derived.StillTailTactics
import Derived.Test.YtcffeokbipjaoaaGreatMuaa
import Derived.Test.YtcffeokbipjaoaaGreatMuaf
namespace Go.Proofs.YtcffeokbipjaoaaGreat
open Go
set_option linter.unusedVariables false
section
variable {P : Program} {ops : Array Oper} {Q : Exit → Act → World → Prop} {md : Region.Mode} {S : World → Prop} {bs : List Nat}
def ahead (bs : List Nat) (l : Array Bool) : Bool := bs.all fun s => !l.getD s true
def Shut (md : Region.Mode) (ops : Array Oper) (l : Array Bool) : Prop := ∀ j o, ops[j]? = some o → l.getD j true = true → ∀ e ∈ o.after, Region.binds md e = true → l.getD e.on false = true
def waitsFor (md : Region.Mode) (ops : Array Oper) : Nat → Nat → Nat → Bool
 | 0, _, _ => false
 | n + 1, s, i => match ops[s]? with
   | none => false
   | some o => o.after.any fun e => Region.binds md e && (e.on == i || waitsFor md ops n e.on i)
def anyB (P : Program) (md : Region.Mode) (ops : Array Oper) (Q : Exit → Act → World → Prop) (S : World → Prop) (bs : List Nat) : Nat → Array Bool → Act → World → Prop
 | 0, l, a, w => Region.ready md ops l = [] ∧ Q .normal a w
 | f + 1, l, a, w => (Region.ready md ops l = [] → Q .normal a w) ∧ ∀ i ∈ Region.ready md ops l, wpOp P ops Q i (fun a' w' => (ahead bs (l.setIfInBounds i true) = true → S w') ∧ anyB P md ops Q S bs f (l.setIfInBounds i true) a' w') a w
theorem any_of_B : ∀ (f : Nat) (l : Array Bool) (a : Act) (w : World), anyB P md ops Q S bs f l a w → wpAny P md ops Q f l a w
 | 0, _, _, _, h => h
 | f + 1, _, _, _, h => ⟨h.1, fun i hi => wpOp_mono (fun _ _ h' => any_of_B f _ _ _ h'.2) (h.2 i hi)⟩
theorem shutUp_ {l : Array Bool} {i : Nat} (h : l.getD i false = true) : l.getD i true = true := by
 rcases Nat.lt_or_ge i l.size with c | c
 · simp [c] at h ⊢; exact h
 · simp [Array.getElem?_eq_none c]
theorem Shut.none (n : Nat) (hn : n = ops.size) : Shut md ops (Array.replicate n false) := fun j o ho h => by
 have hj : j < n := by rw [hn]; exact (Array.getElem?_eq_some_iff.1 ho).1
 simp [hj] at h
theorem Shut.step {l : Array Bool} {j : Nat} (h : Shut md ops l) (hj : j ∈ Region.ready md ops l) : Shut md ops (l.setIfInBounds j true) := fun k o ho hk e he hb => by
 by_cases c : j = k
 · subst c
   obtain ⟨_, o', ho', hall⟩ := mem_ready.1 hj
   rw [ho] at ho'
   cases ho'
   exact getD_set_true (hall e he hb)
 · rw [getD_set_ne true c] at hk
   exact getD_set_true (h k o ho hk e he hb)
theorem Shut.waits {l : Array Bool} (h : Shut md ops l) : ∀ (n s i : Nat), waitsFor md ops n s i = true → l.getD s true = true → l.getD i true = true
 | 0, _, _, hw, _ => by simp [waitsFor] at hw
 | n + 1, s, i, hw, hs => by
   unfold waitsFor at hw
   cases ho : ops[s]? with
   | none => simp [ho] at hw
   | some o =>
     simp only [ho] at hw
     obtain ⟨e, he, hb⟩ := Array.any_eq_true'.1 hw
     simp only [Bool.and_eq_true, Bool.or_eq_true, beq_iff_eq] at hb
     have h1 := h s o ho hs e he hb.1
     rcases hb.2 with c | c
     · rw [← c]; exact shutUp_ h1
     · exact h.waits n e.on i c (shutUp_ h1)
theorem Shut.ahead {l : Array Bool} {n i : Nat} (h : Shut md ops l) (hb : (bs.all fun s => waitsFor md ops n s i) = true) (hi : l.getD i true = false) : ahead bs l = true := by
 unfold Go.Proofs.YtcffeokbipjaoaaGreat.ahead
 rw [List.all_eq_true] at hb ⊢
 intro s hs
 cases c : l.getD s true with
 | false => rfl
 | true => rw [h.waits n s i (hb s hs) c] at hi; cases hi
theorem ahead_set {l : Array Bool} {i : Nat} (hn : bs.contains i = false) : ahead bs (l.setIfInBounds i true) = ahead bs l := by
 unfold ahead
 rw [Bool.eq_iff_iff, List.all_eq_true, List.all_eq_true]
 have hne : ∀ s ∈ bs, i ≠ s := fun s hs e => by subst e; simp [hs] at hn
 constructor <;> intro h s hs
 · have := h s hs; rw [getD_set_ne true (hne s hs)] at this; exact this
 · rw [getD_set_ne true (hne s hs)]; exact h s hs
theorem anyB_first {i n : Nat} {oi : Oper} {v : Value} (hi : ops[i]? = some oi) (hs : Region.noSelect ops = true) (hn : bs.contains i = false) (hb : (bs.all fun s => waitsFor md ops n s i) = true)
   (hQ : ∀ c a w, Q (.panic c) (a.put oi.dst v) w → Q (.panic c) a w) :
   ∀ (f : Nat) (l : Array Bool) (a : Act) (w : World),
     (∀ j oj, ops[j]? = some oj → j ≠ i → l.getD j true = false → (∀ e ∈ oj.after, Region.binds md e = true → e.on ≠ i) → oi.apart ops oj = true) →
     i ∈ Region.ready md ops l → Shut md ops l → YieldsIf P ops S oi v a → S w → anyB P md ops Q S bs f (l.setIfInBounds i true) (a.put oi.dst v) w → anyB P md ops Q S bs (f + 1) l a w := by
 intro f
 induction f with
 | zero =>
   intro l a w _ hr _ hy hS H
   refine ⟨fun h => (by rw [h] at hr; cases hr), fun j hj => ?_⟩
   rcases Decidable.em (j = i) with c | c
   · subst c; exact hy.wpOp hi hS ⟨fun _ => hS, H⟩
   · have hm := ready_mono hj c
     rw [H.1] at hm
     cases hm
 | succ f ih =>
   intro l a w hfree hr hl hy hS H
   refine ⟨fun h => (by rw [h] at hr; cases hr), fun j hj => ?_⟩
   rcases Decidable.em (j = i) with c | c
   · subst c; exact hy.wpOp hi hS ⟨fun _ => hS, H⟩
   have hri : i ∈ Region.ready md ops (l.setIfInBounds j true) := ready_mono hr (Ne.symm c)
   have hlj := hl.step hj
   obtain ⟨hju, oj, hoj, hall⟩ := mem_ready.1 hj
   have hi0 := (mem_ready.1 hr).1
   have hfr : ∀ e ∈ oj.after, Region.binds md e = true → e.on ≠ i := fun e he hbe heq => by
     have := shutUp_ (hall e he hbe)
     rw [heq, hi0] at this
     cases this
   have K := wpOp_putIf hoj (hfree j oj hoj c hju hfr) (Region.noSelect_spec hs i oi · · hi) (Region.noSelect_spec hs j oj · · hoj) hQ hy (H.2 j (ready_mono hj c))
   refine wpOp_mono (fun a' w' k => ?_) K
   obtain ⟨ky, ks, kr⟩ := k
   rw [Array.setIfInBounds_comm _ _ (Ne.symm c)] at ks kr
   have hS' : S w' := ks (by rw [ahead_set hn]; exact hlj.ahead hb (mem_ready.1 hri).1)
   refine ⟨fun _ => hS', ih _ a' w' (fun k ok hk hki hku hke => ?_) hri hlj ky hS' kr⟩
   refine hfree k ok hk hki ?_ hke
   rcases Decidable.em (j = k) with d | d
   · subst d; exact hju
   · rw [getD_set_ne true d] at hku; exact hku
theorem anyB_take (n : Nat) {i : Nat} {oi : Oper} {v : Value} {f : Nat} {l : Array Bool} {a : Act} {w : World} (hi : ops[i]? = some oi) (hs : Region.noSelect ops = true) (hf : Region.free md ops l i = true)
   (hr : (Region.ready md ops l).contains i = true) (hn : bs.contains i = false) (hb : (bs.all fun s => waitsFor md ops n s i) = true) (hQ : ∀ c a w, Q (.panic c) (a.put oi.dst v) w → Q (.panic c) a w)
   (hl : Shut md ops l) (hS : S w) (hy : YieldsIf P ops S oi v a)
   (h : Shut md ops (l.setIfInBounds i true) → anyB P md ops Q S bs f (l.setIfInBounds i true) (a.put oi.dst v) w) : anyB P md ops Q S bs (f + 1) l a w :=
 anyB_first hi hs hn hb hQ f l a w (Region.free_spec hi hf) (by simpa using hr) hl hy hS (h (hl.step (by simpa using hr)))
theorem anyB_firstW {i : Nat} {oi : Oper} {v : Value} (hi : ops[i]? = some oi) (hs : Region.noSelect ops = true) (hn : bs.contains i = false)
   (hQ : ∀ c a w, Q (.panic c) (a.put oi.dst v) w → Q (.panic c) a w) :
   ∀ (f : Nat) (l : Array Bool) (a : Act) (w : World),
     (∀ j oj, ops[j]? = some oj → j ≠ i → l.getD j true = false → (∀ e ∈ oj.after, Region.binds md e = true → e.on ≠ i) → oi.apart ops oj = true) →
     i ∈ Region.ready md ops l → YieldsIf P ops (fun _ => True) oi v a → (ahead bs l = true → S w) → anyB P md ops Q S bs f (l.setIfInBounds i true) (a.put oi.dst v) w → anyB P md ops Q S bs (f + 1) l a w := by
 intro f
 induction f with
 | zero =>
   intro l a w _ hr hy hS H
   refine ⟨fun h => (by rw [h] at hr; cases hr), fun j hj => ?_⟩
   rcases Decidable.em (j = i) with c | c
   · subst c; exact hy.wpOp hi trivial ⟨fun h => hS (by rw [ahead_set hn] at h; exact h), H⟩
   · have hm := ready_mono hj c
     rw [H.1] at hm
     cases hm
 | succ f ih =>
   intro l a w hfree hr hy hS H
   refine ⟨fun h => (by rw [h] at hr; cases hr), fun j hj => ?_⟩
   rcases Decidable.em (j = i) with c | c
   · subst c; exact hy.wpOp hi trivial ⟨fun h => hS (by rw [ahead_set hn] at h; exact h), H⟩
   obtain ⟨hju, oj, hoj, hall⟩ := mem_ready.1 hj
   have hi0 := (mem_ready.1 hr).1
   have hfr : ∀ e ∈ oj.after, Region.binds md e = true → e.on ≠ i := fun e he hbe heq => by
     have := shutUp_ (hall e he hbe)
     rw [heq, hi0] at this
     cases this
   have K := wpOp_putIf hoj (hfree j oj hoj c hju hfr) (Region.noSelect_spec hs i oi · · hi) (Region.noSelect_spec hs j oj · · hoj) hQ hy (H.2 j (ready_mono hj c))
   refine wpOp_mono (fun a' w' k => ?_) K
   obtain ⟨ky, ks, kr⟩ := k
   rw [Array.setIfInBounds_comm _ _ (Ne.symm c)] at ks kr
   rw [ahead_set hn] at ks
   refine ⟨ks, ih _ a' w' (fun k ok hk hki hku hke => ?_) (ready_mono hr (Ne.symm c)) ky ks kr⟩
   refine hfree k ok hk hki ?_ hke
   rcases Decidable.em (j = k) with d | d
   · subst d; exact hju
   · rw [getD_set_ne true d] at hku; exact hku
theorem anyB_takeW {i : Nat} {oi : Oper} {v : Value} {f : Nat} {l : Array Bool} {a : Act} {w : World} (hi : ops[i]? = some oi) (hs : Region.noSelect ops = true) (hf : Region.free md ops l i = true)
   (hr : (Region.ready md ops l).contains i = true) (hn : bs.contains i = false) (hQ : ∀ c a w, Q (.panic c) (a.put oi.dst v) w → Q (.panic c) a w)
   (hl : Shut md ops l) (hS : ahead bs l = true → S w) (hy : YieldsIf P ops (fun _ => True) oi v a)
   (h : Shut md ops (l.setIfInBounds i true) → anyB P md ops Q S bs f (l.setIfInBounds i true) (a.put oi.dst v) w) : anyB P md ops Q S bs (f + 1) l a w :=
 anyB_firstW hi hs hn hQ f l a w (Region.free_spec hi hf) (by simpa using hr) hy hS (h (hl.step (by simpa using hr)))
theorem noS {l : Array Bool} {w : World} (h : ahead bs l = false) : ahead bs l = true → S w := fun c => by rw [h] at c; cases c
theorem anyB_all {rs : List Nat} {f : Nat} {l : Array Bool} {a : Act} {w : World} (hr : Region.ready md ops l = rs) (hne : rs ≠ [])
   (h : ∀ i ∈ rs, wpOp P ops Q i (fun a' w' => (ahead bs (l.setIfInBounds i true) = true → S w') ∧ anyB P md ops Q S bs f (l.setIfInBounds i true) a' w') a w) : anyB P md ops Q S bs (f + 1) l a w :=
 ⟨fun h0 => absurd (hr ▸ h0) hne, hr ▸ h⟩
theorem anyB_done {l : Array Bool} {a : Act} {w : World} (hr : Region.ready md ops l = []) (h : Q .normal a w) : ∀ f, anyB P md ops Q S bs f l a w
 | 0 => ⟨hr, h⟩
 | _ + 1 => ⟨fun _ => h, by rw [hr]; simp⟩
theorem wp_region_B (S : World → Prop) (bs : List Nat) {id : Nat} {a : Act} {w : World} (hm : P.follows .mixedOrders = true)
   (h : Shut .any ops (Array.replicate ops.size false) → anyB P .any ops Q S bs ops.size (Array.replicate ops.size false) a w.drew) : (Code.region id ops true).wp P Q a w :=
 wp_region_any hm (any_of_B _ _ _ _ (h (Shut.none _ rfl)))
theorem anyB_each {rs : List Nat} {f : Nat} {l : Array Bool} {a : Act} {w : World} (hl : Shut md ops l) (hr : Region.ready md ops l = rs) (hne : rs ≠ [])
   (h : ∀ i ∈ rs, Shut md ops (l.setIfInBounds i true) → wpOp P ops Q i (fun a' w' => (ahead bs (l.setIfInBounds i true) = true → S w') ∧ anyB P md ops Q S bs f (l.setIfInBounds i true) a' w') a w) : anyB P md ops Q S bs (f + 1) l a w :=
 anyB_all hr hne fun i hi => h i hi (hl.step (by rw [hr]; exact hi))
theorem held {b : Bool} {T K : Act → World → Prop} (hK : ∀ a w, ((b = true → S w) ∧ T a w) → K a w) {a : Act} {w : World} (hs : S w) (h : S w → T a w) : K a w := hK a w ⟨fun _ => hs, h hs⟩
theorem unheld {b : Bool} {T K : Act → World → Prop} (hK : ∀ a w, ((b = true → S w) ∧ T a w) → K a w) {a : Act} {w : World} (hb : b = false) (h : T a w) : K a w := hK a w ⟨fun c => (by rw [hb] at c; cases c), h⟩
theorem begun (S : World → Prop) (bs : List Nat) {id : Nat} {a : Act} {w : World} (hm : P.follows .mixedOrders = true) (hs : S w.drew)
   (h : Shut .any ops (Array.replicate ops.size false) → S w.drew → anyB P .any ops Q S bs ops.size (Array.replicate ops.size false) a w.drew) : (Code.region id ops true).wp P Q a w :=
 wp_region_B S bs hm fun h1 => h h1 hs
end
end Go.Proofs.YtcffeokbipjaoaaGreat
namespace Go.Proofs.YtcffeokbipjaoaaGreat
open Go.ChangeShapes Go.WideShapes Go.RowKit
set_option linter.unusedVariables false
set_option linter.unusedSimpArgs false
def SwS (p a i j m c : Nat) (ik it im jk jt jm : Int) (w' : World) : Prop := w'.cell? ⟨p, 0, none⟩ = some (.slice (some ⟨a, 0, none⟩) m c) ∧ w'.cell? ⟨a, i * 3, none⟩ = some (.int .i64 ik) ∧ w'.cell? ⟨a, i * 3 + 1, none⟩ = some (.int .u64 it) ∧ w'.cell? ⟨a, i * 3 + 2, none⟩ = some (.int .i64 im) ∧ w'.cell? ⟨a, j * 3, none⟩ = some (.int .i64 jk) ∧ w'.cell? ⟨a, j * 3 + 1, none⟩ = some (.int .u64 jt) ∧ w'.cell? ⟨a, j * 3 + 2, none⟩ = some (.int .i64 jm)
section
variable {w w' : World} {p b n m c : Nat} {A : Option Addr} {E : Nat → En} {P : Nat → Int}
theorem get_set3 {cs : Array Value} {k x j N : Nat} {e : List Value} (he : e.length = 3) (hz : cs.size = N * 3) (hk : k < N) (hj : j < 3) (v0 v1 v2 : Value) (h0 : e = [v0, v1, v2]) :
   (((cs.setIfInBounds (k * 3) v0).setIfInBounds (k * 3 + 1) v1).setIfInBounds (k * 3 + 2) v2)[x * 3 + j]? = if x = k then e[j]? else cs[x * 3 + j]? := by
 subst h0
 by_cases hx : x = k
 · subst hx
   rw [if_pos rfl]
   match j, hj with
   | 0, _ => rw [get_set_far (by omega), get_set_far (by omega)]; exact get_set_same (by omega) _
   | 1, _ => rw [get_set_far (by omega)]; exact get_set_same (by simp; omega) _
   | 2, _ => exact get_set_same (by simp; omega) _
 · rw [if_neg hx, get_set_far (by omega), get_set_far (by omega), get_set_far (by omega)]
theorem HeapAt.setE {a k : Nat} (h : HeapAt w p b n (some ⟨a, 0, none⟩) m c E P) (hk : k < m) (e : En) :
   HeapAt (((w.setCell ⟨a, k * 3, none⟩ (.int .i64 e.k)).setCell ⟨a, k * 3 + 1, none⟩ (.int .u64 e.t)).setCell ⟨a, k * 3 + 2, none⟩ (.int .i64 e.m)) p b n (some ⟨a, 0, none⟩) m c (fun x => if x = k then e else E x) P := by
 obtain ⟨hd, h1, h2, h3, ht, ⟨ps, bp, pz, pc⟩⟩ := h
 obtain ⟨a', cs, ea, ba, az, ac⟩ := ht (by omega)
 injection ea with ea
 injection ea with ea
 subst ea
 have n1 : p ≠ a := hd.other ba (by decide)
 have n2 : b ≠ a := bp.other ba (by decide)
 refine ⟨((hd.far _ n1).far _ n1).far _ n1, h1, h2, h3, fun _ => ⟨a, _, rfl, ((ba.set_ (k * 3) _).set_ (k * 3 + 1) _).set_ (k * 3 + 2) _, by simp [az], fun x hx j hj => ?_⟩, ⟨ps, ((bp.far _ n2).far _ n2).far _ n2, pz, pc⟩⟩
 rw [get_set3 (e := entRow e) rfl az (by omega) hj _ _ _ rfl]
 by_cases hxk : x = k
 · rw [if_pos hxk, if_pos hxk]
 · rw [if_neg hxk, if_neg hxk]; exact ac x hx j hj
theorem HeapAt.setP {k : Nat} (h : HeapAt w p b n A m c E P) (v : Int) : HeapAt (w.setCell ⟨b, k, none⟩ (.int .i64 v)) p b n A m c E (fun x => if x = k then v else P x) := by
 obtain ⟨hd, h1, h2, h3, ht, ⟨ps, bp, pz, pc⟩⟩ := h
 have n1 : p ≠ b := hd.other bp (by decide)
 refine ⟨hd.far _ n1, h1, h2, h3, fun h0 => ?_, ⟨_, bp.set_ k _, by simp [pz], fun x hx => ?_⟩⟩
 · obtain ⟨a, cs, ea, ba, az, ac⟩ := ht h0
   exact ⟨a, cs, ea, ba.far _ (ba.other bp (by decide)), az, ac⟩
 · by_cases hxk : x = k
   · subst hxk; rw [if_pos rfl]; exact get_set_same (by omega) _
   · rw [if_neg hxk, get_set_far (fun e => hxk e.symm)]; exact pc x hx
theorem HeapAt.drew (h : HeapAt w p b n A m c E P) : HeapAt w.drew p b n A m c E P := h.kept (own := fun _ => False) ((Kept.refl _ _).drew_) fun _ _ _ _ _ _ => id
set_option maxRecDepth 100000 in
set_option maxHeartbeats 1000000 in
theorem hswap_any {i j : Nat} (hi : i < m) (hj : j < m) (w : World) (h : HeapAt w p b n A m c E P) (hM : ∀ k, k < m → 0 ≤ (E k).m ∧ (E k).m < (n : Int)) : Calls Tryz.prog 206 #[.pointer (some ⟨p, 0, none⟩), .int .i64 (i : Int), .int .i64 (j : Int)] w fun e w' => e = .returned (.tuple #[]) ∧ HeapAt w' p b n A m c (fun x => if x = j then E i else if x = i then E j else E x) (fun x => if (x : Int) = (E i).m then (j : Int) else if (x : Int) = (E j).m then (i : Int) else P x) ∧ Kept (fun g => g = b ∨ ∀ x, A = some x → x.block = g) w w' := by
 have q0 := h.p0
 have hm := h.mn
 have hn := h.n0
 obtain ⟨a, rfl, hc, hf⟩ := h.at_ (by omega)
 obtain ⟨c0, c1, c2⟩ := hc i hi
 obtain ⟨d0, d1, d2⟩ := hc j hj
 obtain ⟨⟨ik, it, im⟩, hei⟩ : ∃ e, E i = e := ⟨_, rfl⟩
 obtain ⟨⟨jk, jt, jm⟩, hej⟩ : ∃ e, E j = e := ⟨_, rfl⟩
 have mi := hM i hi
 have mj := hM j hj
 rw [hei] at mi
 rw [hej] at mj
 rw [hei, hej]
 rw [hei] at c0 c1 c2
 rw [hej] at d0 d1 d2
 have H := Lib.hid h
 have HI := Lib.hid hei
 have HJ := Lib.hid hej
 clear h hM hc hei hej
 have mi0 : 0 ≤ im := mi.1
 have mi1 : im < (n : Int) := mi.2
 have mj0 : 0 ≤ jm := mj.1
 have mj1 : jm < (n : Int) := mj.2
 obtain ⟨um, hum⟩ : ∃ u : Nat, im = u := ⟨im.toNat, by omega⟩
 obtain ⟨vm, hvm⟩ : ∃ u : Nat, jm = u := ⟨jm.toNat, by omega⟩
 subst hum hvm
 clear mi mj
 have i0 : (0 : Int) ≤ (i : Int) := by omega
 have i1 : (i : Int) < (m : Int) := by omega
 have j0 : (0 : Int) ≤ (j : Int) := by omega
 have j1 : (j : Int) < (m : Int) := by omega
 go_enter Tryz.func206, Tryz.ntmps206
 go_upto_region 0 with fail
 refine begun (SwS p a i j m c ik it (um : Int) jk jt (vm : Int)) [25, 27] (by kernel_rfl) ⟨q0, c0, c1, c2, d0, d1, d2⟩ (fun hShut hHeld => ?_)
 refine anyB_takeW (i := 0) (v := ?_) rfl (by kernel_rfl) (by kernel_rfl) (by kernel_rfl) (by kernel_rfl) (fun _ _ _ h => h) hShut (fun _ => hHeld) (Or.inl ⟨by rfl, ?_⟩) (fun hShut => ?_)
 case refine_2 => (rintro wz -; go_simp; try with_reducible rfl)
 try simp only [Act.put, List.setIfInBounds_toArray, List.set_cons_zero, List.set_cons_succ]
 refine anyB_takeW (i := 1) (v := ?_) rfl (by kernel_rfl) (by kernel_rfl) (by kernel_rfl) (by kernel_rfl) (fun _ _ _ h => h) hShut (fun _ => hHeld) (Or.inl ⟨by rfl, ?_⟩) (fun hShut => ?_)
 case refine_2 => (rintro wz -; go_simp; try with_reducible rfl)
 try simp only [Act.put, List.setIfInBounds_toArray, List.set_cons_zero, List.set_cons_succ]
 refine anyB_takeW (i := 2) (v := ?_) rfl (by kernel_rfl) (by kernel_rfl) (by kernel_rfl) (by kernel_rfl) (fun _ _ _ h => h) hShut (fun _ => hHeld) (Or.inl ⟨by rfl, ?_⟩) (fun hShut => ?_)
 case refine_2 => (rintro wz -; go_simp; try with_reducible rfl)
 try simp only [Act.put, List.setIfInBounds_toArray, List.set_cons_zero, List.set_cons_succ]
 refine anyB_take 9 (i := 3) (v := ?_) rfl (by kernel_rfl) (by kernel_rfl) (by kernel_rfl) (by kernel_rfl) (by kernel_rfl) (fun _ _ _ h => h) hShut hHeld (Or.inl ⟨by rfl, ?_⟩) (fun hShut => ?_)
 case refine_2 => (rintro wz ⟨sz0, sz1, sz2, sz3, sz4, sz5, sz6⟩; go_simp; try with_reducible rfl)
 try simp only [Act.put, List.setIfInBounds_toArray, List.set_cons_zero, List.set_cons_succ]
 refine anyB_takeW (i := 4) (v := ?_) rfl (by kernel_rfl) (by kernel_rfl) (by kernel_rfl) (by kernel_rfl) (fun _ _ _ h => h) hShut (fun _ => hHeld) (Or.inl ⟨by rfl, ?_⟩) (fun hShut => ?_)
 case refine_2 => (rintro wz -; go_simp; try with_reducible rfl)
 try simp only [Act.put, List.setIfInBounds_toArray, List.set_cons_zero, List.set_cons_succ]
 refine anyB_takeW (i := 5) (v := ?_) rfl (by kernel_rfl) (by kernel_rfl) (by kernel_rfl) (by kernel_rfl) (fun _ _ _ h => h) hShut (fun _ => hHeld) (Or.inl ⟨by rfl, ?_⟩) (fun hShut => ?_)
 case refine_2 => (rintro wz -; go_simp; try with_reducible rfl)
 try simp only [Act.put, List.setIfInBounds_toArray, List.set_cons_zero, List.set_cons_succ]
 refine anyB_takeW (i := 6) (v := ?_) rfl (by kernel_rfl) (by kernel_rfl) (by kernel_rfl) (by kernel_rfl) (fun _ _ _ h => h) hShut (fun _ => hHeld) (Or.inl ⟨by rfl, ?_⟩) (fun hShut => ?_)
 case refine_2 => (rintro wz -; go_simp; try with_reducible rfl)
 try simp only [Act.put, List.setIfInBounds_toArray, List.set_cons_zero, List.set_cons_succ]
 refine anyB_takeW (i := 7) (v := ?_) rfl (by kernel_rfl) (by kernel_rfl) (by kernel_rfl) (by kernel_rfl) (fun _ _ _ h => h) hShut (fun _ => hHeld) (Or.inl ⟨by rfl, ?_⟩) (fun hShut => ?_)
 case refine_2 => (rintro wz -; go_simp; try with_reducible rfl)
 try simp only [Act.put, List.setIfInBounds_toArray, List.set_cons_zero, List.set_cons_succ]
 refine anyB_take 9 (i := 8) (v := ?_) rfl (by kernel_rfl) (by kernel_rfl) (by kernel_rfl) (by kernel_rfl) (by kernel_rfl) (fun _ _ _ h => h) hShut hHeld (Or.inl ⟨by rfl, ?_⟩) (fun hShut => ?_)
 case refine_2 => (rintro wz ⟨sz0, sz1, sz2, sz3, sz4, sz5, sz6⟩; go_simp; try with_reducible rfl)
 try simp only [Act.put, List.setIfInBounds_toArray, List.set_cons_zero, List.set_cons_succ]
 refine anyB_takeW (i := 9) (v := ?_) rfl (by kernel_rfl) (by kernel_rfl) (by kernel_rfl) (by kernel_rfl) (fun _ _ _ h => h) hShut (fun _ => hHeld) (Or.inl ⟨by rfl, ?_⟩) (fun hShut => ?_)
 case refine_2 => (rintro wz -; go_simp; try with_reducible rfl)
 try simp only [Act.put, List.setIfInBounds_toArray, List.set_cons_zero, List.set_cons_succ]
 refine anyB_takeW (i := 10) (v := ?_) rfl (by kernel_rfl) (by kernel_rfl) (by kernel_rfl) (by kernel_rfl) (fun _ _ _ h => h) hShut (fun _ => hHeld) (Or.inl ⟨by rfl, ?_⟩) (fun hShut => ?_)
 case refine_2 => (rintro wz -; go_simp; try with_reducible rfl)
 try simp only [Act.put, List.setIfInBounds_toArray, List.set_cons_zero, List.set_cons_succ]
 refine anyB_takeW (i := 11) (v := ?_) rfl (by kernel_rfl) (by kernel_rfl) (by kernel_rfl) (by kernel_rfl) (fun _ _ _ h => h) hShut (fun _ => hHeld) (Or.inl ⟨by rfl, ?_⟩) (fun hShut => ?_)
 case refine_2 => (rintro wz -; go_simp; try with_reducible rfl)
 try simp only [Act.put, List.setIfInBounds_toArray, List.set_cons_zero, List.set_cons_succ]
 refine anyB_takeW (i := 12) (v := ?_) rfl (by kernel_rfl) (by kernel_rfl) (by kernel_rfl) (by kernel_rfl) (fun _ _ _ h => h) hShut (fun _ => hHeld) (Or.inl ⟨by rfl, ?_⟩) (fun hShut => ?_)
 case refine_2 => (rintro wz -; go_simp; try with_reducible rfl)
 try simp only [Act.put, List.setIfInBounds_toArray, List.set_cons_zero, List.set_cons_succ]
 refine anyB_take 9 (i := 13) (v := ?_) rfl (by kernel_rfl) (by kernel_rfl) (by kernel_rfl) (by kernel_rfl) (by kernel_rfl) (fun _ _ _ h => h) hShut hHeld (Or.inl ⟨by rfl, ?_⟩) (fun hShut => ?_)
 case refine_2 => (rintro wz ⟨sz0, sz1, sz2, sz3, sz4, sz5, sz6⟩; go_simp; try with_reducible rfl)
 try simp only [Act.put, List.setIfInBounds_toArray, List.set_cons_zero, List.set_cons_succ]
 refine anyB_takeW (i := 14) (v := ?_) rfl (by kernel_rfl) (by kernel_rfl) (by kernel_rfl) (by kernel_rfl) (fun _ _ _ h => h) hShut (fun _ => hHeld) (Or.inl ⟨by rfl, ?_⟩) (fun hShut => ?_)
 case refine_2 => (rintro wz -; go_simp; try with_reducible rfl)
 try simp only [Act.put, List.setIfInBounds_toArray, List.set_cons_zero, List.set_cons_succ]
 refine anyB_takeW (i := 15) (v := ?_) rfl (by kernel_rfl) (by kernel_rfl) (by kernel_rfl) (by kernel_rfl) (fun _ _ _ h => h) hShut (fun _ => hHeld) (Or.inl ⟨by rfl, ?_⟩) (fun hShut => ?_)
 case refine_2 => (rintro wz -; go_simp; try with_reducible rfl)
 try simp only [Act.put, List.setIfInBounds_toArray, List.set_cons_zero, List.set_cons_succ]
 refine anyB_take 9 (i := 16) (v := ?_) rfl (by kernel_rfl) (by kernel_rfl) (by kernel_rfl) (by kernel_rfl) (by kernel_rfl) (fun _ _ _ h => h) hShut hHeld (Or.inl ⟨by rfl, ?_⟩) (fun hShut => ?_)
 case refine_2 => (rintro wz ⟨sz0, sz1, sz2, sz3, sz4, sz5, sz6⟩; go_simp; try with_reducible rfl)
 try simp only [Act.put, List.setIfInBounds_toArray, List.set_cons_zero, List.set_cons_succ]
 refine anyB_takeW (i := 17) (v := ?_) rfl (by kernel_rfl) (by kernel_rfl) (by kernel_rfl) (by kernel_rfl) (fun _ _ _ h => h) hShut (fun _ => hHeld) (Or.inl ⟨by rfl, ?_⟩) (fun hShut => ?_)
 case refine_2 => (rintro wz -; go_simp; try with_reducible rfl)
 try simp only [Act.put, List.setIfInBounds_toArray, List.set_cons_zero, List.set_cons_succ]
 refine anyB_takeW (i := 18) (v := ?_) rfl (by kernel_rfl) (by kernel_rfl) (by kernel_rfl) (by kernel_rfl) (fun _ _ _ h => h) hShut (fun _ => hHeld) (Or.inl ⟨by rfl, ?_⟩) (fun hShut => ?_)
 case refine_2 => (rintro wz -; go_simp; try with_reducible rfl)
 try simp only [Act.put, List.setIfInBounds_toArray, List.set_cons_zero, List.set_cons_succ]
 refine anyB_takeW (i := 19) (v := ?_) rfl (by kernel_rfl) (by kernel_rfl) (by kernel_rfl) (by kernel_rfl) (fun _ _ _ h => h) hShut (fun _ => hHeld) (Or.inl ⟨by rfl, ?_⟩) (fun hShut => ?_)
 case refine_2 => (rintro wz -; go_simp; try with_reducible rfl)
 try simp only [Act.put, List.setIfInBounds_toArray, List.set_cons_zero, List.set_cons_succ]
 refine anyB_take 9 (i := 20) (v := ?_) rfl (by kernel_rfl) (by kernel_rfl) (by kernel_rfl) (by kernel_rfl) (by kernel_rfl) (fun _ _ _ h => h) hShut hHeld (Or.inl ⟨by rfl, ?_⟩) (fun hShut => ?_)
 case refine_2 => (rintro wz ⟨sz0, sz1, sz2, sz3, sz4, sz5, sz6⟩; go_simp; try with_reducible rfl)
 try simp only [Act.put, List.setIfInBounds_toArray, List.set_cons_zero, List.set_cons_succ]
 refine anyB_takeW (i := 21) (v := ?_) rfl (by kernel_rfl) (by kernel_rfl) (by kernel_rfl) (by kernel_rfl) (fun _ _ _ h => h) hShut (fun _ => hHeld) (Or.inl ⟨by rfl, ?_⟩) (fun hShut => ?_)
 case refine_2 => (rintro wz -; go_simp; try with_reducible rfl)
 try simp only [Act.put, List.setIfInBounds_toArray, List.set_cons_zero, List.set_cons_succ]
 refine anyB_takeW (i := 22) (v := ?_) rfl (by kernel_rfl) (by kernel_rfl) (by kernel_rfl) (by kernel_rfl) (fun _ _ _ h => h) hShut (fun _ => hHeld) (Or.inl ⟨by rfl, ?_⟩) (fun hShut => ?_)
 case refine_2 => (rintro wz -; go_simp; try with_reducible rfl)
 try simp only [Act.put, List.setIfInBounds_toArray, List.set_cons_zero, List.set_cons_succ]
 refine anyB_take 9 (i := 23) (v := ?_) rfl (by kernel_rfl) (by kernel_rfl) (by kernel_rfl) (by kernel_rfl) (by kernel_rfl) (fun _ _ _ h => h) hShut hHeld (Or.inl ⟨by rfl, ?_⟩) (fun hShut => ?_)
 case refine_2 => (rintro wz ⟨sz0, sz1, sz2, sz3, sz4, sz5, sz6⟩; go_simp; try with_reducible rfl)
 try simp only [Act.put, List.setIfInBounds_toArray, List.set_cons_zero, List.set_cons_succ]
 refine anyB_takeW (i := 24) (v := ?_) rfl (by kernel_rfl) (by kernel_rfl) (by kernel_rfl) (by kernel_rfl) (fun _ _ _ h => h) hShut (fun _ => hHeld) (Or.inl ⟨by rfl, ?_⟩) (fun hShut => ?_)
 case refine_2 => (rintro wz -; go_simp; try with_reducible rfl)
 try simp only [Act.put, List.setIfInBounds_toArray, List.set_cons_zero, List.set_cons_succ]
 refine anyB_each (rs := [25]) hShut (by kernel_rfl) (by simp) ?_
 refine List.forall_mem_cons.2 ⟨fun hShut => wpOp_step rfl (fun K hK => ?_), ?_⟩
 ·
   go_simp
   refine unheld hK (by kernel_rfl) ?_
   clear hK K
   have h1 := (H.out.setE hi ⟨jk, jt, (vm : Int)⟩).drew
   have k1 : Kept (fun g => g = b ∨ ∀ x, (some (⟨a, 0, none⟩ : Addr)) = some x → x.block = g) w _ := ((((Kept.refl _ w).set_ (p := ⟨a, i * 3, none⟩) (.inl (.inr (by intro x hx; injection hx with hx; rw [← hx]))) (.int .i64 jk)).set_ (p := ⟨a, i * 3 + 1, none⟩) (.inl (.inr (by intro x hx; injection hx with hx; rw [← hx]))) (.int .u64 jt)).set_ (p := ⟨a, i * 3 + 2, none⟩) (.inl (.inr (by intro x hx; injection hx with hx; rw [← hx]))) (.int .i64 (vm : Int))).drew_
   revert h1 k1
   generalize (World.drew (World.setCell (World.setCell (World.setCell w ⟨a, i * 3, none⟩ (.int .i64 jk)) ⟨a, i * 3 + 1, none⟩ (.int .u64 jt)) ⟨a, i * 3 + 2, none⟩ (.int .i64 (vm : Int)))) = wq
   intro h1 k1
   have H1 := Lib.hid h1
   have K1 := Lib.hid k1
   obtain ⟨a', ea, hc1, hf1⟩ := h1.at_ (by omega)
   injection ea with ea
   injection ea with ea
   subst ea
   obtain ⟨e0, e1, e2⟩ := hc1 j hj
   have hej : (if j = i then (⟨jk, jt, (vm : Int)⟩ : En) else E j) = ⟨jk, jt, (vm : Int)⟩ := by split; rfl; exact HJ.out
   simp only [hej] at e0 e1 e2
   clear h1 k1 hc1 hej hf q0 c0 c1 c2 d0 d1 d2 hHeld
   refine anyB_takeW (i := 26) (v := ?_) rfl (by kernel_rfl) (by kernel_rfl) (by kernel_rfl) (by kernel_rfl) (fun _ _ _ h => h) hShut (noS (by kernel_rfl)) (Or.inl ⟨by rfl, ?_⟩) (fun hShut => ?_)
   case refine_2 => (rintro wz -; go_simp; try with_reducible rfl)
   try simp only [Act.put, List.setIfInBounds_toArray, List.set_cons_zero, List.set_cons_succ]
   refine anyB_each (rs := [27]) hShut (by kernel_rfl) (by simp) ?_
   refine List.forall_mem_cons.2 ⟨fun hShut => wpOp_step rfl (fun K hK => ?_), ?_⟩
   ·
     go_simp
     refine unheld hK (by kernel_rfl) ?_
     clear hK K
     refine anyB_done (by kernel_rfl) ?_ _
     go_upto_region 1 with fail
     refine wp_worldh (fun wx => HeapAt wx p b n (some ⟨a, 0, none⟩) m c (fun x => if x = j then ⟨ik, it, (um : Int)⟩ else if x = i then ⟨jk, jt, (vm : Int)⟩ else E x) P ∧ Kept (fun g => g = b ∨ ∀ x, (some (⟨a, 0, none⟩ : Addr)) = some x → x.block = g) w wx) ⟨H1.out.setE hj ⟨ik, it, (um : Int)⟩, (((K1.out.set_ (p := ⟨a, j * 3, none⟩) (.inl (.inr (by intro x hx; injection hx with hx; rw [← hx]))) (.int .i64 ik)).set_ (p := ⟨a, j * 3 + 1, none⟩) (.inl (.inr (by intro x hx; injection hx with hx; rw [← hx]))) (.int .u64 it)).set_ (p := ⟨a, j * 3 + 2, none⟩) (.inl (.inr (by intro x hx; injection hx with hx; rw [← hx]))) (.int .i64 (um : Int)))⟩ ?_
     clear H1 K1 e0 e1 e2 hf1
     rintro w2 ⟨h2, k2⟩
     have H2 := Lib.hid h2
     have K2 := Lib.hid k2
     have q0 := h2.p0
     have q1 := h2.p1
     have q2 := h2.b0 (i := vm) (by omega)
     have q3 := h2.zb vm
     obtain ⟨a', ea, hc2, hf2⟩ := h2.at_ (by omega)
     injection ea with ea
     injection ea with ea
     subst ea
     have e2i : (if i = j then (⟨ik, it, (um : Int)⟩ : En) else if i = i then ⟨jk, jt, (vm : Int)⟩ else E i) = ⟨jk, jt, (vm : Int)⟩ := by
       by_cases hij : i = j
       · rw [if_pos hij]; subst hij; exact HI.out.symm.trans HJ.out
       · rw [if_neg hij, if_pos rfl]
     have f2 : w2.cell? ⟨a, i * 3 + 2, none⟩ = some (.int .i64 (vm : Int)) := (hc2 i hi).2.2.trans (congrArg (fun z : En => some (Value.int IntKind.i64 z.m)) e2i)
     have v0 : (0 : Int) ≤ (vm : Int) := by omega
     have v2 : vm < n := by omega
     have v1 : (vm : Int) < (n : Int) := by omega
     clear h2 k2 hc2 hf2 e2i
     go_still_tail 14, (by kernel_rfl)
     go_upto_region 2 with fail
     refine wp_worldh (fun wx => HeapAt wx p b n (some ⟨a, 0, none⟩) m c (fun x => if x = j then ⟨ik, it, (um : Int)⟩ else if x = i then ⟨jk, jt, (vm : Int)⟩ else E x) (fun x => if x = vm then (i : Int) else P x) ∧ Kept (fun g => g = b ∨ ∀ x, (some (⟨a, 0, none⟩ : Addr)) = some x → x.block = g) w wx) ⟨(H2.out.setP (k := vm) (i : Int)).drew, (K2.out.set_ (p := ⟨b, vm, none⟩) (.inl (.inl rfl)) (.int .i64 (i : Int))).drew_⟩ ?_
     clear H2 K2 q0 q1 q2 q3 f2
     rintro w3 ⟨h3, k3⟩
     have H3 := Lib.hid h3
     have K3 := Lib.hid k3
     have q0 := h3.p0
     have q1 := h3.p1
     obtain ⟨old, hold⟩ : ∃ z : Int, w3.cell? ⟨b, um, none⟩ = some (.int .i64 z) := ⟨_, h3.b0 (i := um) (by omega)⟩
     have q3 := h3.zb um
     obtain ⟨a', ea, hc3, hf3⟩ := h3.at_ (by omega)
     injection ea with ea
     injection ea with ea
     subst ea
     have e2j : (if j = j then (⟨ik, it, (um : Int)⟩ : En) else if j = i then ⟨jk, jt, (vm : Int)⟩ else E j) = ⟨ik, it, (um : Int)⟩ := if_pos rfl
     have f2 : w3.cell? ⟨a, j * 3 + 2, none⟩ = some (.int .i64 (um : Int)) := (hc3 j hj).2.2.trans (congrArg (fun z : En => some (Value.int IntKind.i64 z.m)) e2j)
     have v3 : (0 : Int) ≤ (um : Int) := by omega
     have v4 : um < n := by omega
     have v5 : (um : Int) < (n : Int) := by omega
     clear h3 k3 hc3 hf3 e2j
     go_still_tail 14, (by kernel_rfl)
     go_wp2
     first | go_end0 | skip
     have hP : (fun x : Nat => if x = um then (j : Int) else if x = vm then (i : Int) else P x) = fun x : Nat => if (x : Int) = (um : Int) then (j : Int) else if (x : Int) = (vm : Int) then (i : Int) else P x := by funext x; simp only [Int.ofNat_inj]
     refine ⟨rfl, ?_, ((K3.out.set_ (p := ⟨b, um, none⟩) (.inl (.inl rfl)) (.int .i64 (j : Int))).drew_).more (fun k _ ho => by rcases ho with ho | ho; exact .inl ho; exact .inr (ho _ rfl))⟩
     have h4 := (H3.out.setP (k := um) (j : Int)).drew
     rw [hP] at h4
     exact h4
   ·
     exact fun _ h => by cases h
 ·
   exact fun _ h => by cases h
end
end Go.Proofs.YtcffeokbipjaoaaGreat
