/- Texts of this claim, one behind the other: Hpc Hpd Any. -/
import Derived.Deep.QuietTactic
import Derived.BigQuiet
import Derived.OrdersHeld
import Derived.RegionTactic
import Derived.Deep.AppendLies
import Derived.Test.YtcffeokbipjaoaaGreatMtaa
import Derived.Test.YtcffeokbipjaoaaGreatMtaf
namespace Go.Proofs.YtcffeokbipjaoaaGreat
open Go.ChangeShapes Go.WideShapes Go.RowKit
set_option linter.unusedVariables false
def entRow (e : En) : List Value := [.int .i64 e.k, .int .u64 e.t, .int .i64 e.m]
structure HeapAt (w : World) (p b n : Nat) (A : Option Addr) (m c : Nat) (E : Nat → En) (P : Nat → Int) : Prop where
 head : Blk w p 226 #[.slice A m c, .slice (some ⟨b, 0, none⟩) n n]
 n0 : n ≤ 1024
 mn : m ≤ n
 mc : m ≤ c
 tree : 0 < c → ∃ a cs, A = some ⟨a, 0, none⟩ ∧ Blk w a 270 cs ∧ cs.size = c * 3 ∧ ∀ k, k < m → ∀ j, j < 3 → cs[k * 3 + j]? = (entRow (E k))[j]?
 place : ∃ cs, Blk w b 3 cs ∧ cs.size = n ∧ ∀ i, i < n → cs[i]? = some (.int .i64 (P i))
section
variable {w w' : World} {p b n m c : Nat} {A : Option Addr} {E : Nat → En} {P : Nat → Int}
theorem HeapAt.kept {own : Nat → Prop} (h : HeapAt w p b n A m c E P) (hk : Kept own w w') (ho : ∀ g t cs, Blk w g t cs → (t = 226 ∨ t = 270 ∨ t = 3) → (g = p ∨ g = b ∨ ∀ x, A = some x → x.block = g) → ¬ own g) : HeapAt w' p b n A m c E P := by
 obtain ⟨hd, h1, h2, h3, ht, ⟨ps, bp, pz, pc⟩⟩ := h
 refine ⟨hd.kept hk (ho _ _ _ hd (.inl rfl) (.inl rfl)), h1, h2, h3, fun h0 => ?_, ⟨ps, bp.kept hk (ho _ _ _ bp (.inr (.inr rfl)) (.inr (.inl rfl))), pz, pc⟩⟩
 obtain ⟨a, cs, e, ba, az, ac⟩ := ht h0
 exact ⟨a, cs, e, ba.kept hk (ho _ _ _ ba (.inr (.inl rfl)) (.inr (.inr fun x hx => by rw [e] at hx; injection hx with hx; rw [← hx]))), az, ac⟩
theorem HeapAt.below (h : HeapAt w p b n A m c E P) (hb : Below w.heap.size w w') : HeapAt w' p b n A m c E P := h.kept (own := fun _ => False) (Kept.of_below hb) fun _ _ _ _ _ _ => id
theorem HeapAt.p0 (h : HeapAt w p b n A m c E P) : w.cell? ⟨p, 0, none⟩ = some (.slice A m c) := h.head.val (i := 0) rfl
theorem HeapAt.p1 (h : HeapAt w p b n A m c E P) : w.cell? ⟨p, 1, none⟩ = some (.slice (some ⟨b, 0, none⟩) n n) := h.head.val (i := 1) rfl
theorem HeapAt.b0 (h : HeapAt w p b n A m c E P) {i : Nat} (hi : i < n) : w.cell? ⟨b, i, none⟩ = some (.int .i64 (P i)) := by obtain ⟨ps, bp, _, pc⟩ := h.place; exact bp.val (pc i hi)
theorem HeapAt.zb (h : HeapAt w p b n A m c E P) (i : Nat) : w.frozen? ⟨b, i, none⟩ = false := by obtain ⟨ps, bp, _, pc⟩ := h.place; exact bp.free i
theorem HeapAt.at_ (h : HeapAt w p b n A m c E P) (h0 : 0 < m) : ∃ a, A = some ⟨a, 0, none⟩ ∧ (∀ k, k < m → w.cell? ⟨a, k * 3, none⟩ = some (.int .i64 (E k).k) ∧ w.cell? ⟨a, k * 3 + 1, none⟩ = some (.int .u64 (E k).t) ∧ w.cell? ⟨a, k * 3 + 2, none⟩ = some (.int .i64 (E k).m)) ∧ (∀ k, w.frozen? ⟨a, k, none⟩ = false) := by
 obtain ⟨a, cs, e, ba, az, ac⟩ := h.tree (by have := h.mc; omega)
 exact ⟨a, e, fun k hk => ⟨ba.val (ac k hk 0 (by omega)), ba.val (ac k hk 1 (by omega)), ba.val (ac k hk 2 (by omega))⟩, ba.free⟩
theorem hlen_any (w : World) (h : HeapAt w p b n A m c E P) : Calls Tryz.prog 199 #[.pointer (some ⟨p, 0, none⟩)] w fun e w' => e = .returned (.int .i64 (m : Int)) ∧ w = w' := by
 have q0 := h.p0
 clear h
 go_enter Tryz.func199, Tryz.ntmps199
 go_wp2
 go_ret
 exact ⟨rfl, rfl⟩
theorem hmem_yes {i : Nat} (hi : i < n) (w : World) (h : HeapAt w p b n A m c E P) : Calls Tryz.prog 205 #[.pointer (some ⟨p, 0, none⟩), .int .i64 (i : Int)] w fun e w' => e = .returned (.bool true) ∧ w = w' := by
 have q1 := h.p1
 have i0 : (0 : Int) ≤ (i : Int) := by omega
 have i1 : (i : Int) < (n : Int) := by omega
 clear h
 go_enter Tryz.func205, Tryz.ntmps205
 go_wp2
 go_ret
 exact ⟨rfl, rfl⟩
end
end Go.Proofs.YtcffeokbipjaoaaGreat
namespace Go.Proofs.YtcffeokbipjaoaaGreat
open Go.ChangeShapes Go.WideShapes Go.RowKit
set_option linter.unusedVariables false
theorem later_ {w w' : World} {a : Addr} {v : Value} (hb : Below w.heap.size w w') (h : w.cell? a = some v) : w'.cell? a = some v := (hb.cell (klt h)).trans h
section
variable {w w' : World} {p b n m c : Nat} {A : Option Addr} {E : Nat → En} {P : Nat → Int}
theorem before_any {i j : Nat} (hi : i < m) (hj : j < m) (w : World) (h : HeapAt w p b n A m c E P) : Calls Tryz.prog 248 #[.pointer (some ⟨p, 0, none⟩), .int .i64 (i : Int), .int .i64 (j : Int)] w fun e w' => e = .returned (.bool (decide (cmpE (E i) (E j) < 0))) ∧ Below w.heap.size w w' := by
 have q0 := h.p0
 have hm := h.mn
 have hn := h.n0
 have hz := h.head.size
 obtain ⟨a, rfl, hc, hf⟩ := h.at_ (by omega)
 obtain ⟨c0, c1, c2⟩ := hc i hi
 obtain ⟨d0, d1, d2⟩ := hc j hj
 obtain ⟨⟨ik, it, im⟩, hei⟩ : ∃ e, E i = e := ⟨_, rfl⟩
 obtain ⟨⟨jk, jt, jm⟩, hej⟩ : ∃ e, E j = e := ⟨_, rfl⟩
 rw [hei] at c0 c1 c2 ⊢
 rw [hej] at d0 d1 d2 ⊢
 have i0 : (0 : Int) ≤ (i : Int) := by omega
 have i1 : (i : Int) < (m : Int) := by omega
 have j0 : (0 : Int) ≤ (j : Int) := by omega
 have j1 : (j : Int) < (m : Int) := by omega
 obtain ⟨r, hr⟩ : ∃ r, cmpE ⟨ik, it, im⟩ ⟨jk, jt, jm⟩ = r := ⟨_, rfl⟩
 rw [hr]
 have HR := Lib.hid hr
 have hb := Below.refl w.heap.size w
 clear h hc hei hej hr
 go_enter Tryz.func248, Tryz.ntmps248
 go_upto_region 1 with fail
 first | (go_region_held3 (fun w' => w'.cell? ⟨p, 0, none⟩ = some (.slice (some ⟨a, 0, none⟩) m c) ∧ w'.cell? ⟨a, i * 3, none⟩ = some (.int .i64 ik) ∧ w'.cell? ⟨a, i * 3 + 1, none⟩ = some (.int .u64 it) ∧ w'.cell? ⟨a, i * 3 + 2, none⟩ = some (.int .i64 im) ∧ w'.cell? ⟨a, j * 3, none⟩ = some (.int .i64 jk) ∧ w'.cell? ⟨a, j * 3 + 1, none⟩ = some (.int .u64 jt) ∧ w'.cell? ⟨a, j * 3 + 2, none⟩ = some (.int .i64 jm)) ((repeat (first | with_reducible assumption | refine ⟨?_, ?_⟩ | with_reducible refine kdrew ?_ | with_reducible refine later_ hbn ?_)))
   ((go_at_call 161; refine (compare_any ⟨ik, it, im⟩ ⟨jk, jt, jm⟩ _).mono ?_; rw [HR.out]; rintro e w1 ⟨rfl, hbn⟩))) | fail
 all_goals
   go_wp2_with fail
   go_ret
   exact ⟨rfl, by first | exact hbn | exact (Below.refl _ _).drew.trans hbn⟩
end
end Go.Proofs.YtcffeokbipjaoaaGreat
namespace Go.Proofs.YtcffeokbipjaoaaGreat
open Go
set_option linter.unusedVariables false
section
variable {P : Program} {ops : Array Oper} {Q : Exit → Act → World → Prop} {md : Region.Mode} {S : World → Prop} {bs : List Nat}
def ahead (bs : List Nat) (l : Array Bool) : Bool := bs.all fun s => !l.getD s true
def Shut (md : Region.Mode) (ops : Array Oper) (l : Array Bool) : Prop := ∀ j o, ops[j]? = some o → l.getD j true = true → ∀ e ∈ o.after, Region.binds md e = true → l.getD e.on false = true
def waitsFor (md : Region.Mode) (ops : Array Oper) : Nat → Nat → Nat → Bool
 | 0, _, _ => false
 | n + 1, s, i => match ops[s]? with
   | none => false
   | some o => o.after.any fun e => Region.binds md e && (e.on == i || waitsFor md ops n e.on i)
def anyB (P : Program) (md : Region.Mode) (ops : Array Oper) (Q : Exit → Act → World → Prop) (S : World → Prop) (bs : List Nat) : Nat → Array Bool → Act → World → Prop
 | 0, l, a, w => Region.ready md ops l = [] ∧ Q .normal a w
 | f + 1, l, a, w => (Region.ready md ops l = [] → Q .normal a w) ∧ ∀ i ∈ Region.ready md ops l, wpOp P ops Q i (fun a' w' => (ahead bs (l.setIfInBounds i true) = true → S w') ∧ anyB P md ops Q S bs f (l.setIfInBounds i true) a' w') a w
theorem any_of_B : ∀ (f : Nat) (l : Array Bool) (a : Act) (w : World), anyB P md ops Q S bs f l a w → wpAny P md ops Q f l a w
 | 0, _, _, _, h => h
 | f + 1, _, _, _, h => ⟨h.1, fun i hi => wpOp_mono (fun _ _ h' => any_of_B f _ _ _ h'.2) (h.2 i hi)⟩
theorem shutUp_ {l : Array Bool} {i : Nat} (h : l.getD i false = true) : l.getD i true = true := by
 rcases Nat.lt_or_ge i l.size with c | c
 · simp [c] at h ⊢; exact h
 · simp [Array.getElem?_eq_none c]
theorem Shut.none (n : Nat) (hn : n = ops.size) : Shut md ops (Array.replicate n false) := fun j o ho h => by
 have hj : j < n := by rw [hn]; exact (Array.getElem?_eq_some_iff.1 ho).1
 simp [hj] at h
theorem Shut.step {l : Array Bool} {j : Nat} (h : Shut md ops l) (hj : j ∈ Region.ready md ops l) : Shut md ops (l.setIfInBounds j true) := fun k o ho hk e he hb => by
 by_cases c : j = k
 · subst c
   obtain ⟨_, o', ho', hall⟩ := mem_ready.1 hj
   rw [ho] at ho'
   cases ho'
   exact getD_set_true (hall e he hb)
 · rw [getD_set_ne true c] at hk
   exact getD_set_true (h k o ho hk e he hb)
theorem Shut.waits {l : Array Bool} (h : Shut md ops l) : ∀ (n s i : Nat), waitsFor md ops n s i = true → l.getD s true = true → l.getD i true = true
 | 0, _, _, hw, _ => by simp [waitsFor] at hw
 | n + 1, s, i, hw, hs => by
   unfold waitsFor at hw
   cases ho : ops[s]? with
   | none => simp [ho] at hw
   | some o =>
     simp only [ho] at hw
     obtain ⟨e, he, hb⟩ := Array.any_eq_true'.1 hw
     simp only [Bool.and_eq_true, Bool.or_eq_true, beq_iff_eq] at hb
     have h1 := h s o ho hs e he hb.1
     rcases hb.2 with c | c
     · rw [← c]; exact shutUp_ h1
     · exact h.waits n e.on i c (shutUp_ h1)
theorem Shut.ahead {l : Array Bool} {n i : Nat} (h : Shut md ops l) (hb : (bs.all fun s => waitsFor md ops n s i) = true) (hi : l.getD i true = false) : ahead bs l = true := by
 unfold Go.Proofs.YtcffeokbipjaoaaGreat.ahead
 rw [List.all_eq_true] at hb ⊢
 intro s hs
 cases c : l.getD s true with
 | false => rfl
 | true => rw [h.waits n s i (hb s hs) c] at hi; cases hi
theorem ahead_set {l : Array Bool} {i : Nat} (hn : bs.contains i = false) : ahead bs (l.setIfInBounds i true) = ahead bs l := by
 unfold ahead
 rw [Bool.eq_iff_iff, List.all_eq_true, List.all_eq_true]
 have hne : ∀ s ∈ bs, i ≠ s := fun s hs e => by subst e; simp [hs] at hn
 constructor <;> intro h s hs
 · have := h s hs; rw [getD_set_ne true (hne s hs)] at this; exact this
 · rw [getD_set_ne true (hne s hs)]; exact h s hs
theorem anyB_first {i n : Nat} {oi : Oper} {v : Value} (hi : ops[i]? = some oi) (hs : Region.noSelect ops = true) (hn : bs.contains i = false) (hb : (bs.all fun s => waitsFor md ops n s i) = true)
   (hQ : ∀ c a w, Q (.panic c) (a.put oi.dst v) w → Q (.panic c) a w) :
   ∀ (f : Nat) (l : Array Bool) (a : Act) (w : World),
     (∀ j oj, ops[j]? = some oj → j ≠ i → l.getD j true = false → (∀ e ∈ oj.after, Region.binds md e = true → e.on ≠ i) → oi.apart ops oj = true) →
     i ∈ Region.ready md ops l → Shut md ops l → YieldsIf P ops S oi v a → S w → anyB P md ops Q S bs f (l.setIfInBounds i true) (a.put oi.dst v) w → anyB P md ops Q S bs (f + 1) l a w := by
 intro f
 induction f with
 | zero =>
   intro l a w _ hr _ hy hS H
   refine ⟨fun h => (by rw [h] at hr; cases hr), fun j hj => ?_⟩
   rcases Decidable.em (j = i) with c | c
   · subst c; exact hy.wpOp hi hS ⟨fun _ => hS, H⟩
   · have hm := ready_mono hj c
     rw [H.1] at hm
     cases hm
 | succ f ih =>
   intro l a w hfree hr hl hy hS H
   refine ⟨fun h => (by rw [h] at hr; cases hr), fun j hj => ?_⟩
   rcases Decidable.em (j = i) with c | c
   · subst c; exact hy.wpOp hi hS ⟨fun _ => hS, H⟩
   have hri : i ∈ Region.ready md ops (l.setIfInBounds j true) := ready_mono hr (Ne.symm c)
   have hlj := hl.step hj
   obtain ⟨hju, oj, hoj, hall⟩ := mem_ready.1 hj
   have hi0 := (mem_ready.1 hr).1
   have hfr : ∀ e ∈ oj.after, Region.binds md e = true → e.on ≠ i := fun e he hbe heq => by
     have := shutUp_ (hall e he hbe)
     rw [heq, hi0] at this
     cases this
   have K := wpOp_putIf hoj (hfree j oj hoj c hju hfr) (Region.noSelect_spec hs i oi · · hi) (Region.noSelect_spec hs j oj · · hoj) hQ hy (H.2 j (ready_mono hj c))
   refine wpOp_mono (fun a' w' k => ?_) K
   obtain ⟨ky, ks, kr⟩ := k
   rw [Array.setIfInBounds_comm _ _ (Ne.symm c)] at ks kr
   have hS' : S w' := ks (by rw [ahead_set hn]; exact hlj.ahead hb (mem_ready.1 hri).1)
   refine ⟨fun _ => hS', ih _ a' w' (fun k ok hk hki hku hke => ?_) hri hlj ky hS' kr⟩
   refine hfree k ok hk hki ?_ hke
   rcases Decidable.em (j = k) with d | d
   · subst d; exact hju
   · rw [getD_set_ne true d] at hku; exact hku
theorem anyB_take (n : Nat) {i : Nat} {oi : Oper} {v : Value} {f : Nat} {l : Array Bool} {a : Act} {w : World} (hi : ops[i]? = some oi) (hs : Region.noSelect ops = true) (hf : Region.free md ops l i = true)
   (hr : (Region.ready md ops l).contains i = true) (hn : bs.contains i = false) (hb : (bs.all fun s => waitsFor md ops n s i) = true) (hQ : ∀ c a w, Q (.panic c) (a.put oi.dst v) w → Q (.panic c) a w)
   (hl : Shut md ops l) (hS : S w) (hy : YieldsIf P ops S oi v a)
   (h : Shut md ops (l.setIfInBounds i true) → anyB P md ops Q S bs f (l.setIfInBounds i true) (a.put oi.dst v) w) : anyB P md ops Q S bs (f + 1) l a w :=
 anyB_first hi hs hn hb hQ f l a w (Region.free_spec hi hf) (by simpa using hr) hl hy hS (h (hl.step (by simpa using hr)))
theorem anyB_firstW {i : Nat} {oi : Oper} {v : Value} (hi : ops[i]? = some oi) (hs : Region.noSelect ops = true) (hn : bs.contains i = false)
   (hQ : ∀ c a w, Q (.panic c) (a.put oi.dst v) w → Q (.panic c) a w) :
   ∀ (f : Nat) (l : Array Bool) (a : Act) (w : World),
     (∀ j oj, ops[j]? = some oj → j ≠ i → l.getD j true = false → (∀ e ∈ oj.after, Region.binds md e = true → e.on ≠ i) → oi.apart ops oj = true) →
     i ∈ Region.ready md ops l → YieldsIf P ops (fun _ => True) oi v a → (ahead bs l = true → S w) → anyB P md ops Q S bs f (l.setIfInBounds i true) (a.put oi.dst v) w → anyB P md ops Q S bs (f + 1) l a w := by
 intro f
 induction f with
 | zero =>
   intro l a w _ hr hy hS H
   refine ⟨fun h => (by rw [h] at hr; cases hr), fun j hj => ?_⟩
   rcases Decidable.em (j = i) with c | c
   · subst c; exact hy.wpOp hi trivial ⟨fun h => hS (by rw [ahead_set hn] at h; exact h), H⟩
   · have hm := ready_mono hj c
     rw [H.1] at hm
     cases hm
 | succ f ih =>
   intro l a w hfree hr hy hS H
   refine ⟨fun h => (by rw [h] at hr; cases hr), fun j hj => ?_⟩
   rcases Decidable.em (j = i) with c | c
   · subst c; exact hy.wpOp hi trivial ⟨fun h => hS (by rw [ahead_set hn] at h; exact h), H⟩
   obtain ⟨hju, oj, hoj, hall⟩ := mem_ready.1 hj
   have hi0 := (mem_ready.1 hr).1
   have hfr : ∀ e ∈ oj.after, Region.binds md e = true → e.on ≠ i := fun e he hbe heq => by
     have := shutUp_ (hall e he hbe)
     rw [heq, hi0] at this
     cases this
   have K := wpOp_putIf hoj (hfree j oj hoj c hju hfr) (Region.noSelect_spec hs i oi · · hi) (Region.noSelect_spec hs j oj · · hoj) hQ hy (H.2 j (ready_mono hj c))
   refine wpOp_mono (fun a' w' k => ?_) K
   obtain ⟨ky, ks, kr⟩ := k
   rw [Array.setIfInBounds_comm _ _ (Ne.symm c)] at ks kr
   rw [ahead_set hn] at ks
   refine ⟨ks, ih _ a' w' (fun k ok hk hki hku hke => ?_) (ready_mono hr (Ne.symm c)) ky ks kr⟩
   refine hfree k ok hk hki ?_ hke
   rcases Decidable.em (j = k) with d | d
   · subst d; exact hju
   · rw [getD_set_ne true d] at hku; exact hku
theorem anyB_takeW {i : Nat} {oi : Oper} {v : Value} {f : Nat} {l : Array Bool} {a : Act} {w : World} (hi : ops[i]? = some oi) (hs : Region.noSelect ops = true) (hf : Region.free md ops l i = true)
   (hr : (Region.ready md ops l).contains i = true) (hn : bs.contains i = false) (hQ : ∀ c a w, Q (.panic c) (a.put oi.dst v) w → Q (.panic c) a w)
   (hl : Shut md ops l) (hS : ahead bs l = true → S w) (hy : YieldsIf P ops (fun _ => True) oi v a)
   (h : Shut md ops (l.setIfInBounds i true) → anyB P md ops Q S bs f (l.setIfInBounds i true) (a.put oi.dst v) w) : anyB P md ops Q S bs (f + 1) l a w :=
 anyB_firstW hi hs hn hQ f l a w (Region.free_spec hi hf) (by simpa using hr) hy hS (h (hl.step (by simpa using hr)))
theorem noS {l : Array Bool} {w : World} (h : ahead bs l = false) : ahead bs l = true → S w := fun c => by rw [h] at c; cases c
theorem anyB_all {rs : List Nat} {f : Nat} {l : Array Bool} {a : Act} {w : World} (hr : Region.ready md ops l = rs) (hne : rs ≠ [])
   (h : ∀ i ∈ rs, wpOp P ops Q i (fun a' w' => (ahead bs (l.setIfInBounds i true) = true → S w') ∧ anyB P md ops Q S bs f (l.setIfInBounds i true) a' w') a w) : anyB P md ops Q S bs (f + 1) l a w :=
 ⟨fun h0 => absurd (hr ▸ h0) hne, hr ▸ h⟩
theorem anyB_done {l : Array Bool} {a : Act} {w : World} (hr : Region.ready md ops l = []) (h : Q .normal a w) : ∀ f, anyB P md ops Q S bs f l a w
 | 0 => ⟨hr, h⟩
 | _ + 1 => ⟨fun _ => h, by rw [hr]; simp⟩
theorem wp_region_B (S : World → Prop) (bs : List Nat) {id : Nat} {a : Act} {w : World} (hm : P.follows .mixedOrders = true)
   (h : Shut .any ops (Array.replicate ops.size false) → anyB P .any ops Q S bs ops.size (Array.replicate ops.size false) a w.drew) : (Code.region id ops true).wp P Q a w :=
 wp_region_any hm (any_of_B _ _ _ _ (h (Shut.none _ rfl)))
theorem anyB_each {rs : List Nat} {f : Nat} {l : Array Bool} {a : Act} {w : World} (hl : Shut md ops l) (hr : Region.ready md ops l = rs) (hne : rs ≠ [])
   (h : ∀ i ∈ rs, Shut md ops (l.setIfInBounds i true) → wpOp P ops Q i (fun a' w' => (ahead bs (l.setIfInBounds i true) = true → S w') ∧ anyB P md ops Q S bs f (l.setIfInBounds i true) a' w') a w) : anyB P md ops Q S bs (f + 1) l a w :=
 anyB_all hr hne fun i hi => h i hi (hl.step (by rw [hr]; exact hi))
theorem held {b : Bool} {T K : Act → World → Prop} (hK : ∀ a w, ((b = true → S w) ∧ T a w) → K a w) {a : Act} {w : World} (hs : S w) (h : S w → T a w) : K a w := hK a w ⟨fun _ => hs, h hs⟩
theorem unheld {b : Bool} {T K : Act → World → Prop} (hK : ∀ a w, ((b = true → S w) ∧ T a w) → K a w) {a : Act} {w : World} (hb : b = false) (h : T a w) : K a w := hK a w ⟨fun c => (by rw [hb] at c; cases c), h⟩
theorem begun (S : World → Prop) (bs : List Nat) {id : Nat} {a : Act} {w : World} (hm : P.follows .mixedOrders = true) (hs : S w.drew)
   (h : Shut .any ops (Array.replicate ops.size false) → S w.drew → anyB P .any ops Q S bs ops.size (Array.replicate ops.size false) a w.drew) : (Code.region id ops true).wp P Q a w :=
 wp_region_B S bs hm fun h1 => h h1 hs
end
end Go.Proofs.YtcffeokbipjaoaaGreat
