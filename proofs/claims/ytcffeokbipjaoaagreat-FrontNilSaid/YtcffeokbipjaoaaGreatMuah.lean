/- Texts of this claim, one behind the other: Hpm Hpg Hph. -/
import Derived.Test.YtcffeokbipjaoaaGreatMuaf
import Derived.Test.YtcffeokbipjaoaaGreatMuag
namespace Go.Proofs.YtcffeokbipjaoaaGreat
set_option linter.unusedVariables false
def ltE (a b : En) : Prop := a.k < b.k ∨ (a.k = b.k ∧ (a.t < b.t ∨ (a.t = b.t ∧ a.m < b.m)))
theorem cmpE_neg (a b : En) : cmpE a b < 0 ↔ ltE a b := by
 unfold cmpE ltE or3 cmp3
 repeat' split
 all_goals omega
theorem ltE_irrefl (a : En) : ¬ ltE a a := by unfold ltE; omega
theorem ltE_trans {a b c : En} (h : ltE a b) (k : ltE b c) : ltE a c := by unfold ltE at *; omega
theorem ltE_asymm {a b : En} (h : ltE a b) : ¬ ltE b a := by unfold ltE at *; omega
theorem nlt_trans {a b c : En} (h : ¬ ltE a b) (k : ¬ ltE b c) : ¬ ltE a c := by unfold ltE at *; omega
theorem lt_nlt {a b c : En} (h : ¬ ltE a c) (k : ltE b c) : ¬ ltE a b := by unfold ltE at *; omega
theorem ltE_total {a b : En} (h : a.m ≠ b.m) (k : ¬ ltE a b) : ltE b a := by unfold ltE at *; omega
def swE (E : Nat → En) (i j : Nat) : Nat → En := fun x => if x = j then E i else if x = i then E j else E x
theorem swE_i (E : Nat → En) (i j : Nat) : swE E i j i = E j := by unfold swE; split; rename_i h; rw [h]; simp
theorem swE_j (E : Nat → En) (i j : Nat) : swE E i j j = E i := by unfold swE; simp
theorem swE_x (E : Nat → En) {i j x : Nat} (h : x ≠ i) (k : x ≠ j) : swE E i j x = E x := by unfold swE; rw [if_neg k, if_neg h]
section
variable {m n : Nat} {E : Nat → En}
def Ord (m : Nat) (E : Nat → En) : Prop := ∀ k, 0 < k → k < m → ¬ ltE (E k) (E ((k - 1) / 2))
def OrdPast (m : Nat) (E : Nat → En) (q : Nat) : Prop := ∀ k, 0 < k → k < m → (k - 1) / 2 = q → 0 < q → ¬ ltE (E k) (E ((q - 1) / 2))
structure OrdBut (m : Nat) (E : Nat → En) (q : Nat) : Prop where
 a : ∀ k, 0 < k → k < m → k ≠ q → ¬ ltE (E k) (E ((k - 1) / 2))
 b : OrdPast m E q
structure OrdTwo (m : Nat) (E : Nat → En) (q : Nat) : Prop where
 a : ∀ k, 0 < k → k < m → k ≠ q → (k - 1) / 2 ≠ q → ¬ ltE (E k) (E ((k - 1) / 2))
 b : OrdPast m E q
structure OrdDown (m : Nat) (E : Nat → En) (q : Nat) : Prop where
 a : ∀ k, 0 < k → k < m → (k - 1) / 2 ≠ q → ¬ ltE (E k) (E ((k - 1) / 2))
 b : OrdPast m E q
theorem OrdTwo.but {q : Nat} (h : OrdTwo m E q) (hq : 0 < q) (hl : ltE (E q) (E ((q - 1) / 2))) : OrdBut m E q :=
 ⟨fun k h0 hk hne => by
   by_cases hp : (k - 1) / 2 = q
   · rw [hp]; exact lt_nlt (h.b k h0 hk hp hq) hl
   · exact h.a k h0 hk hne hp, h.b⟩
theorem OrdBut.step {q : Nat} (h : OrdBut m E q) (hq : 0 < q) (hm : q < m) (hl : ltE (E q) (E ((q - 1) / 2))) : OrdBut m (swE E q ((q - 1) / 2)) ((q - 1) / 2) := by
 obtain ⟨r, hr⟩ : ∃ r, (q - 1) / 2 = r := ⟨_, rfl⟩
 have hrq : r < q := by omega
 rw [hr] at hl ⊢
 constructor
 · intro k h0 hk hne
   by_cases hkq : k = q
   · subst hkq
     rw [swE_i, hr, swE_j]
     exact ltE_asymm hl
   · rw [swE_x E hkq hne]
     by_cases hp : (k - 1) / 2 = q
     · rw [hp, swE_i]
       have := h.b k h0 hk hp hq
       rw [hr] at this
       exact this
     · by_cases hp2 : (k - 1) / 2 = r
       · rw [hp2, swE_j]
         have := h.a k h0 hk hkq
         rw [hp2] at this
         exact lt_nlt this hl
       · rw [swE_x E hp hp2]
         exact h.a k h0 hk hkq
 · intro k h0 hk hp hr0
   have hrr : (r - 1) / 2 ≠ q := by omega
   have hrr2 : (r - 1) / 2 ≠ r := by omega
   rw [swE_x E hrr hrr2]
   have hR := h.a r hr0 (by omega) (by omega)
   by_cases hkq : k = q
   · subst hkq; rw [swE_i]; exact hR
   · have hkr : k ≠ r := by omega
     rw [swE_x E hkq hkr]
     have := h.a k h0 hk hkq
     rw [hp] at this
     exact nlt_trans this hR
theorem OrdBut.ord {q : Nat} (h : OrdBut m E q) (hl : q = 0 ∨ ¬ ltE (E q) (E ((q - 1) / 2))) : Ord m E := by
 intro k h0 hk
 by_cases hkq : k = q
 · subst hkq; rcases hl with hl | hl; omega; exact hl
 · exact h.a k h0 hk hkq
theorem OrdTwo.down {q : Nat} (h : OrdTwo m E q) (hl : q = 0 ∨ ¬ ltE (E q) (E ((q - 1) / 2))) : OrdDown m E q :=
 ⟨fun k h0 hk hne => by
   by_cases hkq : k = q
   · subst hkq; rcases hl with hl | hl; omega; exact hl
   · exact h.a k h0 hk hkq hne, h.b⟩
theorem Ord.down (h : Ord m E) (q : Nat) : OrdDown m E q :=
 ⟨fun k h0 hk _ => h k h0 hk, fun k h0 hk hp hq => by
   have h1 := h k h0 hk
   rw [hp] at h1
   exact nlt_trans h1 (h q hq (by omega))⟩
theorem OrdDown.ord {q : Nat} (h : OrdDown m E q) (hl : ∀ k, 0 < k → k < m → (k - 1) / 2 = q → ¬ ltE (E k) (E q)) : Ord m E := by
 intro k h0 hk
 by_cases hp : (k - 1) / 2 = q
 · rw [hp]; exact hl k h0 hk hp
 · exact h.a k h0 hk hp
theorem OrdDown.step {q f : Nat} (h : OrdDown m E q) (hf : f < m) (hf0 : 0 < f) (hfp : (f - 1) / 2 = q) (hl : ltE (E f) (E q)) (hb : ∀ k, 0 < k → k < m → (k - 1) / 2 = q → ¬ ltE (E k) (E f)) : OrdDown m (swE E q f) f := by
 have hqf : q < f := by omega
 constructor
 · intro k h0 hk hne
   by_cases hkf : k = f
   · subst hkf; rw [swE_j, hfp, swE_i]; exact ltE_asymm hl
   · by_cases hkq : k = q
     · subst hkq
       rw [swE_i, swE_x E (by omega) (by omega)]
       exact h.b f hf0 hf hfp h0
     · rw [swE_x E hkq hkf]
       by_cases hp : (k - 1) / 2 = q
       · rw [hp, swE_i]; exact hb k h0 hk hp
       · rw [swE_x E hp hne]; exact h.a k h0 hk hp
 · intro k h0 hk hp hf0'
   rw [hfp, swE_i, swE_x E (by omega) (by omega)]
   have := h.a k h0 hk (by omega)
   rw [hp] at this
   exact this
theorem OrdDown.all {q : Nat} (h : OrdDown m E q) (hq : m ≤ 2 * q + 1) : Ord m E := h.ord fun k h0 hk hp => by omega
theorem Ord.push (h : Ord m E) (e : En) : OrdTwo (m + 1) (fun x => if x = m then e else E x) m :=
 ⟨fun k h0 hk hne hp => by
   show ¬ ltE (if k = m then e else E k) (if (k - 1) / 2 = m then e else E ((k - 1) / 2))
   rw [if_neg hne, if_neg (by omega)]; exact h k h0 (by omega), fun k h0 hk hp hm => by omega⟩
theorem Ord.gap {q : Nat} (h : Ord (m + 1) E) (hq : q < m) : OrdTwo m (swE E q m) q :=
 ⟨fun k h0 hk hne hp => by rw [swE_x E hne (by omega), swE_x E hp (by omega)]; exact h k h0 (by omega), fun k h0 hk hp hq0 => by
   rw [swE_x E (by omega) (by omega), swE_x E (by omega) (by omega)]
   have h1 := h k h0 (by omega)
   rw [hp] at h1
   exact nlt_trans h1 (h q hq0 (by omega))⟩
theorem Ord.cut (h : Ord (m + 1) E) : Ord m E := fun k h0 hk => h k h0 (by omega)
theorem Ord.same {E' : Nat → En} (h : Ord m E) (he : ∀ k, k < m → E' k = E k) : Ord m E' := fun k h0 hk => by rw [he k hk, he _ (by omega)]; exact h k h0 hk
theorem Ord.first (h : Ord m E) : ∀ k, k < m → ¬ ltE (E k) (E 0) := by
 intro k
 induction k using Nat.strongRecOn with
 | ind k ih =>
   intro hk
   by_cases h0 : k = 0
   · subst h0; exact ltE_irrefl _
   · exact nlt_trans (h k (by omega) hk) (ih ((k - 1) / 2) (by omega) (by omega))
structure Links (n m : Nat) (E : Nat → En) (P : Nat → Int) (F : Nat → Option (Int × Int)) : Prop where
 tom : ∀ k, k < m → ∃ i : Nat, i < n ∧ (E k).m = i ∧ P i = (k : Int) ∧ F i = some ((E k).k, (E k).t)
 fro : ∀ i, i < n → (P i = -1 ∧ F i = none) ∨ ∃ k : Nat, k < m ∧ P i = (k : Int) ∧ (E k).m = (i : Int)
variable {P : Nat → Int} {F : Nat → Option (Int × Int)}
theorem Links.mem (h : Links n m E P F) : ∀ k, k < m → 0 ≤ (E k).m ∧ (E k).m < (n : Int) := fun k hk => by
 obtain ⟨i, hi, he, _⟩ := h.tom k hk
 rw [he]; omega
theorem Links.one (h : Links n m E P F) {i k : Nat} (hi : i < m) (hk : k < m) (he : (E i).m = (E k).m) : i = k := by
 obtain ⟨a, ha, ea, pa, _⟩ := h.tom i hi
 obtain ⟨b, hb, eb, pb, _⟩ := h.tom k hk
 have : a = b := by omega
 subst this
 omega
theorem Links.get (h : Links n m E P F) {i : Nat} {kt : Int × Int} (hi : i < n) (hF : F i = some kt) : ∃ k : Nat, k < m ∧ P i = (k : Int) ∧ E k = ⟨kt.1, kt.2, i⟩ := by
 rcases h.fro i hi with ⟨_, h0⟩ | ⟨k, hk, hp, he⟩
 · rw [hF] at h0; cases h0
 · obtain ⟨j, hj, ej, pj, fj⟩ := h.tom k hk
   have : j = i := by omega
   subst this
   rw [hF] at fj
   injection fj with fj
   subst fj
   refine ⟨k, hk, hp, ?_⟩
   obtain ⟨a, b, c⟩ : ∃ a b, E k = ⟨a, b, j⟩ := by
     refine ⟨(E k).k, (E k).t, ?_⟩
     rw [← he]
   rw [c]
theorem Links.none_ (h : Links n m E P F) {i : Nat} (hi : i < n) : F i = none ↔ P i = -1 := by
 rcases h.fro i hi with ⟨h1, h2⟩ | ⟨k, hk, hp, he⟩
 · exact ⟨fun _ => h1, fun _ => h2⟩
 · constructor
   · intro hn
     obtain ⟨j, hj, ej, pj, fj⟩ := h.tom k hk
     have : j = i := by omega
     subst this
     rw [hn] at fj; cases fj
   · intro hn; omega
theorem Links.swap (h : Links n m E P F) {i j : Nat} (hi : i < m) (hj : j < m) : Links n m (swE E i j) (fun x => if (x : Int) = (E i).m then (j : Int) else if (x : Int) = (E j).m then (i : Int) else P x) F := by
 obtain ⟨a, ha, ea, pa, fa⟩ := h.tom i hi
 obtain ⟨b, hb, eb, pb, fb⟩ := h.tom j hj
 constructor
 · intro k hk
   by_cases hkj : k = j
   · subst hkj
     rw [swE_j]
     exact ⟨a, ha, ea, by show (if (a : Int) = _ then _ else _) = _; rw [if_pos ea.symm], fa⟩
   · by_cases hki : k = i
     · subst hki
       rw [swE_i]
       refine ⟨b, hb, eb, ?_, fb⟩
       show (if (b : Int) = _ then _ else if (b : Int) = _ then _ else _) = _
       rw [if_neg (by intro e; have : a = b := by omega
                      subst this; omega), if_pos eb.symm]
     · rw [swE_x E hki hkj]
       obtain ⟨c, hc, ec, pc, fc⟩ := h.tom k hk
       refine ⟨c, hc, ec, ?_, fc⟩
       show (if (c : Int) = _ then _ else if (c : Int) = _ then _ else _) = _
       rw [if_neg (by intro e; have : a = c := by omega
                      subst this; omega), if_neg (by intro e; have : b = c := by omega
                                                     subst this; omega)]
       exact pc
 · intro x hx
   rcases h.fro x hx with ⟨h1, h2⟩ | ⟨k, hk, hp, he⟩
   · refine .inl ⟨?_, h2⟩
     show (if (x : Int) = _ then _ else if (x : Int) = _ then _ else _) = _
     rw [if_neg (by intro e; have : a = x := by omega
                    subst this; omega), if_neg (by intro e; have : b = x := by omega
                                                   subst this; omega)]
     exact h1
   · refine .inr ?_
     by_cases hxi : (x : Int) = (E i).m
     · refine ⟨j, hj, ?_, by rw [swE_j]; exact hxi.symm⟩
       show (if (x : Int) = _ then _ else _) = _
       rw [if_pos hxi]
     · by_cases hxj : (x : Int) = (E j).m
       · refine ⟨i, hi, ?_, by rw [swE_i]; exact hxj.symm⟩
         show (if (x : Int) = _ then _ else if (x : Int) = _ then _ else _) = _
         rw [if_neg hxi, if_pos hxj]
       · have hki : k ≠ i := by intro e; subst e; exact hxi he.symm
         have hkj : k ≠ j := by intro e; subst e; exact hxj he.symm
         refine ⟨k, hk, ?_, by rw [swE_x E hki hkj]; exact he⟩
         show (if (x : Int) = _ then _ else if (x : Int) = _ then _ else _) = _
         rw [if_neg hxi, if_neg hxj]
         exact hp
theorem Links.push (h : Links n m E P F) {i : Nat} (hi : i < n) (hF : F i = none) (k t : Int) : Links n (m + 1) (fun x => if x = m then ⟨k, t, i⟩ else E x) (fun x => if x = i then (m : Int) else P x) (fun x => if x = i then some (k, t) else F x) := by
 constructor
 · intro q hq
   by_cases hqm : q = m
   · subst hqm
     refine ⟨i, hi, ?_, ?_, ?_⟩ <;> simp
   · obtain ⟨j, hj, ej, pj, fj⟩ := h.tom q (by omega)
     have hji : j ≠ i := by intro e; subst e; rw [hF] at fj; cases fj
     exact ⟨j, hj, by show (if q = m then _ else E q).m = _; rw [if_neg hqm]; exact ej, by show (if j = i then _ else P j) = _; rw [if_neg hji]; exact pj, by show (if j = i then _ else F j) = some ((if q = m then _ else E q).k, (if q = m then _ else E q).t); rw [if_neg hji, if_neg hqm]; exact fj⟩
 · intro x hx
   by_cases hxi : x = i
   · subst hxi
     exact .inr ⟨m, by omega, by simp, by simp⟩
   · rcases h.fro x hx with ⟨h1, h2⟩ | ⟨q, hq, hp, he⟩
     · exact .inl ⟨by show (if x = i then _ else P x) = _; rw [if_neg hxi]; exact h1, by show (if x = i then _ else F x) = _; rw [if_neg hxi]; exact h2⟩
     · exact .inr ⟨q, by omega, by show (if x = i then _ else P x) = _; rw [if_neg hxi]; exact hp, by show (if q = m then _ else E q).m = _; rw [if_neg (by omega)]; exact he⟩
theorem Links.pop (h : Links n (m + 1) E P F) {i : Nat} (hi : i < n) (hP : P i = (m : Int)) : Links n m E (fun x => if x = i then -1 else P x) (fun x => if x = i then none else F x) := by
 constructor
 · intro q hq
   obtain ⟨j, hj, ej, pj, fj⟩ := h.tom q (by omega)
   have hji : j ≠ i := by intro e; subst e; omega
   exact ⟨j, hj, ej, by show (if j = i then _ else P j) = _; rw [if_neg hji]; exact pj, by show (if j = i then _ else F j) = _; rw [if_neg hji]; exact fj⟩
 · intro x hx
   by_cases hxi : x = i
   · subst hxi
     exact .inl ⟨by simp, by simp⟩
   · rcases h.fro x hx with ⟨h1, h2⟩ | ⟨q, hq, hp, he⟩
     · exact .inl ⟨by show (if x = i then _ else P x) = _; rw [if_neg hxi]; exact h1, by show (if x = i then _ else F x) = _; rw [if_neg hxi]; exact h2⟩
     · have hqm : q ≠ m := by
         intro e; subst e
         obtain ⟨j, hj, ej, pj, fj⟩ := h.tom q hq
         have : j = x := by omega
         subst this
         rcases h.fro i hi with ⟨h1, _⟩ | ⟨r, hr, hpr, her⟩
         · omega
         · have : r = q := by omega
           subst this
           omega
       exact .inr ⟨q, by omega, by show (if x = i then _ else P x) = _; rw [if_neg hxi]; exact hp, he⟩
theorem Links.len (h : Links n m E P F) (hF : ∀ i, i < n → F i = none) : m = 0 := by
 rcases Nat.eq_zero_or_pos m with h0 | h0
 · exact h0
 · obtain ⟨i, hi, _, _, fi⟩ := h.tom 0 h0
   rw [hF i hi] at fi; cases fi
end
end Go.Proofs.YtcffeokbipjaoaaGreat
namespace Go.Proofs.YtcffeokbipjaoaaGreat
open Go.ChangeShapes Go.WideShapes Go.RowKit
set_option linter.unusedVariables false
set_option linter.unusedSimpArgs false
def hOwn (b : Nat) (A : Option Addr) : Nat → Prop := fun g => g = b ∨ ∃ x, A = some x ∧ x.block = g
structure HeapIn (w : World) (p b n : Nat) (A : Option Addr) (m c : Nat) (E : Nat → En) (F : Nat → Option (Int × Int)) : Prop where
 at_ : ∃ P, HeapAt w p b n A m c E P ∧ Links n m E P F
 nil_ : c = 0 → A = none
 cmax : c ≤ maxLen
section
variable {w w' : World} {p b n m c : Nat} {A : Option Addr} {E : Nat → En} {P : Nat → Int} {F : Nat → Option (Int × Int)}
theorem HeapIn.below (h : HeapIn w p b n A m c E F) (hb : Below w.heap.size w w') : HeapIn w' p b n A m c E F := by
 obtain ⟨P, h1, h2⟩ := h.at_
 exact ⟨⟨P, h1.below hb, h2⟩, h.nil_, h.cmax⟩
theorem HeapIn.mn (h : HeapIn w p b n A m c E F) : m ≤ n := by obtain ⟨P, h1, h2⟩ := h.at_; exact h1.mn
theorem HeapIn.n0 (h : HeapIn w p b n A m c E F) : n ≤ 1024 := by obtain ⟨P, h1, h2⟩ := h.at_; exact h1.n0
theorem hbefore (w : World) {i j : Nat} (hi : i < m) (hj : j < m) (h : HeapIn w p b n A m c E F) : Calls Tryz.prog 248 #[.pointer (some ⟨p, 0, none⟩), .int .i64 (i : Int), .int .i64 (j : Int)] w fun e w' => e = .returned (.bool (decide (cmpE (E i) (E j) < 0))) ∧ Below w.heap.size w w' := by
 obtain ⟨P, h1, h2⟩ := h.at_
 exact before_any hi hj w h1
theorem hswap (w : World) {i j : Nat} (hi : i < m) (hj : j < m) (h : HeapIn w p b n A m c E F) : Calls Tryz.prog 206 #[.pointer (some ⟨p, 0, none⟩), .int .i64 (i : Int), .int .i64 (j : Int)] w fun e w' => e = .returned (.tuple #[]) ∧ HeapIn w' p b n A m c (swE E i j) F ∧ Kept (hOwn b A) w w' := by
 obtain ⟨P, h1, h2⟩ := h.at_
 refine (hswap_any hi hj w h1 h2.mem).mono ?_
 rintro e w' ⟨rfl, h3, h4⟩
 refine ⟨rfl, ⟨⟨_, h3, h2.swap hi hj⟩, h.nil_, h.cmax⟩, h4.more fun k hk ho => ?_⟩
 rcases ho with ho | ho
 · exact .inl ho
 · obtain ⟨a, ea, _⟩ := h1.at_ (by omega)
   exact .inr ⟨_, ea, ho _ ea⟩
set_option maxHeartbeats 2000000 in
theorem hrise (w : World) {q0 : Nat} (hq : q0 < m) (h : HeapIn w p b n A m c E F) (ho : OrdTwo m E q0) :
   Calls Tryz.prog 207 #[.pointer (some ⟨p, 0, none⟩), .int .i64 (q0 : Int)] w fun e w' => e = .returned (.tuple #[]) ∧ (∃ E', HeapIn w' p b n A m c E' F ∧ OrdDown m E' q0) ∧ Kept (hOwn b A) w w' := by
 have hm := h.mn
 have hn := h.n0
 have HH := Lib.hid h
 have HO := Lib.hid ho
 clear h ho
 go_enter Tryz.func207, Tryz.ntmps207
 go_wp2_with fail
 go_loopw [1] (fun s1 wr => ∃ (q : Nat) (E' : Nat → En), s1 = .int .i64 (q : Int) ∧ q < m ∧ HeapIn wr p b n A m c E' F ∧ ((q = q0 ∧ OrdTwo m E' q0) ∨ OrdBut m E' q) ∧ Kept (hOwn b A) w wr) (fun i _ => (intOf i).toNat)
 case atStart => exact ⟨q0, E, rfl, hq, HH.out, .inl ⟨rfl, HO.out⟩, Kept.refl _ _⟩
 case round =>
   clear HO HH
   obtain ⟨q, E', rfl, hqm, h, ho, hk⟩ := hrel
   have HH := Lib.hid h
   have HO := Lib.hid ho
   have HK := Lib.hid hk
   clear h ho hk
   by_cases h0 : 0 < q
   · have i0 : (0 : Int) < (q : Int) := by omega
     obtain ⟨r, hr⟩ : ∃ r, (q - 1) / 2 = r := ⟨_, rfl⟩
     have hrm : r < m := by omega
     have hc := cmpE_neg (E' q) (E' r)
     by_cases hl : ltE (E' q) (E' r)
     · have e : decide (cmpE (E' q) (E' r) < 0) = true := decide_eq_true (hc.2 hl)
       clear hc
       go_wp2_with fail
       refine (hparent q _ h0 (by omega)).mono ?_
       rintro e w1 ⟨rfl, rfl⟩
       rw [hr]
       go_wp2_with fail
       refine (hbefore _ hqm hrm HH.out).mono ?_
       rw [e]
       rintro e w2 ⟨rfl, hb2⟩
       have H2 := Lib.hid (HH.out.below hb2)
       have K2 := Lib.hid (HK.out.trans (Kept.of_below hb2))
       clear hb2
       go_wp2_with fail
       refine (hparent q _ h0 (by omega)).mono ?_
       rintro e w3 ⟨rfl, rfl⟩
       rw [hr]
       go_wp2_with fail
       refine (hswap _ hqm hrm H2.out).mono ?_
       rintro e w4 ⟨rfl, h4, k4⟩
       have H4 := Lib.hid h4
       have K4 := Lib.hid (K2.out.trans k4)
       clear h4 k4
       go_wp2_with fail
       refine (hparent q _ h0 (by omega)).mono ?_
       rintro e w5 ⟨rfl, rfl⟩
       rw [hr]
       go_wp2_with fail
       go_roundw
       case rel =>
         refine ⟨r, _, rfl, hrm, H4.out, .inr ?_, K4.out⟩
         subst hr
         rcases HO.out with ⟨e, ho⟩ | ho
         · subst e; exact (ho.but h0 hl).step h0 hqm hl
         · exact ho.step h0 hqm hl
       case measure => simp [intOf]; omega
     · have e : decide (cmpE (E' q) (E' r) < 0) = false := decide_eq_false (fun h => hl (hc.1 h))
       clear hc
       go_wp2_with fail
       refine (hparent q _ h0 (by omega)).mono ?_
       rintro e w1 ⟨rfl, rfl⟩
       rw [hr]
       go_wp2_with fail
       refine (hbefore _ hqm hrm HH.out).mono ?_
       rw [e]
       rintro e w2 ⟨rfl, hb2⟩
       have H2 := Lib.hid (HH.out.below hb2)
       have K2 := Lib.hid (HK.out.trans (Kept.of_below hb2))
       clear hb2
       go_wp2_with fail
       first | go_end0 | skip
       refine ⟨rfl, ⟨E', H2.out, ?_⟩, K2.out⟩
       subst hr
       rcases HO.out with ⟨e, ho⟩ | ho
       · subst e; exact ho.down (.inr hl)
       · exact (ho.ord (.inr hl)).down _
   · have hq0 : q = 0 := by omega
     subst hq0
     go_wp2_with fail
     first | go_end0 | skip
     refine ⟨rfl, ⟨E', HH.out, ?_⟩, HK.out⟩
     rcases HO.out with ⟨e, ho⟩ | ho
     · subst e; exact ho.down (.inl rfl)
     · exact (ho.ord (.inl rfl)).down _
end
end Go.Proofs.YtcffeokbipjaoaaGreat
namespace Go.Proofs.YtcffeokbipjaoaaGreat
open Go.ChangeShapes Go.WideShapes Go.RowKit
set_option linter.unusedVariables false
set_option linter.unusedSimpArgs false
theorem hbelow (a : Nat) (h1 : a ≤ 4096) (w : World) : Calls Tryz.prog 200 #[.int .i64 (a : Int)] w fun e w' => e = .returned (.agg #[.int .i64 ((2 * a + 1 : Nat) : Int), .int .i64 ((2 * a + 2 : Nat) : Int)]) ∧ Below w.heap.size w w' := by
 have e0 : IntKind.i64.wrap (2 * (a : Int)) = 2 * (a : Int) := by rw [IntKind.wrap_i64]; omega
 have e1 : IntKind.i64.wrap (2 * (a : Int) + 1) = ((2 * a + 1 : Nat) : Int) := by rw [IntKind.wrap_i64]; omega
 have e2 : IntKind.i64.wrap (2 * (a : Int) + 2) = ((2 * a + 2 : Nat) : Int) := by rw [IntKind.wrap_i64]; omega
 obtain ⟨x, hx⟩ : ∃ x : Nat, 2 * a + 1 = x := ⟨_, rfl⟩
 obtain ⟨y, hy⟩ : ∃ y : Nat, 2 * a + 2 = y := ⟨_, rfl⟩
 rw [hx] at e1 ⊢
 rw [hy] at e2 ⊢
 clear hx hy
 go_enter Tryz.func200, Tryz.ntmps200
 go_wp2
 refine bodyPost_ret (v := .agg #[.int .i64 (x : Int), .int .i64 (y : Int)]) (by simp [results, Tryz.results200, go_sem, *]) rfl ⟨rfl, ?_⟩
 repeat (first | with_reducible exact Below.refl _ _ | refine Below.setCell ?_ (by simp) _ | refine Below.alloc ?_ (by simp) _ )
noncomputable def bet (m : Nat) (E : Nat → En) (f k : Nat) : Nat := open Classical in if k < m ∧ ltE (E k) (E f) then k else f
section
variable {w w' : World} {p b n m c : Nat} {A : Option Addr} {E : Nat → En} {P : Nat → Int} {F : Nat → Option (Int × Int)}
theorem bet_yes {f k : Nat} (hk : k < m) (hl : ltE (E k) (E f)) : bet m E f k = k := by unfold bet; rw [if_pos ⟨hk, hl⟩]
theorem bet_no {f k : Nat} (h : ¬ (k < m ∧ ltE (E k) (E f))) : bet m E f k = f := by unfold bet; rw [if_neg h]
theorem hlen (w : World) (h : HeapIn w p b n A m c E F) : ∃ P, HeapAt w p b n A m c E P := by obtain ⟨P, h1, h2⟩ := h.at_; exact ⟨P, h1⟩
set_option maxRecDepth 20000 in
set_option maxHeartbeats 2000000 in
theorem hfirst (w : World) {q : Nat} (hq : q < m) (h : HeapIn w p b n A m c E F) :
   Calls Tryz.prog 250 #[.pointer (some ⟨p, 0, none⟩), .int .i64 (q : Int)] w fun e w' => e = .returned (.int .i64 (bet m E (bet m E q (2 * q + 1)) (2 * q + 2) : Nat)) ∧ Below w.heap.size w w' := by
 have hm := h.mn
 have hn := h.n0
 have HH := Lib.hid h
 obtain ⟨r, hr⟩ : ∃ r, bet m E (bet m E q (2 * q + 1)) (2 * q + 2) = r := ⟨_, rfl⟩
 rw [hr]
 have HR := Lib.hid hr
 clear h hr
 go_enter Tryz.func250, Tryz.ntmps250
 go_wp2_with fail
 refine (hbelow q (by omega) _).mono ?_
 rintro e w1 ⟨rfl, hb1⟩
 obtain ⟨x, hx⟩ : ∃ x : Nat, 2 * q + 1 = x := ⟨_, rfl⟩
 obtain ⟨y, hy⟩ : ∃ y : Nat, 2 * q + 2 = y := ⟨_, rfl⟩
 have hr := HR.out
 rw [hx, hy] at hr
 have HR2 := Lib.hid hr
 rw [hx, hy]
 have hx2 : 2 * q + 1 = x := hx
 have hy2 : 2 * q + 2 = y := hy
 have HX := Lib.hid hx
 have HY := Lib.hid hy
 clear hr HR hx hy hx2 hy2
 have ix0 : ∀ w, (Instr.index 214 (.agg #[.int .i64 (x : Int), .int .i64 (y : Int)]) (.int .i64 0)).run Tryz.prog w = .ok (.int .i64 (x : Int)) w := fun _ => by kernel_rfl
 have ix1 : ∀ w, (Instr.index 214 (.agg #[.int .i64 (x : Int), .int .i64 (y : Int)]) (.int .i64 1)).run Tryz.prog w = .ok (.int .i64 (y : Int)) w := fun _ => by kernel_rfl
 go_wp2_with fail
 go_loopw [5, 11] (fun s5 s11 wr => ∃ (i f : Nat), s11 = .int .i64 (i : Int) ∧ s5 = .int .i64 (f : Int) ∧ f < m ∧ Below w.heap.size w wr ∧ ((i = 0 ∧ f = q) ∨ (i = 1 ∧ f = bet m E q x) ∨ (i = 2 ∧ f = r))) (fun _ i _ => 2 - (intOf i).toNat)
 case atStart => exact ⟨0, q, rfl, rfl, hq, hb1, .inl ⟨rfl, rfl⟩⟩
 case round =>
   clear hb1
   obtain ⟨i, f, rfl, rfl, hf, hb, hc⟩ := hrel
   have HB := Lib.hid hb
   have H1 := Lib.hid (HH.out.below hb)
   clear hb
   obtain ⟨P1, ha⟩ := hlen _ H1.out
   have g0 := ha.p0
   clear ha
   have key : ∀ {z : Nat} {i : Nat}, True := fun {_ _} => trivial
   rcases hc with ⟨rfl, rfl⟩ | ⟨rfl, hfe⟩ | ⟨rfl, rfl⟩
   · by_cases hxm : x < m
     · have xi : (x : Int) < (m : Int) := by omega
       have hcc := cmpE_neg (E x) (E f)
       by_cases hl : ltE (E x) (E f)
       · have e : decide (cmpE (E x) (E f) < 0) = true := decide_eq_true (hcc.2 hl)
         have hbt := bet_yes hxm hl
         have HT := Lib.hid hbt
         clear hcc hbt
         go_wp2_with fail
         refine (hbefore _ hxm hf H1.out).mono ?_
         rw [e]
         rintro e w2 ⟨rfl, hb2⟩
         have B2 := Lib.hid (HB.out.trans (hb2.mono HB.out.size))
         clear hb2
         go_wp2_with fail
         go_roundw
         case rel => exact ⟨1, x, by go_num, rfl, hxm, B2.out, .inr (.inl ⟨rfl, HT.out.symm⟩)⟩
         case measure => simp [intOf]
       · have e : decide (cmpE (E x) (E f) < 0) = false := decide_eq_false (fun h => hl (hcc.1 h))
         have hbt : bet m E f x = f := bet_no fun h => hl h.2
         have HT := Lib.hid hbt
         clear hcc hbt
         go_wp2_with fail
         refine (hbefore _ hxm hf H1.out).mono ?_
         rw [e]
         rintro e w2 ⟨rfl, hb2⟩
         have B2 := Lib.hid (HB.out.trans (hb2.mono HB.out.size))
         clear hb2
         go_wp2_with fail
         go_roundw
         case rel => exact ⟨1, f, by go_num, rfl, hf, B2.out, .inr (.inl ⟨rfl, HT.out.symm⟩)⟩
         case measure => simp [intOf]
     · have e2 : decide ((x : Int) < (m : Int)) = false := by simp; omega
       have e3 : ¬ (x : Int) < (m : Int) := by omega
       have hbt : bet m E f x = f := bet_no fun h => hxm h.1
       have HT := Lib.hid hbt
       clear hbt
       go_wp2_with fail
       go_roundw
       case rel => exact ⟨1, f, by go_num, rfl, hf, HB.out, .inr (.inl ⟨rfl, HT.out.symm⟩)⟩
       case measure => simp [intOf]
   · have hr2 := HR2.out
     rw [← hfe] at hr2
     have HR3 := Lib.hid hr2
     clear hr2 hfe
     by_cases hym : y < m
     · have yi : (y : Int) < (m : Int) := by omega
       have hcc := cmpE_neg (E y) (E f)
       by_cases hl : ltE (E y) (E f)
       · have e : decide (cmpE (E y) (E f) < 0) = true := decide_eq_true (hcc.2 hl)
         have hbt := bet_yes hym hl
         have HT := Lib.hid hbt
         clear hcc hbt
         go_wp2_with fail
         refine (hbefore _ hym hf H1.out).mono ?_
         rw [e]
         rintro e w2 ⟨rfl, hb2⟩
         have B2 := Lib.hid (HB.out.trans (hb2.mono HB.out.size))
         clear hb2
         go_wp2_with fail
         go_roundw
         case rel => exact ⟨2, y, by go_num, rfl, hym, B2.out, .inr (.inr ⟨rfl, HT.out.symm.trans HR3.out⟩)⟩
         case measure => simp [intOf]
       · have e : decide (cmpE (E y) (E f) < 0) = false := decide_eq_false (fun h => hl (hcc.1 h))
         have hbt : bet m E f y = f := bet_no fun h => hl h.2
         have HT := Lib.hid hbt
         clear hcc hbt
         go_wp2_with fail
         refine (hbefore _ hym hf H1.out).mono ?_
         rw [e]
         rintro e w2 ⟨rfl, hb2⟩
         have B2 := Lib.hid (HB.out.trans (hb2.mono HB.out.size))
         clear hb2
         go_wp2_with fail
         go_roundw
         case rel => exact ⟨2, f, by go_num, rfl, hf, B2.out, .inr (.inr ⟨rfl, HT.out.symm.trans HR3.out⟩)⟩
         case measure => simp [intOf]
     · have e2 : decide ((y : Int) < (m : Int)) = false := by simp; omega
       have e3 : ¬ (y : Int) < (m : Int) := by omega
       have hbt : bet m E f y = f := bet_no fun h => hym h.1
       have HT := Lib.hid hbt
       clear hbt
       go_wp2_with fail
       go_roundw
       case rel => exact ⟨2, f, by go_num, rfl, hf, HB.out, .inr (.inr ⟨rfl, HT.out.symm.trans HR3.out⟩)⟩
       case measure => simp [intOf]
   · go_wp2_with fail
     go_ret
     exact ⟨rfl, HB.out⟩
theorem bet_spec {q : Nat} (hq : q < m) : (bet m E (bet m E q (2 * q + 1)) (2 * q + 2) = q ∧ ∀ k, 0 < k → k < m → (k - 1) / 2 = q → ¬ ltE (E k) (E q)) ∨
   (∃ f, bet m E (bet m E q (2 * q + 1)) (2 * q + 2) = f ∧ f < m ∧ q < f ∧ (f - 1) / 2 = q ∧ ltE (E f) (E q) ∧ ∀ k, 0 < k → k < m → (k - 1) / 2 = q → ¬ ltE (E k) (E f)) := by
 have hk : ∀ k, 0 < k → (k - 1) / 2 = q → k = 2 * q + 1 ∨ k = 2 * q + 2 := by omega
 by_cases h1 : 2 * q + 1 < m ∧ ltE (E (2 * q + 1)) (E q)
 · rw [bet_yes h1.1 h1.2]
   by_cases h2 : 2 * q + 2 < m ∧ ltE (E (2 * q + 2)) (E (2 * q + 1))
   · rw [bet_yes h2.1 h2.2]
     refine .inr ⟨_, rfl, h2.1, by omega, by omega, ltE_trans h2.2 h1.2, fun k h0 hkm hp => ?_⟩
     rcases hk k h0 hp with rfl | rfl
     · exact ltE_asymm h2.2
     · exact ltE_irrefl _
   · rw [bet_no h2]
     refine .inr ⟨_, rfl, h1.1, by omega, by omega, h1.2, fun k h0 hkm hp => ?_⟩
     rcases hk k h0 hp with rfl | rfl
     · exact ltE_irrefl _
     · exact fun h => h2 ⟨hkm, h⟩
 · rw [bet_no h1]
   by_cases h2 : 2 * q + 2 < m ∧ ltE (E (2 * q + 2)) (E q)
   · rw [bet_yes h2.1 h2.2]
     refine .inr ⟨_, rfl, h2.1, by omega, by omega, h2.2, fun k h0 hkm hp => ?_⟩
     rcases hk k h0 hp with rfl | rfl
     · exact fun h => h1 ⟨hkm, ltE_trans h h2.2⟩
     · exact ltE_irrefl _
   · rw [bet_no h2]
     refine .inl ⟨rfl, fun k h0 hkm hp => ?_⟩
     rcases hk k h0 hp with rfl | rfl
     · exact fun h => h1 ⟨hkm, h⟩
     · exact fun h => h2 ⟨hkm, h⟩
set_option maxRecDepth 20000 in
set_option maxHeartbeats 2000000 in
theorem hsink (w : World) {q0 : Nat} (hq : q0 < m) (h : HeapIn w p b n A m c E F) (ho : OrdDown m E q0) :
   Calls Tryz.prog 208 #[.pointer (some ⟨p, 0, none⟩), .int .i64 (q0 : Int)] w fun e w' => e = .returned (.tuple #[]) ∧ (∃ E', HeapIn w' p b n A m c E' F ∧ Ord m E') ∧ Kept (hOwn b A) w w' := by
 have hm := h.mn
 have hn := h.n0
 have HH := Lib.hid h
 have HO := Lib.hid ho
 clear h ho
 go_enter Tryz.func208, Tryz.ntmps208
 go_wp2_with fail
 go_loopw [1] (fun s1 wr => ∃ (q : Nat) (E' : Nat → En), s1 = .int .i64 (q : Int) ∧ q < m ∧ HeapIn wr p b n A m c E' F ∧ OrdDown m E' q ∧ Kept (hOwn b A) w wr) (fun i _ => m - (intOf i).toNat)
 case atStart => exact ⟨q0, E, rfl, hq, HH.out, HO.out, Kept.refl _ _⟩
 case round =>
   clear HO HH
   obtain ⟨q, E', rfl, hqm, h, ho, hk⟩ := hrel
   have HH := Lib.hid h
   have HO := Lib.hid ho
   have HK := Lib.hid hk
   clear h ho hk
   rcases bet_spec (E := E') hqm with ⟨e, hl⟩ | ⟨f, e, hfm, hqf, hfp, hfl, hl⟩
   · have HL := Lib.hid hl
     clear hl
     go_wp2_with fail
     refine (hfirst _ hqm HH.out).mono ?_
     rw [e]
     rintro e w2 ⟨rfl, hb2⟩
     have H2 := Lib.hid (HH.out.below hb2)
     have K2 := Lib.hid (HK.out.trans (Kept.of_below hb2))
     clear hb2
     go_wp2_with fail
     refine bodyPost_ret (results_none rfl _ _ _) rfl ?_
     exact ⟨rfl, ⟨E', H2.out, HO.out.ord HL.out⟩, K2.out⟩
   · have HL := Lib.hid hl
     have ne : ¬ (f : Int) = (q : Int) := by omega
     have ne2 : ¬ f = q := by omega
     clear hl
     go_wp2_with fail
     refine (hfirst _ hqm HH.out).mono ?_
     rw [e]
     rintro e w2 ⟨rfl, hb2⟩
     have H2 := Lib.hid (HH.out.below hb2)
     have K2 := Lib.hid (HK.out.trans (Kept.of_below hb2))
     clear hb2
     go_wp2_with fail
     refine (hswap _ hqm hfm H2.out).mono ?_
     rintro e w4 ⟨rfl, h4, k4⟩
     have H4 := Lib.hid h4
     have K4 := Lib.hid (K2.out.trans k4)
     clear h4 k4
     go_wp2_with fail
     go_roundw
     case rel => exact ⟨f, _, rfl, hfm, H4.out, HO.out.step hfm (by omega) hfp hfl HL.out, K4.out⟩
     case measure => simp [intOf]; omega
end
end Go.Proofs.YtcffeokbipjaoaaGreat
