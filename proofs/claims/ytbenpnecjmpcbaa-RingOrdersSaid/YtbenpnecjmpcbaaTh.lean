/- The team's rest. -/
import Derived.Test.YtbenpnecjmpcbaaTg
namespace Go.Proofs.Ytbenpnecjmpcbaa
open Go.RowKit Go.ChangeShapes Go.WideShapes Go.Deep
set_option linter.unusedVariables false
set_option linter.unusedSimpArgs false
/-- What is left to run, and what came of it. -/
structure Rs where
  g : Rg
  ac : Nat → Option Ac
  pop : List Int
  push : List Int
def rsStep (n : Nat) (K : Nat → Int) (s : Rs) (j : Nat) (c : Ac) : Rs :=
  if endE (acS n s.g c).nx = true then
    ⟨rgS n s.g c, upd s.ac j none, if (acS n s.g c).nx = 1 ∧ K j = 2 then s.pop ++ [(acS n s.g c).pp] else s.pop, if (acS n s.g c).nx = 1 ∧ ¬ K j = 2 then s.push ++ [(acS n s.g c).pu] else s.push⟩
  else ⟨rgS n s.g c, upd s.ac j (some (acS n s.g c)), s.pop, s.push⟩
/-- Thread j does up to m steps. -/
def rsGo (n : Nat) (K : Nat → Int) (j : Nat) : Nat → Rs → Rs
  | 0, s => s
  | m + 1, s => match (rsGo n K j m s).ac j with
    | none => rsGo n K j m s
    | some c => rsStep n K (rsGo n K j m s) j c
def rsAll (n : Nat) (K : Nat → Int) : Nat → Rs → Rs
  | 0, s => s
  | i + 1, s => rsGo n K i 7 (rsAll n K i s)
structure RsOk (n b : Nat) (K : Nat → Int) (s : Rs) : Prop where
  inv : RInv n s.g s.ac
  bd : TBd b n s.g s.ac
  ne : ∀ j c, s.ac j = some c → 2 ≤ c.nx ∧ endE c.nx = false
  kd : ∀ j c, s.ac j = some c → AcK (K j) c
  len : s.pop.length ≤ b ∧ s.push.length ≤ b
theorem len_if {p : Prop} [Decidable p] {L : List Int} {x : Int} {b : Nat} (h : L.length ≤ b) : (if p then L ++ [x] else L).length ≤ b + 1 := by
  split
  · simp; omega
  · omega
theorem RsOk.more {n b b' : Nat} {K : Nat → Int} {s : Rs} (h : RsOk n b K s) (hb : b ≤ b') : RsOk n b' K s := ⟨h.inv, h.bd.more hb, h.ne, h.kd, by have := h.len; omega⟩
theorem RsOk.step_ {n b : Nat} {K : Nat → Int} {s : Rs} (h : RsOk n b K s) (hn : 2 ≤ n) {j : Nat} {c : Ac} (hc : s.ac j = some c) : RsOk n (b + 1) K (rsStep n K s j c) := by
  have hi := h.inv.step hn hc
  have hb := h.bd.step hc
  have hK := acS_K (n := n) (g := s.g) (h.kd j c hc)
  unfold rsStep
  by_cases he : endE (acS n s.g c).nx = true
  · rw [if_pos he]
    have e0 : ∀ x : Option Ac, upd (upd s.ac j x) j none = upd s.ac j none := fun x => upd_upd' _ _ _ _
    refine ⟨?_, ?_, fun l a ha => ?_, fun l a ha => ?_, len_if h.len.1, len_if h.len.2⟩
    · have := hi.put j none (fun a e => by cases e)
      rw [e0] at this
      exact this
    · have := hb.put j (x := none) (fun a e => by cases e)
      rw [e0] at this
      exact this
    · rcases upd_some ha with ⟨-, e⟩ | ⟨-, e⟩
      · cases e
      · exact h.ne l a e
    · rcases upd_some ha with ⟨-, e⟩ | ⟨-, e⟩
      · cases e
      · exact h.kd l a e
  · rw [if_neg he]
    refine ⟨hi, hb, fun l a ha => ?_, fun l a ha => ?_, by have := h.len.1; show s.pop.length ≤ _; omega, by have := h.len.2; show s.push.length ≤ _; omega⟩
    · rcases upd_some ha with ⟨-, e⟩ | ⟨-, e⟩
      · cases e
        have he' : endE (acS n s.g c).nx = false := by simpa using he
        exact ⟨endE_of he' hK.top.2, he'⟩
      · exact h.ne l a e
    · rcases upd_some ha with ⟨rfl, e⟩ | ⟨e, e'⟩
      · cases e
        exact hK
      · exact h.kd l a e'
theorem rsGo_ok {n b : Nat} {K : Nat → Int} {s : Rs} (h : RsOk n b K s) (hn : 2 ≤ n) (j : Nat) : ∀ m, RsOk n (b + m) K (rsGo n K j m s)
  | 0 => h
  | m + 1 => by
    have ih := rsGo_ok h hn j m
    unfold rsGo
    cases hc : (rsGo n K j m s).ac j with
    | none => exact ih.more (by omega)
    | some c => exact ih.step_ hn hc
theorem rsGo_mu {n b : Nat} {K : Nat → Int} {s : Rs} (h : RsOk n b K s) (hn : 2 ≤ n) (j : Nat) : ∀ m c, (rsGo n K j m s).ac j = some c → m + mu (rsGo n K j m s).g c ≤ 6
  | 0, c, hc => by have := mu_le (rsGo n K j 0 s).g c; omega
  | m + 1, c, hc => by
    have ok := rsGo_ok h hn j m
    have ih := rsGo_mu h hn j m
    unfold rsGo at hc ⊢
    cases hd : (rsGo n K j m s).ac j with
    | none =>
      rw [hd] at hc
      have hc' : (rsGo n K j m s).ac j = some c := hc
      rw [hd] at hc'
      cases hc'
    | some d =>
      rw [hd] at hc
      have hc' : (rsStep n K (rsGo n K j m s) j d).ac j = some c := hc
      show m + 1 + mu (rsStep n K (rsGo n K j m s) j d).g c ≤ 6
      have i1 := ih d hd
      have i2 := ok.inv.nearer hn hd ⟨(ok.ne j d hd).1, (ok.kd j d hd).top.1⟩
      unfold rsStep at hc' ⊢
      by_cases he : endE (acS n (rsGo n K j m s).g d).nx = true
      · rw [if_pos he] at hc'
        have : upd (rsGo n K j m s).ac j none j = some c := hc'
        rw [upd_at] at this
        cases this
      · rw [if_neg he] at hc' ⊢
        have : upd (rsGo n K j m s).ac j (some (acS n (rsGo n K j m s).g d)) j = some c := hc'
        rw [upd_at] at this
        cases this
        show m + 1 + mu (rgS n (rsGo n K j m s).g d) _ ≤ 6
        omega
theorem rsGo_still {n : Nat} {K : Nat → Int} {s : Rs} {j m : Nat} (h : (rsGo n K j m s).ac j = none) : ∀ k, rsGo n K j (m + k) s = rsGo n K j m s
  | 0 => rfl
  | k + 1 => by
    have ih := rsGo_still h k
    show (match (rsGo n K j (m + k) s).ac j with | none => rsGo n K j (m + k) s | some c => rsStep n K (rsGo n K j (m + k) s) j c) = _
    rw [ih, h]
theorem rsAll_ok {n b : Nat} {K : Nat → Int} {s : Rs} (h : RsOk n b K s) (hn : 2 ≤ n) : ∀ i, RsOk n (b + 7 * i) K (rsAll n K i s)
  | 0 => h
  | i + 1 => (rsGo_ok (rsAll_ok h hn i) hn i 7).more (by omega)
/-- A list of numbers of our own. -/
abbrev OwU (w : World) (base : Nat) (v : Value) (L : List Int) : Prop := w.ownsRow base 33 1 v L.length (L.map fun x => .int .u64 x)
section
variable {w w' : World} {base : Nat} {v : Value} {L : List Int}
theorem OwU.nil_ (w : World) (base : Nat) : OwU w base (.slice none 0 0) [] := World.ownsRow_nil _ _ _ _
theorem OwU.rd (h : OwU w base v L) : ∃ A c, v = .slice A L.length c ∧ (v.ownBlock = none ∨ ∃ g, v.ownBlock = some g ∧ base ≤ g ∧ ∃ cs, Blk w g 33 cs) := by
  rcases h.2 with ⟨rfl, h0⟩ | ⟨g, cap, cur, rfl, hb, hg, h1, h2, h3, h4⟩
  · exact ⟨none, 0, by rw [h0], .inl rfl⟩
  · exact ⟨_, cap, rfl, .inr ⟨g, rfl, hb, cur, hg⟩⟩
theorem OwU.own_lt (h : OwU w base v L) {g : Nat} (hg : v.ownBlock = some g) : base ≤ g ∧ ∃ cs, Blk w g 33 cs := by
  obtain ⟨A, c, e, (e1 | ⟨g', e1, hb, cs, hc⟩)⟩ := h.rd
  · rw [hg] at e1; cases e1
  · rw [hg] at e1; injection e1 with e1; subst e1; exact ⟨hb, cs, hc⟩
theorem OwU.kept {own : Nat → Prop} (h : OwU w base v L) (hk : Kept own w w') (hn : ∀ g, v.ownBlock = some g → ¬ own g) : OwU w' base v L := by
  refine ⟨h.1, ?_⟩
  rcases h.2 with h0 | ⟨g, cap, cur, rfl, hb, hg, h1⟩
  · exact .inl h0
  · exact .inr ⟨g, cap, cur, rfl, hb, Blk.kept (cs := cur) hg hk (hn g rfl), h1⟩
theorem OwU.below (h : OwU w base v L) (hb : Below w.heap.size w w') : OwU w' base v L := h.kept (own := fun _ => False) (Kept.of_below hb) fun _ _ => id
end
theorem u64info : (Try.prog.info? 33).map (fun i => (i.zero, i.size, i.bytes)) = some (some (.int .u64 0), 1, 8) := by kernel_rfl
section
variable {w : World} {ops : Array Oper} {rest : List Oper} {o : Oper} {ac : Act} {Q : Exit → Act → World → Prop}
theorem wpList_u1 {st : TypeId} (hun : Try.prog.underlying st = some (.slice 33)) (hgd : o.guard = none) (s x : Operand)
    (ho : o.op = .call { callee := .builtin .append, args := #[s, x], argTypes := #[st, st] })
    {base g : Nat} {v : Value} {L : List Int} {z : Int} (hs : ac.eval s = v) (hx : ac.eval x = .slice (some ⟨g, 0, none⟩) 1 1) (hown : OwU w base v L) (hg : Blk w g 33 #[.int .u64 z]) (hl : L.length ≤ 10000) (hb : base ≤ w.heap.size)
    (h : ∀ v' w', OwU w' base v' (L ++ [z]) → w.grownBy w' v.ownBlock → (v'.ownBlock = v.ownBlock ∨ v'.ownBlock = some w.heap.size) → wpList Try.prog ops Q rest (ac.put o.dst v') w') : wpList Try.prog ops Q (o :: rest) ac w := by
  obtain ⟨i, hi, hz⟩ := Option.map_eq_some_iff.1 u64info
  simp only [Prod.mk.injEq] at hz
  obtain ⟨hz0, hz1, hz2⟩ := hz
  refine wpList_append_own_at w hgd s x st ho base 33 i (.int .u64 0) 1 8 hun hi hz0 hz1 hz2 rfl (by decide) v L.length (L.map fun x => .int .u64 x) hs hown ⟨g, 0, none⟩ 1 1 [.int .u64 z] hx rfl (fun j u hj => ?_) (fun u hu => by rw [List.mem_singleton.1 hu]; rfl) (by have : 100000 ≤ maxLen := by { unfold maxLen; omega }; omega) (by omega) hb ?_
  · have e : (⟨g, 0, none⟩ : Addr).add j = ⟨g, j, none⟩ := by
      unfold Addr.add
      split
      · next h => rw [h]
      · simp
    rw [e, hg.at_]
    show ([Value.int .u64 z].toArray)[j]? = _
    rw [List.getElem?_toArray]
    exact hj
  · intro v' w' h1 h2 _ h3
    refine h v' w' ?_ h2 h3
    show w'.ownsRow base 33 1 v' (L ++ [z]).length ((L ++ [z]).map fun x => .int .u64 x)
    rw [List.map_append, List.length_append]
    exact h1
end
section
variable {w w' : World} {B n : Nat} {A : Ta} {g : Rg} {ac : Nat → Option Ac} {K : Nat → Int}
/-- What rest knows. -/
structure RestAt (w wr : World) (B M n t : Nat) (A : Ta) (K : Nat → Int) (s : Rs) (v5 v6 : Value) : Prop where
  t : A.t = t
  tm : TmAt wr B n A s.g s.ac K
  pop : OwU wr M v5 s.pop
  push : OwU wr M v6 s.push
  ap : ∀ x, v5.ownBlock = some x → v6.ownBlock ≠ some x
  lo : ∀ k, TOwn A s.ac k → k < M
  bl : Below B w wr
  fr : ∀ k cs, k < M → Blk w k dnT cs → Blk wr k dnT cs
theorem TOwn.less {j : Nat} {k : Nat} (h : TOwn A (upd ac j none) k) : TOwn A ac k := by
  rcases h with e | e | e | e | e | e | ⟨i, hi, hx, e⟩
  · exact .inl e
  · exact .inr (.inl e)
  · exact .inr (.inr (.inl e))
  · exact .inr (.inr (.inr (.inl e)))
  · exact .inr (.inr (.inr (.inr (.inl e))))
  · exact .inr (.inr (.inr (.inr (.inr (.inl e)))))
  · refine .inr (.inr (.inr (.inr (.inr (.inr ⟨i, hi, fun h0 => hx ?_, e⟩)))))
    unfold upd
    split
    · rfl
    · exact h0
theorem TOwn.wide {j : Nat} {k : Nat} {c' : Ac} (h : TOwn A (upd ac j none) k) : TOwn A (upd ac j (some c')) k := by
  rcases h with e | e | e | e | e | e | ⟨i, hi, hx, e⟩
  · exact .inl e
  · exact .inr (.inl e)
  · exact .inr (.inr (.inl e))
  · exact .inr (.inr (.inr (.inl e)))
  · exact .inr (.inr (.inr (.inr (.inl e))))
  · exact .inr (.inr (.inr (.inr (.inr (.inl e)))))
  · refine .inr (.inr (.inr (.inr (.inr (.inr ⟨i, hi, fun h0 => hx ?_, e⟩)))))
    by_cases q : i = j
    · subst q; rw [upd_at]
    · rw [upd_ne _ _ q] at h0 ⊢; exact h0
theorem TOwn.same {j : Nat} {k : Nat} {c c' : Ac} (hc : ac j = some c) (h : TOwn A (upd ac j (some c')) k) : TOwn A ac k := by
  rcases h with e | e | e | e | e | e | ⟨i, hi, hx, e⟩
  · exact .inl e
  · exact .inr (.inl e)
  · exact .inr (.inr (.inl e))
  · exact .inr (.inr (.inr (.inl e)))
  · exact .inr (.inr (.inr (.inr (.inl e))))
  · exact .inr (.inr (.inr (.inr (.inr (.inl e)))))
  · refine .inr (.inr (.inr (.inr (.inr (.inr ⟨i, hi, fun h0 => hx ?_, e⟩)))))
    by_cases q : i = j
    · subst q; rw [hc] at h0; cases h0
    · rw [upd_ne _ _ q]; exact h0
end
set_option maxRecDepth 100000 in
set_option maxHeartbeats 8000000 in
theorem trest {B n b : Nat} {A : Ta} {s0 : Rs} {K : Nat → Int} (w : World) (hn : 2 ≤ n) (hB : B ≤ w.heap.size) (h : TmAt w B n A s0.g s0.ac K) (ok : RsOk n b K s0) (hb : b ≤ 400) (hp : s0.pop = []) (hq : s0.push = []) :
    Calls Try.prog 10 #[.pointer (some ⟨A.t, 0, none⟩)] w fun e w' => ∃ v5 v6, e = .returned (.tuple #[v5, v6, .bool true]) ∧ RestAt w w' B w.heap.size n A.t A K (rsAll n K 6 s0) v5 v6 := by
  obtain ⟨t, ht⟩ : ∃ x, A.t = x := ⟨_, rfl⟩
  rw [ht]
  have H0 := Lib.hid h
  have OK := Lib.hid ok
  have HAT := Lib.hid ht
  have HP := Lib.hid hp
  have HQ := Lib.hid hq
  clear h ok ht hp hq
  go_enter Try.func10, Try.ntmps10
  go_wp2
  go_loopw [5, 6, 9] (fun s5 s6 s9 wr => ∃ i, i ≤ 6 ∧ s9 = .int .i64 (i : Nat) ∧ RestAt w wr B w.heap.size n t A K (rsAll n K i s0) s5 s6) (fun _ _ i _ => 6 - (intOf i).toNat)
  case atStart =>
    refine ⟨0, by omega, rfl, HAT.out, H0.out, ?_, ?_, (fun x hx => by cases hx), H0.out.lt, Below.refl _ _, fun k cs _ h => h⟩
    · show OwU _ _ _ s0.pop
      rw [HP.out]
      exact OwU.nil_ _ _
    · show OwU _ _ _ s0.push
      rw [HQ.out]
      exact OwU.nil_ _ _
  case round =>
    obtain ⟨i, hi, rfl, hR⟩ := hrel
    by_cases hlt : i < 6
    · have hi0 : (0 : Int) ≤ (i : Int) := by omega
      have hi6 : (i : Int) < 6 := by omega
      obtain ⟨S1, hS1⟩ : ∃ x, rsAll n K i s0 = x := ⟨_, rfl⟩
      have ok1 := rsAll_ok OK.out hn i
      rw [hS1] at hR ok1
      obtain ⟨A5, c5, e5, -⟩ := hR.pop.rd
      obtain ⟨A6, c6, e6, -⟩ := hR.push.rd
      subst e5 e6
      have HR := Lib.hid hR
      have OK1 := Lib.hid ok1
      have HS1 := Lib.hid hS1
      clear hR hS1 ok1
      obtain ⟨wo, rfl⟩ : ∃ wo, wo = wr := ⟨wr, rfl⟩
      go_wp2
      go_loopw [5, 6, 8] (fun s5 s6 s8 wr => ∃ m, m ≤ 7 ∧ s8 = .int .i64 (m : Nat) ∧ RestAt w wr B w.heap.size n t A K (rsGo n K i m S1) s5 s6) (fun _ _ k _ => 8 - (intOf k).toNat)
      case atStart => exact ⟨0, by omega, rfl, HR.out⟩
      case round =>
        obtain ⟨m, hm, rfl, hR⟩ := hrel
        have ok2 := rsGo_ok OK1.out hn i m
        have hmu := rsGo_mu OK1.out hn i m
        have hst := rsGo_still (n := n) (K := K) (s := S1) (j := i) (m := m)
        have hgo : ∀ c, (rsGo n K i m S1).ac i = some c → rsGo n K i (m + 1) S1 = rsStep n K (rsGo n K i m S1) i c := fun c hc => by
          show (match (rsGo n K i m S1).ac i with | none => rsGo n K i m S1 | some c => rsStep n K (rsGo n K i m S1) i c) = _
          rw [hc]
        obtain ⟨S, hS⟩ : ∃ x, rsGo n K i m S1 = x := ⟨_, rfl⟩
        rw [hS] at hR ok2 hmu hst hgo
        obtain ⟨A5, c5, e5, -⟩ := hR.pop.rd
        obtain ⟨A6, c6, e6, -⟩ := hR.push.rd
        subst e5 e6
        have f0 : wr.cell? ⟨t, 2 + i, none⟩ = some (pt (S.ac i) (A.pa i)) := by rw [← hR.t]; exact hR.tm.ta hlt
        have HS := Lib.hid hS
        cases hac : S.ac i with
        | none =>
          have f1 : wr.cell? ⟨t, 2 + i, none⟩ = some (.pointer none) := by rw [f0, hac]; rfl
          have e7 : rsGo n K i 7 S1 = S := by
            have := hst hac (7 - m)
            rw [show m + (7 - m) = 7 by omega] at this
            exact this
          have HR2 := Lib.hid hR
          have HE7 := Lib.hid e7
          clear f0 hac hR hst hmu hgo e7
          go_wp2
          go_roundw
          case measure => simp [intOf]; omega
          case rel =>
            refine ⟨i + 1, by omega, by go_num, ?_⟩
            show RestAt _ _ _ _ _ _ _ _ (rsGo n K i 7 (rsAll n K i s0)) _ _
            rw [HS1.out, HE7.out]
            exact HR2.out
        | some c =>
          have hmm := hmu c hac
          have hm6 : m ≤ 6 := by omega
          have m5 : ¬ (500 : Int) < (m : Int) := by omega
          have hb5 : decide ((500 : Int) < (m : Int)) = false := decide_eq_false m5
          obtain ⟨a, had⟩ : ∃ x, A.pa i = x := ⟨_, rfl⟩
          obtain ⟨y, hyd⟩ : ∃ x, A.py i = x := ⟨_, rfl⟩
          have f1 : wr.cell? ⟨t, 2 + i, none⟩ = some (.pointer (some ⟨a, 0, none⟩)) := by rw [f0, hac, had]; rfl
          have HST := tm_step wr hR.tm hlt hac (ok2.ne i c hac).1 ok2.bd (by omega)
          rw [hR.t] at HST
          have HST := Lib.hid HST
          have HR2 := Lib.hid hR
          have HAC := Lib.hid hac
          have HAD := Lib.hid had
          have HYD := Lib.hid hyd
          have OK2 := Lib.hid ok2
          have HGO := Lib.hid (hgo c hac)
          clear f0 hac hR hst hmu hgo had hyd ok2 hmm m5
          go_upto_region 10 with (go_at_call 19; refine HST.out.mono ?_; rintro e w5 ⟨rfl, h5, k5⟩)
          obtain ⟨c', hc'⟩ : ∃ x, acS n S.g c = x := ⟨_, rfl⟩
          obtain ⟨g', hg'⟩ : ∃ x, rgS n S.g c = x := ⟨_, rfl⟩
          rw [hc', hg'] at h5
          have hM : RestAt w w5 B w.heap.size n t A K ⟨g', upd S.ac i (some c'), S.pop, S.push⟩ (.slice A5 S.pop.length c5) (.slice A6 S.push.length c6) := by
            have hR := HR2.out
            exact ⟨hR.t, h5, hR.pop.kept k5 (fun x hx e => by have := (hR.pop.own_lt hx).1; have := hR.lo x e; omega), hR.push.kept k5 (fun x hx e => by have := (hR.push.own_lt hx).1; have := hR.lo x e; omega), hR.ap, fun k hk => hR.lo k (TOwn.same HAC.out hk), hR.bl.trans (k5.below (fun x hx => hR.tm.low x hx) (Nat.le_trans hB hR.bl.size)), fun k cs hk hb => (hR.fr k cs hk hb).kept k5 (hR.tm.not_t (hR.fr k cs hk hb) (by decide) (by decide) (by decide) (by decide) (by decide) (by decide) (by decide))⟩
          have hKc : AcK (K i) c' := by rw [← hc']; exact acS_K (OK2.out.kd i c HAC.out)
          have HCC := Lib.hid hc'
          have HGG := Lib.hid hg'
          have HKC := Lib.hid hKc
          clear hc' hg' hKc h5 k5 f1 HST
          refine wp_worldT (fun wx => RestAt w wx B w.heap.size n t A K ⟨g', upd S.ac i (some c'), S.pop, S.push⟩ (.slice A5 S.pop.length c5) (.slice A6 S.push.length c6)) hM ?_
          clear hM HR2
          intro wx hM
          have d2 : wx.cell? ⟨t, 2 + i, none⟩ = some (.pointer (some ⟨a, 0, none⟩)) := by rw [← hM.t]; have := hM.tm.ta hlt; rw [show (⟨g', upd S.ac i (some c'), S.pop, S.push⟩ : Rs).ac i = some c' from upd_at _ _ _, HAD.out] at this; exact this
          have d8 : wx.cell? ⟨t, 8 + i, none⟩ = some (.pointer (some ⟨y, 0, none⟩)) := by rw [← hM.t]; have := hM.tm.ty hlt; rw [show (⟨g', upd S.ac i (some c'), S.pop, S.push⟩ : Rs).ac i = some c' from upd_at _ _ _, HYD.out] at this; exact this
          obtain ⟨ha, hy, -⟩ := hM.tm.act i c' hlt (upd_at _ _ _)
          rw [HAD.out] at ha
          rw [HYD.out] at hy
          obtain ⟨ki, hki⟩ : ∃ x, K i = x := ⟨_, rfl⟩
          rw [hki] at hy
          have dk : wx.cell? ⟨y, 0, none⟩ = some (.int .i64 ki) := YAt.k0 hy
          have dv4 : wx.cell? ⟨y, 4, none⟩ = some (.int .u64 (dv ki c')) := YAt.v4 hy
          have lt1 : t < wx.heap.size := by rw [← hM.t]; exact hM.tm.lt _ (.inl rfl)
          have lta : a < wx.heap.size := Blk.size ha
          have lty : y < wx.heap.size := Blk.size hy
          have CE := Lib.hid (rended wx ha)
          have CO := Lib.hid (rok wx ha)
          have CV := Lib.hid (rvalue wx ha)
          have HM := Lib.hid hM
          have HKI := Lib.hid hki
          have hl5 : S.pop.length ≤ 10000 := by have := OK2.out.len.1; omega
          have hl6 : S.push.length ≤ 10000 := by have := OK2.out.len.2; omega
          clear hM ha hy hki
          by_cases hE : endE c'.nx = true
          · by_cases h1 : c'.nx = 1
            · have h1b : (c'.nx == 1) = true := by simpa using h1
              by_cases hk2 : ki = 2
              · have hk2b : (ki == 2) = true := by simpa using hk2
                go_upto_region 15 with (first
                  | (go_at_call 20; refine CE.out.mono ?_; rintro e w6 ⟨rfl, rfl⟩; rw [hE])
                  | (go_at_call 21; refine CO.out.mono ?_; rintro e w6 ⟨rfl, rfl⟩; rw [h1b])
                  | (go_at_call 22; refine CV.out.mono ?_; rintro e w6 ⟨rfl, rfl⟩)
                  | (at_builtin; refine wpList_u1 (z := c'.pp) (g := wx.heap.size) Try.underlying29 rfl (.tmp 69) (.tmp 77) rfl rfl rfl (HM.out.pop.below ((Below.refl _ _).alloc (Nat.le_refl _) _)) (Blk.made _ _ _) hl5 (by have := HM.out.bl.size; simp; omega) ?_; intro v7 w7 hO7 hg7 hv7))
                have hM2 : RestAt w w7 B w.heap.size n t A K ⟨g', upd S.ac i (some c'), (S.pop ++ [c'.pp]), S.push⟩ v7 (.slice A6 S.push.length c6) := by
                  have hM := HM.out
                  have hb0 := (Below.refl wx.heap.size wx).alloc (Nat.le_refl _) (.cells #[.int .u64 c'.pp] 33)
                  have hs7 : (wx.alloc (.cells #[.int .u64 c'.pp] 33)).heap.size = wx.heap.size + 1 := by simp
                  rw [hs7] at hv7
                  have hk := (Kept.refl (fun x => ((.slice A5 S.pop.length c5) : Value).ownBlock = some x) (wx.alloc (.cells #[.int .u64 c'.pp] 33))).grown hg7 (fun x hx => .inl hx)
                  have hlow : ∀ x, ((.slice A5 S.pop.length c5) : Value).ownBlock = some x → w.heap.size ≤ x := fun x hx => (hM.pop.own_lt hx).1
                  refine ⟨hM.t, (hM.tm.alloc_ _).kept hk (fun x hx e => by have := hlow x e; have := hM.lo x hx; omega), hO7, (hM.push.below hb0).kept hk (fun x hx e => hM.ap x e hx), ?_, hM.lo, (hM.bl.alloc (Nat.le_trans hB hM.bl.size) _).trans (hk.below (fun x hx => Nat.le_trans hB (hlow x hx)) (by rw [hs7]; have := hM.bl.size; omega)), fun k cs hlt2 hb => ((hM.fr k cs hlt2 hb).alloc_ _).kept hk (fun e => by have := hlow k e; omega)⟩
                  refine fun x hx => ?_
                  rcases hv7 with e | e
                  · rw [e] at hx; exact hM.ap x hx
                  · rw [e] at hx
                    cases hx
                    intro h
                    obtain ⟨-, cs, hcs⟩ := hM.push.own_lt h
                    have := hcs.size
                    omega
                clear hO7 hg7 hv7
                refine wp_worldT (fun wx => RestAt w wx B w.heap.size n t A K ⟨g', upd S.ac i (some c'), (S.pop ++ [c'.pp]), S.push⟩ v7 (.slice A6 S.push.length c6)) hM2 ?_
                clear hM2 CE CO CV HM dk dv4 lt1 lta lty d2 d8
                intro wz hM4
                obtain ⟨wp, hwp⟩ : ∃ x, wz.drew = x := ⟨_, rfl⟩
                have d2 : wp.cell? ⟨t, 2 + i, none⟩ = some (.pointer (some ⟨a, 0, none⟩)) := by rw [← hwp, ← hM4.t]; have := hM4.tm.ta hlt; rw [show (⟨g', upd S.ac i (some c'), (S.pop ++ [c'.pp]), S.push⟩ : Rs).ac i = some c' from upd_at _ _ _, HAD.out] at this; exact this
                have d8 : wp.cell? ⟨t, 8 + i, none⟩ = some (.pointer (some ⟨y, 0, none⟩)) := by rw [← hwp, ← hM4.t]; have := hM4.tm.ty hlt; rw [show (⟨g', upd S.ac i (some c'), (S.pop ++ [c'.pp]), S.push⟩ : Rs).ac i = some c' from upd_at _ _ _, HYD.out] at this; exact this
                have tf : ∀ i, wp.frozen? ⟨t, i, none⟩ = false := by rw [← hwp, ← hM4.t]; exact hM4.tm.drew_.tz
                have HP2 := Lib.hid hwp
                have HM4 := Lib.hid hM4
                clear hwp hM4
                refine wp_region_noPanic ?_
                refine wp_region_U (fun w' => w' = wp) [] [7] (by kernel_rfl) (HP2.out) ?_
                intro hsh0
                skip
                refine anyU_take 20 (i := 0) (v := ?_) rfl (by kernel_rfl) (by kernel_rfl) (by kernel_rfl) (by kernel_rfl) (fun _ _ _ h => h) (by assumption) (YieldsS.of_if (Or.inl ⟨by rfl, ?_⟩)) ?_
                rotate_left
                · (intro wS hSw; (try dsimp only at hSw); subst hSw; (first | (go_simp; done) | (go_simp; with_reducible rfl)))
                intro hsh1
                clear hsh0
                try simp only [Act.put, List.getElem_toArray, List.getElem_cons_zero, List.getElem_cons_succ, List.setIfInBounds_toArray, List.set_cons_zero, List.set_cons_succ]
                refine anyU_take 20 (i := 1) (v := ?_) rfl (by kernel_rfl) (by kernel_rfl) (by kernel_rfl) (by kernel_rfl) (fun _ _ _ h => h) (by assumption) (YieldsS.of_if (Or.inl ⟨by rfl, ?_⟩)) ?_
                rotate_left
                · (intro wS hSw; (try dsimp only at hSw); subst hSw; (first | (go_simp; done) | (go_simp; with_reducible rfl)))
                intro hsh2
                clear hsh1
                try simp only [Act.put, List.getElem_toArray, List.getElem_cons_zero, List.getElem_cons_succ, List.setIfInBounds_toArray, List.set_cons_zero, List.set_cons_succ]
                refine anyU_takeW (i := 2) (v := ?_) rfl (by kernel_rfl) (by kernel_rfl) (by kernel_rfl) (fun _ _ _ h => h) (by assumption) (Or.inl ⟨by rfl, ?_⟩) ?_
                rotate_left
                · (intro wS; (first | (go_simp; done) | (go_simp; with_reducible rfl)))
                intro hsh3
                clear hsh2
                try simp only [Act.put, List.getElem_toArray, List.getElem_cons_zero, List.getElem_cons_succ, List.setIfInBounds_toArray, List.set_cons_zero, List.set_cons_succ]
                refine anyU_takeW (i := 3) (v := ?_) rfl (by kernel_rfl) (by kernel_rfl) (by kernel_rfl) (fun _ _ _ h => h) (by assumption) (Or.inl ⟨by rfl, ?_⟩) ?_
                rotate_left
                · (intro wS; (first | (go_simp; done) | (go_simp; with_reducible rfl)))
                intro hsh4
                clear hsh3
                try simp only [Act.put, List.getElem_toArray, List.getElem_cons_zero, List.getElem_cons_succ, List.setIfInBounds_toArray, List.set_cons_zero, List.set_cons_succ]
                refine anyU_take 20 (i := 4) (v := ?_) rfl (by kernel_rfl) (by kernel_rfl) (by kernel_rfl) (by kernel_rfl) (fun _ _ _ h => h) (by assumption) (YieldsS.of_if (Or.inl ⟨by rfl, ?_⟩)) ?_
                rotate_left
                · (intro wS hSw; (try dsimp only at hSw); subst hSw; (first | (go_simp; done) | (go_simp; with_reducible rfl)))
                intro hsh5
                clear hsh4
                try simp only [Act.put, List.getElem_toArray, List.getElem_cons_zero, List.getElem_cons_succ, List.setIfInBounds_toArray, List.set_cons_zero, List.set_cons_succ]
                refine anyU_take 20 (i := 5) (v := ?_) rfl (by kernel_rfl) (by kernel_rfl) (by kernel_rfl) (by kernel_rfl) (fun _ _ _ h => h) (by assumption) (YieldsS.of_if (Or.inl ⟨by rfl, ?_⟩)) ?_
                rotate_left
                · (intro wS hSw; (try dsimp only at hSw); subst hSw; (first | (go_simp; done) | (go_simp; with_reducible rfl)))
                intro hsh6
                clear hsh5
                try simp only [Act.put, List.getElem_toArray, List.getElem_cons_zero, List.getElem_cons_succ, List.setIfInBounds_toArray, List.set_cons_zero, List.set_cons_succ]
                refine anyU_take 20 (i := 6) (v := ?_) rfl (by kernel_rfl) (by kernel_rfl) (by kernel_rfl) (by kernel_rfl) (fun _ _ _ h => h) (by assumption) (YieldsS.of_if (Or.inl ⟨by rfl, ?_⟩)) ?_
                rotate_left
                · (intro wS hSw; (try dsimp only at hSw); subst hSw; (first | (go_simp; done) | (go_simp; with_reducible rfl)))
                intro hsh7
                clear hsh6
                try simp only [Act.put, List.getElem_toArray, List.getElem_cons_zero, List.getElem_cons_succ, List.setIfInBounds_toArray, List.set_cons_zero, List.set_cons_succ]
                refine anyU_takeW (i := 8) (v := ?_) rfl (by kernel_rfl) (by kernel_rfl) (by kernel_rfl) (fun _ _ _ h => h) (by assumption) (Or.inl ⟨by rfl, ?_⟩) ?_
                rotate_left
                · (intro wS; (first | (go_simp; done) | (go_simp; with_reducible rfl)))
                intro hsh8
                clear hsh7
                try simp only [Act.put, List.getElem_toArray, List.getElem_cons_zero, List.getElem_cons_succ, List.setIfInBounds_toArray, List.set_cons_zero, List.set_cons_succ]
                refine anyU_takeW (i := 9) (v := ?_) rfl (by kernel_rfl) (by kernel_rfl) (by kernel_rfl) (fun _ _ _ h => h) (by assumption) (Or.inl ⟨by rfl, ?_⟩) ?_
                rotate_left
                · (intro wS; (first | (go_simp; done) | (go_simp; with_reducible rfl)))
                intro hsh9
                clear hsh8
                try simp only [Act.put, List.getElem_toArray, List.getElem_cons_zero, List.getElem_cons_succ, List.setIfInBounds_toArray, List.set_cons_zero, List.set_cons_succ]
                refine anyU_last (i := 7) (by kernel_rfl) (by kernel_rfl) (fun wS hSw _ => ?_)
                refine one_op rfl (by rfl) ?_
                unfold Oper.wp
                subst hSw
                go_simp
                refine any_one (i := 10) (by kernel_rfl) rfl (by rfl) ?_
                unfold Oper.wp
                go_simp
                refine any_one (i := 11) (by kernel_rfl) rfl (by rfl) ?_
                unfold Oper.wp
                go_simp
                refine any_done (by kernel_rfl) ?_ _
                refine NoPanic.normal ?_
                go_wp2
                go_roundw
                case measure => simp [intOf]; omega
                case rel =>
                  refine ⟨m + 1, by omega, by go_num, ?_⟩
                  have hM := HM4.out
                  have e1 : rsStep n K S i c = ⟨g', upd S.ac i none, (S.pop ++ [c'.pp]), S.push⟩ := by
                    unfold rsStep
                    rw [HCC.out, HGG.out, if_pos hE, HKI.out, if_pos ⟨h1, hk2⟩, if_neg (fun h => h.2 hk2)]
                  rw [HGO.out, e1]
                  have hk : Kept (fun x => x = t) wz ((wS.setCell ⟨t, 2 + i, none⟩ (.pointer none)).setCell ⟨t, 8 + i, none⟩ (.pointer none)) := by
                    rw [← HP2.out]
                    exact (((Kept.refl (fun x => x = t) wz).drew_).set_ (.inl rfl) _).set_ (.inl rfl) _
                  have hcl := hM.tm.drew_.clear hlt
                  rw [hM.t, HP2.out, show (⟨g', upd S.ac i (some c'), (S.pop ++ [c'.pp]), S.push⟩ : Rs).ac = upd S.ac i (some c') from rfl, upd_upd'] at hcl
                  have lot : t < w.heap.size := by rw [← hM.t]; exact hM.lo _ (.inl rfl)
                  have hlo : ∀ k, TOwn A (upd S.ac i none) k → k < w.heap.size := fun k hk => hM.lo k (TOwn.wide hk)
                  exact ⟨hM.t, hcl, hM.pop.kept hk (fun x hx e => by have := (hM.pop.own_lt hx).1; omega), hM.push.kept hk (fun x hx e => by have := (hM.push.own_lt hx).1; omega), hM.ap, hlo, hM.bl.trans (hk.below (fun x e => by rw [e, ← hM.t]; exact hM.tm.low _ (.inl rfl)) (Nat.le_trans hB hM.bl.size)), fun k cs hlt2 hb => (hM.fr k cs hlt2 hb).kept hk (fun e => by obtain ⟨ts, hts⟩ := hM.tm.tb; rw [hM.t] at hts; exact (hM.fr k cs hlt2 hb).other hts (by decide) e)⟩
              · have hk2b : (ki == 2) = false := by simpa using hk2
                have hdv : dv ki c' = c'.pu := if_pos (by rcases HKC.out with ⟨e, -, -⟩ | ⟨e, -, -⟩ <;> rw [HKI.out] at e; exact e; exact absurd e hk2)
                rw [hdv] at dv4
                clear hdv
                go_upto_region 15 with (first
                  | (go_at_call 20; refine CE.out.mono ?_; rintro e w6 ⟨rfl, rfl⟩; rw [hE])
                  | (go_at_call 21; refine CO.out.mono ?_; rintro e w6 ⟨rfl, rfl⟩; rw [h1b])
                  | (at_builtin; refine wpList_u1 (z := c'.pu) (g := wx.heap.size) Try.underlying29 rfl (.tmp 37) (.tmp 47) rfl rfl rfl (HM.out.push.below ((Below.refl _ _).alloc (Nat.le_refl _) _)) (Blk.made _ _ _) hl6 (by have := HM.out.bl.size; simp; omega) ?_; intro v7 w7 hO7 hg7 hv7))
                have hM2 : RestAt w w7 B w.heap.size n t A K ⟨g', upd S.ac i (some c'), S.pop, (S.push ++ [c'.pu])⟩ (.slice A5 S.pop.length c5) v7 := by
                  have hM := HM.out
                  have hb0 := (Below.refl wx.heap.size wx).alloc (Nat.le_refl _) (.cells #[.int .u64 (c'.pu)] 33)
                  have hs7 : (wx.alloc (.cells #[.int .u64 (c'.pu)] 33)).heap.size = wx.heap.size + 1 := by simp
                  rw [hs7] at hv7
                  have hk := (Kept.refl (fun x => ((.slice A6 S.push.length c6) : Value).ownBlock = some x) (wx.alloc (.cells #[.int .u64 (c'.pu)] 33))).grown hg7 (fun x hx => .inl hx)
                  have hlow : ∀ x, ((.slice A6 S.push.length c6) : Value).ownBlock = some x → w.heap.size ≤ x := fun x hx => (hM.push.own_lt hx).1
                  refine ⟨hM.t, (hM.tm.alloc_ _).kept hk (fun x hx e => by have := hlow x e; have := hM.lo x hx; omega), (hM.pop.below hb0).kept hk (fun x hx e => hM.ap x hx e), hO7, ?_, hM.lo, (hM.bl.alloc (Nat.le_trans hB hM.bl.size) _).trans (hk.below (fun x hx => Nat.le_trans hB (hlow x hx)) (by rw [hs7]; have := hM.bl.size; omega)), fun k cs hlt2 hb => ((hM.fr k cs hlt2 hb).alloc_ _).kept hk (fun e => by have := hlow k e; omega)⟩
                  refine fun x hx => ?_
                  rcases hv7 with e | e
                  · rw [e]; exact hM.ap x hx
                  · rw [e]
                    intro h
                    cases h
                    obtain ⟨-, cs, hcs⟩ := hM.pop.own_lt hx
                    have := hcs.size
                    omega
                clear hO7 hg7 hv7
                refine wp_worldT (fun wx => RestAt w wx B w.heap.size n t A K ⟨g', upd S.ac i (some c'), S.pop, (S.push ++ [c'.pu])⟩ (.slice A5 S.pop.length c5) v7) hM2 ?_
                clear hM2 CE CO CV HM dk dv4 lt1 lta lty d2 d8
                intro wz hM4
                obtain ⟨wp, hwp⟩ : ∃ x, wz.drew = x := ⟨_, rfl⟩
                have d2 : wp.cell? ⟨t, 2 + i, none⟩ = some (.pointer (some ⟨a, 0, none⟩)) := by rw [← hwp, ← hM4.t]; have := hM4.tm.ta hlt; rw [show (⟨g', upd S.ac i (some c'), S.pop, (S.push ++ [c'.pu])⟩ : Rs).ac i = some c' from upd_at _ _ _, HAD.out] at this; exact this
                have d8 : wp.cell? ⟨t, 8 + i, none⟩ = some (.pointer (some ⟨y, 0, none⟩)) := by rw [← hwp, ← hM4.t]; have := hM4.tm.ty hlt; rw [show (⟨g', upd S.ac i (some c'), S.pop, (S.push ++ [c'.pu])⟩ : Rs).ac i = some c' from upd_at _ _ _, HYD.out] at this; exact this
                have tf : ∀ i, wp.frozen? ⟨t, i, none⟩ = false := by rw [← hwp, ← hM4.t]; exact hM4.tm.drew_.tz
                have HP2 := Lib.hid hwp
                have HM4 := Lib.hid hM4
                clear hwp hM4
                refine wp_region_noPanic ?_
                refine wp_region_U (fun w' => w' = wp) [] [7] (by kernel_rfl) (HP2.out) ?_
                intro hsh0
                skip
                refine anyU_take 20 (i := 0) (v := ?_) rfl (by kernel_rfl) (by kernel_rfl) (by kernel_rfl) (by kernel_rfl) (fun _ _ _ h => h) (by assumption) (YieldsS.of_if (Or.inl ⟨by rfl, ?_⟩)) ?_
                rotate_left
                · (intro wS hSw; (try dsimp only at hSw); subst hSw; (first | (go_simp; done) | (go_simp; with_reducible rfl)))
                intro hsh1
                clear hsh0
                try simp only [Act.put, List.getElem_toArray, List.getElem_cons_zero, List.getElem_cons_succ, List.setIfInBounds_toArray, List.set_cons_zero, List.set_cons_succ]
                refine anyU_take 20 (i := 1) (v := ?_) rfl (by kernel_rfl) (by kernel_rfl) (by kernel_rfl) (by kernel_rfl) (fun _ _ _ h => h) (by assumption) (YieldsS.of_if (Or.inl ⟨by rfl, ?_⟩)) ?_
                rotate_left
                · (intro wS hSw; (try dsimp only at hSw); subst hSw; (first | (go_simp; done) | (go_simp; with_reducible rfl)))
                intro hsh2
                clear hsh1
                try simp only [Act.put, List.getElem_toArray, List.getElem_cons_zero, List.getElem_cons_succ, List.setIfInBounds_toArray, List.set_cons_zero, List.set_cons_succ]
                refine anyU_takeW (i := 2) (v := ?_) rfl (by kernel_rfl) (by kernel_rfl) (by kernel_rfl) (fun _ _ _ h => h) (by assumption) (Or.inl ⟨by rfl, ?_⟩) ?_
                rotate_left
                · (intro wS; (first | (go_simp; done) | (go_simp; with_reducible rfl)))
                intro hsh3
                clear hsh2
                try simp only [Act.put, List.getElem_toArray, List.getElem_cons_zero, List.getElem_cons_succ, List.setIfInBounds_toArray, List.set_cons_zero, List.set_cons_succ]
                refine anyU_takeW (i := 3) (v := ?_) rfl (by kernel_rfl) (by kernel_rfl) (by kernel_rfl) (fun _ _ _ h => h) (by assumption) (Or.inl ⟨by rfl, ?_⟩) ?_
                rotate_left
                · (intro wS; (first | (go_simp; done) | (go_simp; with_reducible rfl)))
                intro hsh4
                clear hsh3
                try simp only [Act.put, List.getElem_toArray, List.getElem_cons_zero, List.getElem_cons_succ, List.setIfInBounds_toArray, List.set_cons_zero, List.set_cons_succ]
                refine anyU_take 20 (i := 4) (v := ?_) rfl (by kernel_rfl) (by kernel_rfl) (by kernel_rfl) (by kernel_rfl) (fun _ _ _ h => h) (by assumption) (YieldsS.of_if (Or.inl ⟨by rfl, ?_⟩)) ?_
                rotate_left
                · (intro wS hSw; (try dsimp only at hSw); subst hSw; (first | (go_simp; done) | (go_simp; with_reducible rfl)))
                intro hsh5
                clear hsh4
                try simp only [Act.put, List.getElem_toArray, List.getElem_cons_zero, List.getElem_cons_succ, List.setIfInBounds_toArray, List.set_cons_zero, List.set_cons_succ]
                refine anyU_take 20 (i := 5) (v := ?_) rfl (by kernel_rfl) (by kernel_rfl) (by kernel_rfl) (by kernel_rfl) (fun _ _ _ h => h) (by assumption) (YieldsS.of_if (Or.inl ⟨by rfl, ?_⟩)) ?_
                rotate_left
                · (intro wS hSw; (try dsimp only at hSw); subst hSw; (first | (go_simp; done) | (go_simp; with_reducible rfl)))
                intro hsh6
                clear hsh5
                try simp only [Act.put, List.getElem_toArray, List.getElem_cons_zero, List.getElem_cons_succ, List.setIfInBounds_toArray, List.set_cons_zero, List.set_cons_succ]
                refine anyU_take 20 (i := 6) (v := ?_) rfl (by kernel_rfl) (by kernel_rfl) (by kernel_rfl) (by kernel_rfl) (fun _ _ _ h => h) (by assumption) (YieldsS.of_if (Or.inl ⟨by rfl, ?_⟩)) ?_
                rotate_left
                · (intro wS hSw; (try dsimp only at hSw); subst hSw; (first | (go_simp; done) | (go_simp; with_reducible rfl)))
                intro hsh7
                clear hsh6
                try simp only [Act.put, List.getElem_toArray, List.getElem_cons_zero, List.getElem_cons_succ, List.setIfInBounds_toArray, List.set_cons_zero, List.set_cons_succ]
                refine anyU_takeW (i := 8) (v := ?_) rfl (by kernel_rfl) (by kernel_rfl) (by kernel_rfl) (fun _ _ _ h => h) (by assumption) (Or.inl ⟨by rfl, ?_⟩) ?_
                rotate_left
                · (intro wS; (first | (go_simp; done) | (go_simp; with_reducible rfl)))
                intro hsh8
                clear hsh7
                try simp only [Act.put, List.getElem_toArray, List.getElem_cons_zero, List.getElem_cons_succ, List.setIfInBounds_toArray, List.set_cons_zero, List.set_cons_succ]
                refine anyU_takeW (i := 9) (v := ?_) rfl (by kernel_rfl) (by kernel_rfl) (by kernel_rfl) (fun _ _ _ h => h) (by assumption) (Or.inl ⟨by rfl, ?_⟩) ?_
                rotate_left
                · (intro wS; (first | (go_simp; done) | (go_simp; with_reducible rfl)))
                intro hsh9
                clear hsh8
                try simp only [Act.put, List.getElem_toArray, List.getElem_cons_zero, List.getElem_cons_succ, List.setIfInBounds_toArray, List.set_cons_zero, List.set_cons_succ]
                refine anyU_last (i := 7) (by kernel_rfl) (by kernel_rfl) (fun wS hSw _ => ?_)
                refine one_op rfl (by rfl) ?_
                unfold Oper.wp
                subst hSw
                go_simp
                refine any_one (i := 10) (by kernel_rfl) rfl (by rfl) ?_
                unfold Oper.wp
                go_simp
                refine any_one (i := 11) (by kernel_rfl) rfl (by rfl) ?_
                unfold Oper.wp
                go_simp
                refine any_done (by kernel_rfl) ?_ _
                refine NoPanic.normal ?_
                go_wp2
                go_roundw
                case measure => simp [intOf]; omega
                case rel =>
                  refine ⟨m + 1, by omega, by go_num, ?_⟩
                  have hM := HM4.out
                  have e1 : rsStep n K S i c = ⟨g', upd S.ac i none, S.pop, (S.push ++ [c'.pu])⟩ := by
                    unfold rsStep
                    rw [HCC.out, HGG.out, if_pos hE, HKI.out, if_neg (fun h => hk2 h.2), if_pos ⟨h1, hk2⟩]
                  rw [HGO.out, e1]
                  have hk : Kept (fun x => x = t) wz ((wS.setCell ⟨t, 2 + i, none⟩ (.pointer none)).setCell ⟨t, 8 + i, none⟩ (.pointer none)) := by
                    rw [← HP2.out]
                    exact (((Kept.refl (fun x => x = t) wz).drew_).set_ (.inl rfl) _).set_ (.inl rfl) _
                  have hcl := hM.tm.drew_.clear hlt
                  rw [hM.t, HP2.out, show (⟨g', upd S.ac i (some c'), S.pop, (S.push ++ [c'.pu])⟩ : Rs).ac = upd S.ac i (some c') from rfl, upd_upd'] at hcl
                  have lot : t < w.heap.size := by rw [← hM.t]; exact hM.lo _ (.inl rfl)
                  have hlo : ∀ k, TOwn A (upd S.ac i none) k → k < w.heap.size := fun k hk => hM.lo k (TOwn.wide hk)
                  exact ⟨hM.t, hcl, hM.pop.kept hk (fun x hx e => by have := (hM.pop.own_lt hx).1; omega), hM.push.kept hk (fun x hx e => by have := (hM.push.own_lt hx).1; omega), hM.ap, hlo, hM.bl.trans (hk.below (fun x e => by rw [e, ← hM.t]; exact hM.tm.low _ (.inl rfl)) (Nat.le_trans hB hM.bl.size)), fun k cs hlt2 hb => (hM.fr k cs hlt2 hb).kept hk (fun e => by obtain ⟨ts, hts⟩ := hM.tm.tb; rw [hM.t] at hts; exact (hM.fr k cs hlt2 hb).other hts (by decide) e)⟩
            · have h1b : (c'.nx == 1) = false := by simpa using h1
              go_upto_region 15 with (first
                | (go_at_call 20; refine CE.out.mono ?_; rintro e w6 ⟨rfl, rfl⟩; rw [hE])
                | (go_at_call 21; refine CO.out.mono ?_; rintro e w6 ⟨rfl, rfl⟩; rw [h1b]))
              have hM2 := HM.out
              refine wp_worldT (fun wx => RestAt w wx B w.heap.size n t A K ⟨g', upd S.ac i (some c'), S.pop, S.push⟩ (.slice A5 S.pop.length c5) (.slice A6 S.push.length c6)) hM2 ?_
              clear hM2 CE CO CV HM dk dv4 lt1 lta lty d2 d8
              intro wz hM4
              obtain ⟨wp, hwp⟩ : ∃ x, wz.drew = x := ⟨_, rfl⟩
              have d2 : wp.cell? ⟨t, 2 + i, none⟩ = some (.pointer (some ⟨a, 0, none⟩)) := by rw [← hwp, ← hM4.t]; have := hM4.tm.ta hlt; rw [show (⟨g', upd S.ac i (some c'), S.pop, S.push⟩ : Rs).ac i = some c' from upd_at _ _ _, HAD.out] at this; exact this
              have d8 : wp.cell? ⟨t, 8 + i, none⟩ = some (.pointer (some ⟨y, 0, none⟩)) := by rw [← hwp, ← hM4.t]; have := hM4.tm.ty hlt; rw [show (⟨g', upd S.ac i (some c'), S.pop, S.push⟩ : Rs).ac i = some c' from upd_at _ _ _, HYD.out] at this; exact this
              have tf : ∀ i, wp.frozen? ⟨t, i, none⟩ = false := by rw [← hwp, ← hM4.t]; exact hM4.tm.drew_.tz
              have HP2 := Lib.hid hwp
              have HM4 := Lib.hid hM4
              clear hwp hM4
              refine wp_region_noPanic ?_
              refine wp_region_U (fun w' => w' = wp) [] [7] (by kernel_rfl) (HP2.out) ?_
              intro hsh0
              skip
              refine anyU_take 20 (i := 0) (v := ?_) rfl (by kernel_rfl) (by kernel_rfl) (by kernel_rfl) (by kernel_rfl) (fun _ _ _ h => h) (by assumption) (YieldsS.of_if (Or.inl ⟨by rfl, ?_⟩)) ?_
              rotate_left
              · (intro wS hSw; (try dsimp only at hSw); subst hSw; (first | (go_simp; done) | (go_simp; with_reducible rfl)))
              intro hsh1
              clear hsh0
              try simp only [Act.put, List.getElem_toArray, List.getElem_cons_zero, List.getElem_cons_succ, List.setIfInBounds_toArray, List.set_cons_zero, List.set_cons_succ]
              refine anyU_take 20 (i := 1) (v := ?_) rfl (by kernel_rfl) (by kernel_rfl) (by kernel_rfl) (by kernel_rfl) (fun _ _ _ h => h) (by assumption) (YieldsS.of_if (Or.inl ⟨by rfl, ?_⟩)) ?_
              rotate_left
              · (intro wS hSw; (try dsimp only at hSw); subst hSw; (first | (go_simp; done) | (go_simp; with_reducible rfl)))
              intro hsh2
              clear hsh1
              try simp only [Act.put, List.getElem_toArray, List.getElem_cons_zero, List.getElem_cons_succ, List.setIfInBounds_toArray, List.set_cons_zero, List.set_cons_succ]
              refine anyU_takeW (i := 2) (v := ?_) rfl (by kernel_rfl) (by kernel_rfl) (by kernel_rfl) (fun _ _ _ h => h) (by assumption) (Or.inl ⟨by rfl, ?_⟩) ?_
              rotate_left
              · (intro wS; (first | (go_simp; done) | (go_simp; with_reducible rfl)))
              intro hsh3
              clear hsh2
              try simp only [Act.put, List.getElem_toArray, List.getElem_cons_zero, List.getElem_cons_succ, List.setIfInBounds_toArray, List.set_cons_zero, List.set_cons_succ]
              refine anyU_takeW (i := 3) (v := ?_) rfl (by kernel_rfl) (by kernel_rfl) (by kernel_rfl) (fun _ _ _ h => h) (by assumption) (Or.inl ⟨by rfl, ?_⟩) ?_
              rotate_left
              · (intro wS; (first | (go_simp; done) | (go_simp; with_reducible rfl)))
              intro hsh4
              clear hsh3
              try simp only [Act.put, List.getElem_toArray, List.getElem_cons_zero, List.getElem_cons_succ, List.setIfInBounds_toArray, List.set_cons_zero, List.set_cons_succ]
              refine anyU_take 20 (i := 4) (v := ?_) rfl (by kernel_rfl) (by kernel_rfl) (by kernel_rfl) (by kernel_rfl) (fun _ _ _ h => h) (by assumption) (YieldsS.of_if (Or.inl ⟨by rfl, ?_⟩)) ?_
              rotate_left
              · (intro wS hSw; (try dsimp only at hSw); subst hSw; (first | (go_simp; done) | (go_simp; with_reducible rfl)))
              intro hsh5
              clear hsh4
              try simp only [Act.put, List.getElem_toArray, List.getElem_cons_zero, List.getElem_cons_succ, List.setIfInBounds_toArray, List.set_cons_zero, List.set_cons_succ]
              refine anyU_take 20 (i := 5) (v := ?_) rfl (by kernel_rfl) (by kernel_rfl) (by kernel_rfl) (by kernel_rfl) (fun _ _ _ h => h) (by assumption) (YieldsS.of_if (Or.inl ⟨by rfl, ?_⟩)) ?_
              rotate_left
              · (intro wS hSw; (try dsimp only at hSw); subst hSw; (first | (go_simp; done) | (go_simp; with_reducible rfl)))
              intro hsh6
              clear hsh5
              try simp only [Act.put, List.getElem_toArray, List.getElem_cons_zero, List.getElem_cons_succ, List.setIfInBounds_toArray, List.set_cons_zero, List.set_cons_succ]
              refine anyU_take 20 (i := 6) (v := ?_) rfl (by kernel_rfl) (by kernel_rfl) (by kernel_rfl) (by kernel_rfl) (fun _ _ _ h => h) (by assumption) (YieldsS.of_if (Or.inl ⟨by rfl, ?_⟩)) ?_
              rotate_left
              · (intro wS hSw; (try dsimp only at hSw); subst hSw; (first | (go_simp; done) | (go_simp; with_reducible rfl)))
              intro hsh7
              clear hsh6
              try simp only [Act.put, List.getElem_toArray, List.getElem_cons_zero, List.getElem_cons_succ, List.setIfInBounds_toArray, List.set_cons_zero, List.set_cons_succ]
              refine anyU_takeW (i := 8) (v := ?_) rfl (by kernel_rfl) (by kernel_rfl) (by kernel_rfl) (fun _ _ _ h => h) (by assumption) (Or.inl ⟨by rfl, ?_⟩) ?_
              rotate_left
              · (intro wS; (first | (go_simp; done) | (go_simp; with_reducible rfl)))
              intro hsh8
              clear hsh7
              try simp only [Act.put, List.getElem_toArray, List.getElem_cons_zero, List.getElem_cons_succ, List.setIfInBounds_toArray, List.set_cons_zero, List.set_cons_succ]
              refine anyU_takeW (i := 9) (v := ?_) rfl (by kernel_rfl) (by kernel_rfl) (by kernel_rfl) (fun _ _ _ h => h) (by assumption) (Or.inl ⟨by rfl, ?_⟩) ?_
              rotate_left
              · (intro wS; (first | (go_simp; done) | (go_simp; with_reducible rfl)))
              intro hsh9
              clear hsh8
              try simp only [Act.put, List.getElem_toArray, List.getElem_cons_zero, List.getElem_cons_succ, List.setIfInBounds_toArray, List.set_cons_zero, List.set_cons_succ]
              refine anyU_last (i := 7) (by kernel_rfl) (by kernel_rfl) (fun wS hSw _ => ?_)
              refine one_op rfl (by rfl) ?_
              unfold Oper.wp
              subst hSw
              go_simp
              refine any_one (i := 10) (by kernel_rfl) rfl (by rfl) ?_
              unfold Oper.wp
              go_simp
              refine any_one (i := 11) (by kernel_rfl) rfl (by rfl) ?_
              unfold Oper.wp
              go_simp
              refine any_done (by kernel_rfl) ?_ _
              refine NoPanic.normal ?_
              go_wp2
              go_roundw
              case measure => simp [intOf]; omega
              case rel =>
                refine ⟨m + 1, by omega, by go_num, ?_⟩
                have hM := HM4.out
                have e1 : rsStep n K S i c = ⟨g', upd S.ac i none, S.pop, S.push⟩ := by
                  unfold rsStep
                  rw [HCC.out, HGG.out, if_pos hE, HKI.out, if_neg (fun h => h1 h.1), if_neg (fun h => h1 h.1)]
                rw [HGO.out, e1]
                have hk : Kept (fun x => x = t) wz ((wS.setCell ⟨t, 2 + i, none⟩ (.pointer none)).setCell ⟨t, 8 + i, none⟩ (.pointer none)) := by
                  rw [← HP2.out]
                  exact (((Kept.refl (fun x => x = t) wz).drew_).set_ (.inl rfl) _).set_ (.inl rfl) _
                have hcl := hM.tm.drew_.clear hlt
                rw [hM.t, HP2.out, show (⟨g', upd S.ac i (some c'), S.pop, S.push⟩ : Rs).ac = upd S.ac i (some c') from rfl, upd_upd'] at hcl
                have lot : t < w.heap.size := by rw [← hM.t]; exact hM.lo _ (.inl rfl)
                have hlo : ∀ k, TOwn A (upd S.ac i none) k → k < w.heap.size := fun k hk => hM.lo k (TOwn.wide hk)
                exact ⟨hM.t, hcl, hM.pop.kept hk (fun x hx e => by have := (hM.pop.own_lt hx).1; omega), hM.push.kept hk (fun x hx e => by have := (hM.push.own_lt hx).1; omega), hM.ap, hlo, hM.bl.trans (hk.below (fun x e => by rw [e, ← hM.t]; exact hM.tm.low _ (.inl rfl)) (Nat.le_trans hB hM.bl.size)), fun k cs hlt2 hb => (hM.fr k cs hlt2 hb).kept hk (fun e => by obtain ⟨ts, hts⟩ := hM.tm.tb; rw [hM.t] at hts; exact (hM.fr k cs hlt2 hb).other hts (by decide) e)⟩
          · have hEf : endE c'.nx = false := by simpa using hE
            go_wp2_with (go_at_call 20; refine CE.out.mono ?_; rintro e w6 ⟨rfl, rfl⟩; rw [hEf])
            go_roundw
            case measure => simp [intOf]; omega
            case rel =>
              refine ⟨m + 1, by omega, by go_num, ?_⟩
              rw [HGO.out]
              unfold rsStep
              rw [HCC.out, HGG.out, if_neg hE]
              exact HM.out
    · have e6 : i = 6 := by omega
      subst e6
      obtain ⟨A5, c5, e5, -⟩ := hR.pop.rd
      obtain ⟨A6, c6, e6, -⟩ := hR.push.rd
      subst e5 e6
      have HR := Lib.hid hR
      clear hR
      go_wp2
      go_ret3
      exact ⟨_, _, rfl, HR.out⟩
end Go.Proofs.Ytbenpnecjmpcbaa
