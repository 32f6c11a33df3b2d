/- Rows of calls; a script written as bytes, and read again. -/
import Derived.Test.YtmnkmnnngfgbgaaClk
import Derived.Test.YtmnkmnnngfgbgaaOst4
namespace Go.Proofs.Ytmnkmnnngfgbgaa
open Go.RowKit Go.ChangeShapes Go.WideShapes Go.Deep
set_option linter.unusedVariables false
set_option linter.unusedSimpArgs false
instance : Inhabited OpV := ⟨op0⟩
def OkQ (L : List OpV) : Prop := ∀ o ∈ L, o.ok
def flatQ (L : List OpV) : List Value := L.flatMap opRow
theorem opRow_len (o : OpV) : (opRow o).length = 4 := rfl
theorem flatQ_len (L : List OpV) : (flatQ L).length = L.length * 4 := by
  unfold flatQ
  induction L with
  | nil => rfl
  | cons a l ih => rw [List.flatMap_cons, List.length_append, ih, List.length_cons, opRow_len]; omega
theorem flatQ_get : ∀ (L : List OpV) (i j : Nat), i < L.length → j < 4 → (flatQ L)[i * 4 + j]? = (opRow L[i]!)[j]?
  | [], i, j, hi, _ => by simp at hi
  | a :: L, 0, j, _, hj => by
    unfold flatQ
    rw [List.flatMap_cons, List.getElem?_append_left (by rw [opRow_len]; omega)]
    simp
  | a :: L, i + 1, j, hi, hj => by
    have h := flatQ_get L i j (by simpa using hi) hj
    unfold flatQ at h ⊢
    rw [List.flatMap_cons, List.getElem?_append_right (by rw [opRow_len]; omega)]
    rw [show (i + 1) * 4 + j - (opRow a).length = i * 4 + j from by rw [opRow_len]; omega, h]
    simp
theorem flatQ_one (e : OpV) : flatQ [e] = opRow e := by unfold flatQ; simp
theorem flatQ_append (l l' : List OpV) : flatQ (l ++ l') = flatQ l ++ flatQ l' := by unfold flatQ; simp
theorem op_one {o : OpV} : ∀ u ∈ opRow o, u.oneCell' = true := by
  intro u hu
  unfold opRow at hu
  simp only [List.mem_cons, List.not_mem_nil, or_false] at hu
  rcases hu with rfl | rfl | rfl | rfl <;> rfl
abbrev OwQ (w : World) (base : Nat) (v : Value) (L : List OpV) : Prop := w.ownsRow base 33 4 v L.length (flatQ L)
abbrev RdQ (w : World) (B : Nat) (A : Option Addr) (L : List OpV) : Prop := SeqAt w B A L.length 4 fun i => opRow L[i]!
section
variable {w w' : World} {base B : Nat} {v : Value} {L L' : List OpV}
theorem OwQ.nil_ (w : World) (base : Nat) : OwQ w base (.slice none 0 0) [] := World.ownsRow_nil _ _ _ _
theorem OwQ.below (h : OwQ w base v L) (hb : Below w.heap.size w w') : OwQ w' base v L :=
  own_kept h (Kept.of_below (own := fun _ => False) hb) (fun _ _ _ h => h)
theorem OwQ.rd (h : OwQ w base v L) : ∃ A c, v = .slice A L.length c ∧ RdQ w w.heap.size A L := by
  rcases h.2 with ⟨rfl, h0⟩ | ⟨g, cap, cur, rfl, hb, hg, h1, h2, h3, h4⟩
  · exact ⟨none, 0, by rw [h0], fun c => absurd c (by omega)⟩
  · have hb' : Blk w g 33 cur := hg
    have hx : ∀ j, j < L.length * 4 → cur[j]? = (flatQ L)[j]? := fun j hj => by
      rw [← h4, List.getElem?_take_of_lt hj, Array.getElem?_toList]
    exact ⟨_, cap, rfl, fun _ => ⟨g, 0, rfl, hb'.size, fun i hi k hk => by rw [Nat.zero_add, hb'.at_, hx _ (by omega), flatQ_get L i k hi hk]⟩⟩
theorem RdQ.cells {A : Option Addr} (h : RdQ w B A L) {i : Nat} (hi : i < L.length) : ∃ b off, A = some ⟨b, off, none⟩ ∧ b < B ∧
    w.cell? ⟨b, off + i * 4, none⟩ = some (.int .u8 (L[i]!).k) ∧ w.cell? ⟨b, off + i * 4 + 1, none⟩ = some (.int .i64 (L[i]!).t) ∧ w.cell? ⟨b, off + i * 4 + 2, none⟩ = some (.int .i64 (L[i]!).c) ∧ w.cell? ⟨b, off + i * 4 + 3, none⟩ = some (.int .i64 (L[i]!).n) := by
  obtain ⟨b, off, e, hb, hc⟩ := h (by omega)
  have := hc i hi
  exact ⟨b, off, e, hb, this 0 (by omega), this 1 (by omega), this 2 (by omega), this 3 (by omega)⟩
end
theorem opinfo : (Try.prog.info? 33).map (fun i => (i.zero, i.size, i.bytes)) = some (some op0.v, 4, 32) := by kernel_rfl
section
variable {w : World} {ops : Array Oper} {rest : List Oper} {o : Oper} {ac : Act} {Q : Exit → Act → World → Prop}
/-- One call more, in a walk. -/
theorem wpList_op (hgd : o.guard = none) (s x : Operand)
    (ho : o.op = .call { callee := .builtin .append, args := #[s, x], argTypes := #[48, 48] })
    {base g : Nat} {v : Value} {L : List OpV} {z : OpV} (hs : ac.eval s = v) (hx : ac.eval x = .slice (some ⟨g, 0, none⟩) 1 1) (hown : OwQ w base v L) (hg : Blk w g 33 (opRow z).toArray) (hl : L.length ≤ 1000) (hb : base ≤ w.heap.size)
    (h : ∀ v' w', OwQ w' base v' (L ++ [z]) → w.grownBy w' v.ownBlock → wpList Try.prog ops Q rest (ac.put o.dst v') w') : wpList Try.prog ops Q (o :: rest) ac w := by
  obtain ⟨i, hi, hz0, hz1, hz2⟩ := infk_of opinfo
  refine wpList_append_own_at w hgd s x 48 ho base 33 i op0.v 4 32 Try.underlying48 hi hz0 hz1 hz2 rfl (by decide) v L.length (flatQ L) hs hown ⟨g, 0, none⟩ 1 1 (opRow z) hx rfl (fun j u hj => ?_) op_one (by have := maxbig; omega) (by omega) hb ?_
  · rw [add_at, Nat.zero_add, hg.at_, List.getElem?_toArray, hj]
  · intro v' w' h1 h2 _ h3
    refine h v' w' ?_ h2
    show w'.ownsRow base 33 4 v' (L ++ [z]).length (flatQ (L ++ [z]))
    rw [flatQ_append, flatQ_one, List.length_append]
    exact h1
end
/-- A script's bytes. -/
def ES (L : List OpV) : List Int := L.flatMap OpV.enc
theorem ES_cons (o : OpV) (L : List OpV) : ES (o :: L) = o.enc ++ ES L := by simp [ES]
theorem ES_append (L M : List OpV) : ES (L ++ M) = ES L ++ ES M := by simp [ES]
theorem enc_len {o : OpV} (h : o.ok) : o.enc.length ≤ 31 := by
  have := encs_len _ (OpV.ok64 h)
  simp only [OpV.enc, OpV.ns, List.length_cons, List.length_nil] at this ⊢
  omega
theorem enc_pos (o : OpV) : 0 < o.enc.length := by simp [OpV.enc]
theorem ES_len : ∀ {L : List OpV}, OkQ L → (ES L).length ≤ L.length * 31
  | [], _ => by simp [ES]
  | o :: L, h => by
    rw [ES_cons, List.length_append, List.length_cons]
    have h1 := ES_len (L := L) fun x hx => h x (List.mem_cons_of_mem _ hx)
    have h2 := enc_len (h o (by simp))
    omega
theorem ES_split (L : List OpV) (j : Nat) : ES L = ES (L.take j) ++ ES (L.drop j) := by rw [← ES_append, List.take_append_drop]
theorem ES_mono (L : List OpV) {i j : Nat} (h : i ≤ j) : (ES (L.take i)).length ≤ (ES (L.take j)).length := by
  have : L.take j = L.take i ++ (L.take j).drop i := by
    conv => lhs; rw [← List.take_append_drop i (L.take j)]
    rw [List.take_take, Nat.min_eq_left h]
  rw [this, ES_append, List.length_append]
  omega
theorem take_succ_get (L : List OpV) {j : Nat} (h : j < L.length) : L.take (j + 1) = L.take j ++ [L[j]!] := by
  rw [List.take_add_one, List.getElem?_eq_getElem h, getElem!_pos L j h]; rfl
theorem drop_get (L : List OpV) {j : Nat} (h : j < L.length) : L.drop j = L[j]! :: L.drop (j + 1) := by
  rw [List.drop_eq_getElem_cons h, getElem!_pos L j h]
set_option maxRecDepth 100000 in
set_option maxHeartbeats 4000000 in
theorem script_any {w : World} {B c : Nat} {A : Option Addr} {L : List OpV} (h : RdQ w B A L) (hB : B ≤ w.heap.size) (hok : OkQ L) (hl : L.length ≤ 30) :
    Calls Try.prog 19 #[.slice A L.length c] w (NewP w (ES L)) := by
  have H := Lib.hid (show RdQ w w.heap.size A L from fun h0 => by obtain ⟨b, off, e, hb, hc⟩ := h h0; exact ⟨b, off, e, by omega, hc⟩)
  have HOK := Lib.hid hok
  obtain ⟨n, hn⟩ : ∃ n, L.length = n := ⟨_, rfl⟩
  have HN := Lib.hid hn
  rw [hn] at hl ⊢
  clear h hok hn
  go_enter Try.func19, Try.ntmps19
  go_wp2
  go_loopw [3, 8] (fun s3 s8 wr => ∃ j : Nat, j ≤ n ∧ s8 = .int .i64 (j : Int) ∧ OwK .u8 5 wr w.heap.size s3 (ES (L.take j)) ∧ Below w.heap.size w wr) (fun _ s _ => n - (intOf s).toNat)
  case atStart => exact ⟨0, Nat.zero_le _, rfl, OwK.nil_ _ _ _ _, Below.refl _ _⟩
  case round =>
    obtain ⟨j, hj, rfl, ho, hb⟩ := hrel
    by_cases hjn : j < n
    · have hjL : j < L.length := by rw [HN.out]; exact hjn
      obtain ⟨b, off, hA, hbB, q0, q1, q2, q3⟩ := RdQ.cells (SeqAt.below H.out hb) hjL
      subst hA
      obtain ⟨⟨yk, yt, yc, yn⟩, hy⟩ : ∃ y, L[j]! = y := ⟨_, rfl⟩
      have hyo : OpV.ok ⟨yk, yt, yc, yn⟩ := by rw [← hy, getElem!_pos L j hjL]; exact HOK.out _ (List.getElem_mem hjL)
      have htk := take_succ_get L hjL
      rw [hy] at q0 q1 q2 q3 htk
      simp only at q0 q1 q2 q3
      have hle : (ES (L.take j)).length ≤ 8000 := by
        have h1 := ES_len (L := L.take j) (fun x hx => HOK.out x (List.mem_of_mem_take hx))
        rw [List.length_take] at h1; omega
      have HO := Lib.hid ho
      have HB := Lib.hid hb
      have HY := Lib.hid hyo
      have HT := Lib.hid htk
      have HL := Lib.hid hle
      clear ho hb hy hyo htk hle
      have k0 : (0 : Int) ≤ (j : Int) := by omega
      go_wp2_with (go_at_call 25; refine (addop_any (base := w.heap.size) (v := u3) (L := ES (L.take j)) (o := ⟨yk, yt, yc, yn⟩) _ (.inl (HO.out.below ((Below.refl _ _).alloc (Nat.le_refl _) _))) (by have := HB.out.size; simp; omega) HY.out HL.out).mono ?_; rintro e wx ⟨v', rfl, hg, ho⟩; have HGX := Lib.hid (hg.alloc0 HB.out.size); have HOX := Lib.hid ho; clear hg ho)
      go_roundw
      case rel =>
        refine ⟨j + 1, by omega, by go_num, ?_, HB.out.trans HGX.out.below_⟩
        have h := HOX.out
        have e : ES (L.take (j + 1)) = ES (L.take j) ++ OpV.enc ⟨yk, yt, yc, yn⟩ := by rw [HT.out, ES_append]; simp [ES]
        rw [e]; exact h
      case measure => simp [intOf]; omega
    · obtain rfl : j = n := by omega
      go_wp2
      go_ret
      rw [← HN.out, List.take_length] at ho
      exact ⟨_, rfl, ho, hb⟩
end Go.Proofs.Ytmnkmnnngfgbgaa
