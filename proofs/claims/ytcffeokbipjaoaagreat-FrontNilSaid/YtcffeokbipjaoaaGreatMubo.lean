/- Texts of this claim, one behind the other: Fnm. -/
import Derived.Laws.MakeOwn
import Derived.Test.YtcffeokbipjaoaaGreatMubk
import Derived.Test.YtcffeokbipjaoaaGreatMubn
namespace Go.Proofs.YtcffeokbipjaoaaGreat
open Go.ChangeShapes Go.WideShapes Go.RowKit Go.Deep Kn
set_option linter.unusedVariables false
set_option linter.unusedSimpArgs false
set_option maxRecDepth 20000 in
set_option maxHeartbeats 2000000 in
theorem rnewg (n : Nat) (w : World) (n2 : 2 ≤ n) (n8 : n ≤ 64) (hand : bits BinOp.and IntKind.i64 (n : Int) ((n : Int) - 1) = 0) :
   Calls Tryz.prog 49 #[.int .i64 (n : Int)] w fun e w' => ∃ r s : Nat, e = .returned (.tuple #[.pointer (some ⟨r, 0, none⟩), .int .i64 0]) ∧ w.heap.size ≤ r ∧ w.heap.size ≤ s ∧ RingAt w' r s n ⟨0, 0, fun i => if i < n then i else 0, fun _ => 0⟩ ∧ Below w.heap.size w w' := by
 have hm := run_slots n (by omega)
 go_enter Tryz.func49, Tryz.ntmps49
 go_wp2
 go_loopw [31] (fun s31 wr => ∃ k : Nat, k ≤ n ∧ s31 = .int .i64 k ∧ RingAt wr (w.heap.size + 1) w.heap.size n ⟨0, 0, fun i => if i < k then i else 0, fun _ => 0⟩ ∧ Below w.heap.size w wr) (fun s _ => n - (intOf s).toNat)
 case atStart =>
   refine ⟨0, Nat.zero_le _, rfl, ⟨by omega, by omega, ?_, ⟨_, (Blk.made w _ _).alloc_ _, made_size _ _, fun i hi => ⟨?_, ?_⟩⟩⟩, ?_⟩
   · exact Blk.new_ (by simp)
   · rw [made_at _ _ (by omega) (by decide)]; simp [show i * 2 % 2 = 0 by omega]
   · rw [made_at _ _ (by omega) (by decide)]; simp [show (i * 2 + 1) % 2 = 1 by omega]
   · exact ((Below.refl _ w).alloc (Nat.le_refl _) _).alloc (by simp) _
 case round =>
   obtain ⟨k, hk, rfl, hs, hbr⟩ := hrel
   clear hm hand
   have s0 := hs.s0
   by_cases hlt : k < n
   · have q1 := hs.sq hlt
     have z1 := hs.zs (k * 2)
     have hw : IntKind.u64.wrap (k : Int) = (k : Int) := IntWalk.u64_in _ (by omega)
     have H := Lib.hid hs
     clear hs
     go_wp2_with (go_at_call 93; refine (astore _ _ _ _ _ q1 z1).mono ?_; rintro e w2 ⟨⟨v, rfl⟩, rfl⟩)
     go_roundw
     case rel =>
       refine ⟨k + 1, by omega, by go_num, ?_, hbr.setCell (p := ⟨w.heap.size, k * 2, none⟩) (Nat.le_refl _) _⟩
       have h2 := H.out.setS hlt k
       have e : (fun i => if i < k + 1 then i else 0) = fun i => if i = k then k else (fun i => if i < k then i else 0) i := by funext i; exact up_at k i
       rw [e]
       exact h2
     case measure => simp [intOf]; omega
   · obtain rfl : k = n := by omega
     have H := Lib.hid hs
     clear hs
     go_wp2
     go_ret2
     exact ⟨_, _, rfl, by omega, Nat.le_refl _, H.out, hbr⟩
def newF (c : Cf) (N n Nc nc : Nat) : FrS := ⟨N, n, newC c Nc nc, ⟨0, 0, fun i => if i < n then i else 0, fun _ => 0⟩, -1, 0, fun _ => ca0, fun _ => bx0, []⟩
theorem newF_ok (c : Cf) {N n Nc nc : Nat} (h1 : 1 ≤ N) (h2 : N ≤ 16) (h3 : 2 ≤ n) (h4 : n ≤ 64) : FOk (newF c N n Nc nc) 0 :=
 ⟨h1, h2, h3, h4, ⟨Nat.le_refl _, Nat.le_refl _, fun j => by show (if j < n then j else 0) ≤ _; split <;> omega, fun j => by show (0 : Int) ≤ 0 ∧ (0 : Int) < (N : Int); omega⟩, fun _ => ca0_ok h1, fun _ => op0_ok, by show I64_ 0; unfold I64_; omega⟩
theorem valid_front {c : Cf} (h : validE c = 0) : (1 ≤ c.th ∧ c.th ≤ 16) ∧ (2 ≤ c.rg ∧ c.rg ≤ 64) ∧ bits .and .i64 c.rg (c.rg - 1) = 0 := by
 unfold validE at h
 split at h
 · rename_i hv
   unfold validB sizedB withinB powB at hv
   simp only [Bool.and_eq_true, decide_eq_true_eq, beq_iff_eq] at hv
   have hp := hv.1.1.1.2
   have hr := hv.1.1.1.1.2
   have ht := hv.1.1.1.1.1.2
   have hw : wrap64 (c.rg - 1) = c.rg - 1 := by unfold wrap64; omega
   rw [hw] at hp
   exact ⟨ht, hr, hp⟩
 · omega
abbrev cfT : TypeId := 24
abbrev z13 : Array Value := #[.int .i64 0, .int .u8 0, .int .i64 0, .int .i64 0, .int .i64 0, .pointer none, .int .i64 0, .int .i64 0, .int .u8 0, .int .u64 0, .int .i64 0, .int .i64 0, .int .i64 0]
theorem cainfo : (Tryz.prog.info? caT).map (fun i => (i.zero, i.size, i.bytes)) = some (some (.agg z13), 13, 104) := by kernel_rfl
theorem run_callers (n : Nat) (hn : n ≤ 64) (w : World) :
   (Instr.makeSlice 116 (.int .i64 (n : Int)) (.int .i64 (n : Int))).run Tryz.prog w = .ok (.slice (some ⟨w.heap.size, 0, none⟩) n n) (w.alloc (.cells (madeCells z13 (n * 13)) caT)) := by
 obtain ⟨i, hi, hzz⟩ := Option.map_eq_some_iff.1 cainfo
 simp only [Prod.mk.injEq] at hzz
 obtain ⟨hz, hs, hb⟩ := hzz
 have h := run_make (P := Tryz.prog) w 116 caT i _ Tryz.underlying116 hi hz .i64 .i64 n n (by omega) (Int.le_refl _) (by rw [hb]; omega) (by omega)
 simp only [Int.toNat_natCast, hs] at h
 exact h
theorem op_call {P : Program} {o : Oper} {a : Act} {w : World} {K : Act → World → Prop} {Q : Exit → Act → World → Prop} (g : FuncId) (args : Array Value) (hrun : (execOp a.eval o).run P w = .ok (.enter g args) w)
   (hc : Calls P g args w fun e w' => ∃ v, e = .returned v ∧ K (a.put o.dst v) w') : o.wp P a w K Q := by
 unfold Oper.wp
 rw [hrun]
 refine Calls.mono hc fun e w' he => ?_
 obtain ⟨v, rfl, h⟩ := he
 exact h
structure FNw (w0 w : World) (g p r s n : Nat) (O : Nat → Prop) (S : Cor) (cs : Array Value) : Prop where
 core : CoreL w p O S
 ring : RingAt w r s n ⟨0, 0, fun i => if i < n then i else 0, fun _ => 0⟩
 conf : Blk w g cfT cs
 below : Below w0.heap.size w0 w
 own : (∀ k, O k → w0.heap.size ≤ k) ∧ w0.heap.size ≤ r ∧ w0.heap.size ≤ s
section
variable {w w0 w' : World} {g p r s n : Nat} {O : Nat → Prop} {S : Cor} {cs : Array Value}
theorem FNw.low (h : FNw w0 w g p r s n O S cs) (hb : Below w.heap.size w w') : FNw w0 w' g p r s n O S cs := ⟨h.core.below hb, h.ring.below hb (RingAt.lts h.ring).1 (RingAt.lts h.ring).2, h.conf.below_ hb h.conf.size, h.below.trans (hb.mono h.below.size), h.own⟩
theorem FNw.far (h : FNw w0 w g p r s n O S cs) {k : Nat} {T : TypeId} {ks : Array Value} (hb : Blk w k T ks) (hT : T ∉ cfT :: frTypes) (hk : Kept (fun x => x = k) w w') (hn : w0.heap.size ≤ k) : FNw w0 w' g p r s n O S cs := by
 have ne : ∀ X, X ∈ cfT :: frTypes → X ≠ T := fun X hX e => hT (e ▸ hX)
 obtain ⟨c, hs, _⟩ := h.ring.slots
 refine ⟨h.core.far hk (fun x hx e => ?_) (fun x ks' hx e => ?_) (fun x ks' hx e => ?_), h.ring.kept hk (fun e => ?_) (fun e => ?_), h.conf.kept hk (fun e => ?_), ⟨hk.os.trans h.below.os, hk.tape.trans h.below.tape, hk.output.trans h.below.output, Nat.le_trans h.below.size hk.size, fun x hx => (hk.block x (by have := h.below.size; omega) (fun e => by omega)).trans (h.below.block x hx)⟩, h.own⟩
 · exact h.core.not_t hb (fun hc => ne T (by unfold frTypes; simp [hc]) rfl) (e ▸ hx)
 · exact hx.other hb (ne _ (by simp [frTypes])) e
 · exact hx.other hb (ne _ (by simp [frTypes])) e
 · exact h.ring.head.other hb (ne _ (by simp [frTypes])) e
 · exact hs.other hb (ne _ (by simp [frTypes])) e
 · exact h.conf.other hb (ne _ (by simp)) e
end
def fnTypes : List TypeId := cfT :: 181 :: 183 :: tqT :: rwT :: coTypes
section
variable {w w0 w' : World} {g p r s n N lk gc f k : Nat} {O : Nat → Prop} {S : Cor} {cs : Array Value} {v : Value} {ab : Nat → Nat}
theorem own_lt_ {base sz m : Nat} {e : TypeId} {v : Value} {xs : List Value} (h : w.ownsRow base e sz v m xs) {k : Nat} (hk : v.ownBlock = some k) : base ≤ k ∧ ∃ cs, Blk w k e cs := by
 rcases h.2 with ⟨rfl, _⟩ | ⟨g, cap, cur, rfl, hb, hg, _⟩
 · simp [Value.ownBlock] at hk
 · have e' : g = k := by simpa [Value.ownBlock] using hk
   exact ⟨by omega, cur, e' ▸ hg⟩
theorem FNw.far2 {own : Nat → Prop} {T : TypeId} (h : FNw w0 w g p r s n O S cs) (hk : Kept own w w') (hT : T ∉ fnTypes) (ho : ∀ k, own k → w0.heap.size ≤ k ∧ ∃ ks, Blk w k T ks) : FNw w0 w' g p r s n O S cs := by
 have ne : ∀ X, X ∈ fnTypes → X ≠ T := fun X hX e => hT (e ▸ hX)
 have no : ∀ {x : Nat} {X : TypeId} {ks : Array Value}, Blk w x X ks → X ∈ fnTypes → ¬ own x := fun {x X ks} hb hX e => by
   obtain ⟨_, ks', hb'⟩ := ho x e
   exact hb.other hb' (ne X hX) rfl
 obtain ⟨c, hs, _⟩ := h.ring.slots
 refine ⟨h.core.far hk (fun x hx e => ?_) (fun x ks' hx e => ?_) (fun x ks' hx e => ?_), h.ring.kept hk (no h.ring.head (by simp [fnTypes])) (no hs (by simp [fnTypes])), h.conf.kept hk (no h.conf (by simp [fnTypes])), ⟨hk.os.trans h.below.os, hk.tape.trans h.below.tape, hk.output.trans h.below.output, Nat.le_trans h.below.size hk.size, fun x hx => (hk.block x (by have := h.below.size; omega) (fun e => by have := (ho x e).1; omega)).trans (h.below.block x hx)⟩, h.own⟩
 · obtain ⟨_, ks', hb'⟩ := ho x e
   exact h.core.not_t hb' (fun hc => ne T (by unfold fnTypes; simp [hc]) rfl) hx
 · exact no hx (by simp [fnTypes]) e
 · exact no hx (by simp [fnTypes]) e
theorem bpinfo : (Tryz.prog.info? bpT).map (fun i => (i.zero, i.size, i.bytes)) = some (some (.pointer none), 1, 8) := by kernel_rfl
def ptrs (ab : Nat → Nat) (k : Nat) : List Value := (List.range k).map fun j => .pointer (some ⟨ab j, 0, none⟩)
theorem ptrs_succ (ab : Nat → Nat) (k x : Nat) : ptrs (upd ab k x) (k + 1) = ptrs ab k ++ [.pointer (some ⟨x, 0, none⟩)] := by
 unfold ptrs
 rw [List.range_succ, List.map_append]
 congr 1
 · apply List.map_congr_left
   intro j hj
   have : j < k := List.mem_range.1 hj
   rw [upd_ne _ _ (by omega)]
 · simp [upd_at]
theorem ptrs_get (ab : Nat → Nat) {k j : Nat} (h : j < k) : (ptrs ab k)[j]? = some (.pointer (some ⟨ab j, 0, none⟩)) := by
 unfold ptrs
 simp [h]
structure FLp (w0 w : World) (g p r s n N lk gc f : Nat) (O : Nat → Prop) (S : Cor) (cs : Array Value) (k : Nat) (v : Value) (ab : Nat → Nat) : Prop where
 x : FNw w0 w g p r s n O S cs
 lkA : LkAt w lk (-1)
 gcA : Blk w gc caT (madeCells z13 (N * 13))
 fA : Blk w f frT #[.pointer (some ⟨p, 0, none⟩), .pointer (some ⟨r, 0, none⟩), .pointer (some ⟨lk, 0, none⟩), v, .slice (some ⟨gc, 0, none⟩) N N, .int .i64 0, .pointer none]
 own : w.ownsRow w0.heap.size bpT 1 v k (ptrs ab k)
 box : ∀ j, j < k → BoxAt w (ab j) 0 op0 re0 ∧ w0.heap.size ≤ ab j
 inj : ∀ i j, i < k → j < k → ab i = ab j → i = j
 low : w0.heap.size ≤ lk ∧ w0.heap.size ≤ gc ∧ w0.heap.size ≤ f
theorem FLp.below (h : FLp w0 w g p r s n N lk gc f O S cs k v ab) (hb : Below w.heap.size w w') : FLp w0 w' g p r s n N lk gc f O S cs k v ab :=
 ⟨h.x.low hb, Blk.below_ h.lkA hb (Blk.size h.lkA), h.gcA.below_ hb h.gcA.size, h.fA.below_ hb h.fA.size, own_kept h.own (Kept.of_below (own := fun _ => False) hb) (fun _ _ _ h => h), fun j hj => ⟨Blk.below_ (h.box j hj).1 hb (Blk.size (h.box j hj).1), (h.box j hj).2⟩, h.inj, h.low⟩
theorem FLp.more (h : FLp w0 w g p r s n N lk gc f O S cs k v ab) {x : Nat} {v' : Value} (hx : BoxAt w x 0 op0 re0) (hxn : w0.heap.size ≤ x) (hxi : ∀ j, j < k → ab j ≠ x) (hg : w.grownBy w' v.ownBlock) (ho : w'.ownsRow w0.heap.size bpT 1 v' (k + 1) (ptrs ab k ++ [.pointer (some ⟨x, 0, none⟩)])) :
   FLp w0 (w'.setCell ⟨f, 3, none⟩ v') g p r s n N lk gc f O S cs (k + 1) v' (upd ab k x) := by
 have hk1 : Kept (fun y => v.ownBlock = some y) w w' := (Kept.refl _ w).grown hg (fun y e => .inl e)
 have hT1 : ∀ y, v.ownBlock = some y → w0.heap.size ≤ y ∧ ∃ ks, Blk w y bpT ks := fun y e => own_lt_ h.own e
 have no : ∀ {y : Nat} {X : TypeId} {ks : Array Value}, Blk w y X ks → X ≠ bpT → ¬ v.ownBlock = some y := fun {y X ks} hb hX e => by
   obtain ⟨_, ks', hb'⟩ := hT1 y e
   exact hb.other hb' hX rfl
 have hf' := h.fA.kept hk1 (no h.fA (by decide))
 have hk2 : Kept (fun y => y = f) w' (w'.setCell ⟨f, 3, none⟩ v') := kset1 _ _ _ _
 have hX := (h.x.far2 (T := bpT) hk1 (by decide) hT1).far2 (T := frT) hk2 (by decide) (fun y e => ⟨e ▸ h.low.2.2, _, e ▸ hf'⟩)
 have keep : ∀ {y : Nat} {X : TypeId} {ks : Array Value}, Blk w y X ks → X ≠ bpT → X ≠ frT → Blk (w'.setCell ⟨f, 3, none⟩ v') y X ks := fun {y X ks} hb h1 h2 => (hb.kept hk1 (no hb h1)).kept hk2 (fun e => (hb.kept hk1 (no hb h1)).other hf' h2 e)
 refine ⟨hX, keep h.lkA (by decide) (by decide), keep h.gcA (by decide) (by decide), ?_, ?_, fun j hj => ?_, fun i j hi hj e => ?_, h.low⟩
 · have := hf'.set_ 3 v'
   simpa using this
 · rw [ptrs_succ]
   exact own_kept ho hk2 (fun y ks hb e => hb.other hf' (by decide) e)
 · by_cases e : j = k
   · subst e
     rw [upd_at]
     exact ⟨keep hx (by decide) (by decide), hxn⟩
   · rw [upd_ne _ _ e]
     exact ⟨keep (h.box j (by omega)).1 (by decide) (by decide), (h.box j (by omega)).2⟩
 · by_cases e1 : i = k <;> by_cases e2 : j = k
   · omega
   · rw [e1, upd_at, upd_ne _ _ e2] at e
     exact absurd e.symm (hxi j (by omega))
   · rw [e2, upd_at, upd_ne _ _ e1] at e
     exact absurd e (hxi i (by omega))
   · rw [upd_ne _ _ e1, upd_ne _ _ e2] at e
     exact h.inj i j (by omega) (by omega) e
theorem made_z13 {N i j : Nat} (hi : i < N) (hj : j < 13) : (madeCells z13 (N * 13))[i * 13 + j]? = (caRowV ca0 0)[j]? := by
 have hlt : i * 13 + j < N * 13 := by
   have : (i + 1) * 13 ≤ N * 13 := Nat.mul_le_mul_right _ hi
   omega
 rw [made_at _ _ hlt (by decide)]
 have h1 : (i * 13 + j) % z13.size = j := by
   show (i * 13 + j) % 13 = j
   omega
 rw [h1]
 have hq : j = 0 ∨ j = 1 ∨ j = 2 ∨ j = 3 ∨ j = 4 ∨ j = 5 ∨ j = 6 ∨ j = 7 ∨ j = 8 ∨ j = 9 ∨ j = 10 ∨ j = 11 ∨ j = 12 := by omega
 rcases hq with rfl | rfl | rfl | rfl | rfl | rfl | rfl | rfl | rfl | rfl | rfl | rfl | rfl <;> rfl
theorem FLp.front {c : Cf} {Nc nc x : Nat} {vx : Value} (h : FLp w0 w g p r s n N lk gc f O (newC c Nc nc) cs N v ab) (hN : 1 ≤ N) (hx : Blk w x asT #[vx]) (hvx : w.ownsRow 0 apT 11 vx 0 (flatA [])) (hxn : w0.heap.size ≤ x) (hvn : ∀ k, vx.ownBlock = some k → w0.heap.size ≤ k) :
   ∃ O', FrL (w.setCell ⟨f, 6, none⟩ (.pointer (some ⟨x, 0, none⟩))) f O' (newF c N n Nc nc) ∧ (∀ k, O' k → w0.heap.size ≤ k) := by
 obtain ⟨gb, bc, rfl, hgb, hgs⟩ := own_at h.own (by omega)
 have hk2 : Kept (fun y => y = f) w (w.setCell ⟨f, 6, none⟩ (.pointer (some ⟨x, 0, none⟩))) := kset1 _ _ _ _
 have keep : ∀ {y : Nat} {X : TypeId} {ks : Array Value}, Blk w y X ks → X ≠ frT → Blk (w.setCell ⟨f, 6, none⟩ (.pointer (some ⟨x, 0, none⟩))) y X ks := fun {y X ks} hb h2 => hb.kept hk2 (fun e => hb.other h.fA h2 e)
 have hX := h.x.far2 (T := frT) hk2 (by decide) (fun y e => ⟨e ▸ h.low.2.2, _, e ▸ h.fA⟩)
 have hbp : ∃ cs, Blk w gb bpT cs ∧ ∀ i, i < N → cs[i]? = some (.pointer (some ⟨ab i, 0, none⟩)) := by
   rcases h.own.2 with ⟨e, _⟩ | ⟨g', cap, cur, e, hb, hg, h1, h2, h3, h4⟩
   · cases e
   · simp only [Value.slice.injEq, Option.some.injEq, Addr.mk.injEq, and_true, true_and] at e
     obtain ⟨rfl, rfl⟩ := e
     refine ⟨cur, hg, fun i hi => ?_⟩
     rw [← ptrs_get ab hi, ← h4, List.getElem?_take_of_lt (by omega), Array.getElem?_toList]
 obtain ⟨cb, hcb, hcb2⟩ := hbp
 refine ⟨_, ⟨⟨⟨p, r, s, lk, gb, bc, gc, x, vx.ownBlock, ab, fun _ => 0, O⟩, ⟨?_, hX.core, hX.ring, keep h.lkA (by decide), ⟨cb, keep hcb (by decide), hcb2⟩, (fun i hi => keep (h.box i hi).1 (by decide)), ⟨_, keep h.gcA (by decide), made_size _ _, fun i hi j hj => made_z13 hi hj⟩, (fun i a hi ha => by cases ha), ⟨vx, keep hx (by decide), own_kept hvx hk2 (fun y ks hb e => hb.other h.fA (by decide) e), rfl⟩, h.inj, (fun i j a b hi hj ha => by cases ha)⟩, (fun k => Iff.rfl)⟩⟩, fun k hk => ?_⟩
 · have := h.fA.set_ 6 (.pointer (some ⟨x, 0, none⟩))
   have h2 : Blk (w.setCell ⟨f, 6, none⟩ (.pointer (some ⟨x, 0, none⟩))) f frT #[.pointer (some ⟨p, 0, none⟩), .pointer (some ⟨r, 0, none⟩), .pointer (some ⟨lk, 0, none⟩), .slice (some ⟨gb, 0, none⟩) N bc, .slice (some ⟨gc, 0, none⟩) N N, .int .i64 0, .pointer (some ⟨x, 0, none⟩)] := by simpa using this
   exact h2
 · rcases hk with e | e | e | e | e | e | e | e | e | ⟨i, hi, e⟩ | ⟨i, a, hi, ha, e⟩
   · rw [e]; exact h.low.2.2
   · exact h.x.own.1 k e
   · rw [e]; exact h.x.own.2.1
   · rw [e]; exact h.x.own.2.2
   · rw [e]; exact h.low.1
   · rw [e]; exact hgb
   · rw [e]; exact h.low.2.1
   · rw [e]; exact hxn
   · exact hvn k e
   · rw [e]; exact (h.box i hi).2
   · cases ha
end
def CoreOf (c : Cf) (Nc nc : Nat) : Prop := c.ti = (Nc : Int) ∧ c.ro = (nc : Int)
set_option maxRecDepth 100000 in
set_option maxHeartbeats 16000000 in
theorem fr_new (c : Cf) (w : World) (hf : c.fits) :
   Calls Tryz.prog 22 #[c.v] w fun e w' => ((validE c = 1 ∧ e = .returned (.tuple #[.pointer none, .int .i64 1])) ∨ (validE c = 0 ∧ ∃ (f : Nat) (O : Nat → Prop) (N n Nc nc : Nat), e = .returned (.tuple #[.pointer (some ⟨f, 0, none⟩), .int .i64 0]) ∧ c.th = (N : Int) ∧ c.rg = (n : Int) ∧ CoreOf c Nc nc ∧ FrL w' f O (newF c N n Nc nc) ∧ ∀ k, O k → w.heap.size ≤ k)) ∧ Below w.heap.size w w' := by
 have HF := Lib.hid hf
 have hvf : validE c = 0 → _ := valid_front
 obtain ⟨ti, ro, ta, iv, hx, lo, dw, ho, sp, kp, ki, kd, lm, sx, th, rg⟩ := c
 have HVF := Lib.hid hvf
 clear hf hvf
 go_enter Tryz.func22, Tryz.ntmps22
 go_upto_region 1 with fail
 refine wp_worldx (fun wx => Blk wx w.heap.size cfT #[.int .i64 ti, .int .i64 ro, .int .i64 ta, .int .i64 iv, .int .i64 hx, .int .i64 lo, .int .i64 dw, .int .i64 ho, .int .i64 sp, .int .i64 kp, .int .i64 ki, .int .i64 kd, .int .i64 lm, .int .i64 sx, .int .i64 th, .int .i64 rg] ∧ Below w.heap.size w wx) ⟨Blk.made _ _ _, (Below.refl _ _).alloc (Nat.le_refl _) _⟩ ?_
 obtain ⟨g, hg⟩ : ∃ g, w.heap.size = g := ⟨_, rfl⟩
 rw [hg]
 rintro w1 ⟨h1, h2⟩
 have k0 : w1.cell? ⟨g, 0, none⟩ = some (.int .i64 ti) := h1.val (i := 0) rfl
 have k1 : w1.cell? ⟨g, 1, none⟩ = some (.int .i64 ro) := h1.val (i := 1) rfl
 have k2 : w1.cell? ⟨g, 2, none⟩ = some (.int .i64 ta) := h1.val (i := 2) rfl
 have k3 : w1.cell? ⟨g, 3, none⟩ = some (.int .i64 iv) := h1.val (i := 3) rfl
 have k4 : w1.cell? ⟨g, 4, none⟩ = some (.int .i64 hx) := h1.val (i := 4) rfl
 have k5 : w1.cell? ⟨g, 5, none⟩ = some (.int .i64 lo) := h1.val (i := 5) rfl
 have k6 : w1.cell? ⟨g, 6, none⟩ = some (.int .i64 dw) := h1.val (i := 6) rfl
 have k7 : w1.cell? ⟨g, 7, none⟩ = some (.int .i64 ho) := h1.val (i := 7) rfl
 have k8 : w1.cell? ⟨g, 8, none⟩ = some (.int .i64 sp) := h1.val (i := 8) rfl
 have k9 : w1.cell? ⟨g, 9, none⟩ = some (.int .i64 kp) := h1.val (i := 9) rfl
 have k10 : w1.cell? ⟨g, 10, none⟩ = some (.int .i64 ki) := h1.val (i := 10) rfl
 have k11 : w1.cell? ⟨g, 11, none⟩ = some (.int .i64 kd) := h1.val (i := 11) rfl
 have k12 : w1.cell? ⟨g, 12, none⟩ = some (.int .i64 lm) := h1.val (i := 12) rfl
 have k13 : w1.cell? ⟨g, 13, none⟩ = some (.int .i64 sx) := h1.val (i := 13) rfl
 have k14 : w1.cell? ⟨g, 14, none⟩ = some (.int .i64 th) := h1.val (i := 14) rfl
 have k15 : w1.cell? ⟨g, 15, none⟩ = some (.int .i64 rg) := h1.val (i := 15) rfl
 have HA := Lib.hid h1
 have HB := Lib.hid (show Below w.heap.size w w1 from by rw [hg]; exact h2)
 have HG := Lib.hid hg
 clear h1 h2 hg
 go_wp2_with fail
 refine (cnew_any ⟨ti, ro, ta, iv, hx, lo, dw, ho, sp, kp, ki, kd, lm, sx, th, rg⟩ w1 HF.out).mono ?_
 rintro e w2 ⟨P, rfl, hP, hb⟩
 have hA2 := HA.out.below_ hb HA.out.size
 have hB2 := HB.out.trans (hb.mono HB.out.size)
 clear hb k0 k1 k2 k3 k4 k5 k6 k7 k8 k9 k10 k11 k12 k13 k14 k15
 rcases hP with ⟨rfl, hv⟩ | ⟨hv, p, O, Nc, nc, rfl, hL, hO⟩
 · rw [hv]
   have HV := Lib.hid hv
   have HB2 := Lib.hid hB2
   clear hv hA2 hB2 HA HB
   go_wp2
   go_ret2
   exact ⟨.inl ⟨HV.out, rfl⟩, HB2.out⟩
 · rw [hv]
   obtain ⟨⟨t0, t1⟩, ⟨r0, r1⟩, hpw⟩ := HVF.out hv
   obtain ⟨N, hN⟩ : ∃ N : Nat, th = (N : Int) := ⟨th.toNat, by omega⟩
   obtain ⟨n, hn⟩ : ∃ n : Nat, rg = (n : Int) := ⟨rg.toNat, by omega⟩
   subst hN hn
   have k15 : w2.cell? ⟨g, 15, none⟩ = some (.int .i64 (n : Int)) := hA2.val (i := 15) rfl
   have HV := Lib.hid hv
   have HA2 := Lib.hid hA2
   have HB2 := Lib.hid hB2
   have HL := Lib.hid hL
   have HO := Lib.hid hO
   have HW1 := Lib.hid (show w.heap.size ≤ w1.heap.size from HB.out.size)
   have hN1 : 1 ≤ N := by omega
   have hN16 : N ≤ 16 := by omega
   have hn2 : 2 ≤ n := by omega
   have hn64 : n ≤ 64 := by omega
   have HP := Lib.hid hpw
   clear hv hA2 hB2 hL hO HA HB t0 t1 r0 r1 hpw HVF
   go_wp2_with fail
   refine (rnewg n w2 hn2 hn64 HP.out).mono ?_
   rintro e w3 ⟨r, s, rfl, hr, hs, hR, hb⟩
   have HX := Lib.hid (show FNw w w3 g p r s n O (newC ⟨ti, ro, ta, iv, hx, lo, dw, ho, sp, kp, ki, kd, lm, sx, (N : Int), (n : Int)⟩ Nc nc) #[.int .i64 ti, .int .i64 ro, .int .i64 ta, .int .i64 iv, .int .i64 hx, .int .i64 lo, .int .i64 dw, .int .i64 ho, .int .i64 sp, .int .i64 kp, .int .i64 ki, .int .i64 kd, .int .i64 lm, .int .i64 sx, .int .i64 (N : Int), .int .i64 (n : Int)] from ⟨HL.out.below hb, hR, HA2.out.below_ hb HA2.out.size, HB2.out.trans (hb.mono HB2.out.size), fun k hk => Nat.le_trans HW1.out (HO.out k hk), by have := HB2.out.size; omega, by have := HB2.out.size; omega⟩)
   have HCO := Lib.hid (show CoreOf ⟨ti, ro, ta, iv, hx, lo, dw, ho, sp, kp, ki, kd, lm, sx, (N : Int), (n : Int)⟩ Nc nc from ⟨HL.out.ok.hN, HL.out.ok.hn⟩)
   clear hr hs hR hb HA2 HB2 HL HO HP k15
   have hm := run_callers N (by omega)
   go_upto_region 5 with fail
   refine wp_region_noPanic ?_
   refine wp_region_U (fun w' => FNw w w' g p r s n O (newC ⟨ti, ro, ta, iv, hx, lo, dw, ho, sp, kp, ki, kd, lm, sx, (N : Int), (n : Int)⟩ Nc nc) #[.int .i64 ti, .int .i64 ro, .int .i64 ta, .int .i64 iv, .int .i64 hx, .int .i64 lo, .int .i64 dw, .int .i64 ho, .int .i64 sp, .int .i64 kp, .int .i64 ki, .int .i64 kd, .int .i64 lm, .int .i64 sx, .int .i64 (N : Int), .int .i64 (n : Int)]) [2, 5, 7] [] (by kernel_rfl) (HX.out.low (Below.drew (Below.refl _ _))) ?_
   intro hsh0
   skip
   refine anyU_tk 60 (i := 0) (v := ?_) rfl (fun _ _ _ h => h) (YieldsS.of_if (Or.inl ⟨by rfl, ?_⟩)) ?_
   rotate_left
   · (intro wS hSw; (try dsimp only at hSw); (first | (go_simp; done) | (go_simp; with_reducible rfl)))
   intro hsh1
   clear hsh0
   try simp only [Act.put, List.getElem_toArray, List.getElem_cons_zero, List.getElem_cons_succ, List.setIfInBounds_toArray, List.set_cons_zero, List.set_cons_succ]
   refine anyU_tk 60 (i := 1) (v := ?_) rfl (fun _ _ _ h => h) (YieldsS.of_if (Or.inl ⟨by rfl, ?_⟩)) ?_
   rotate_left
   · (intro wS hSw; (try dsimp only at hSw); (first | (go_simp; done) | (go_simp; with_reducible rfl)))
   intro hsh2
   clear hsh1
   try simp only [Act.put, List.getElem_toArray, List.getElem_cons_zero, List.getElem_cons_succ, List.setIfInBounds_toArray, List.set_cons_zero, List.set_cons_succ]
   refine anyU_tk 60 (i := 3) (v := ?_) rfl (fun _ _ _ h => h) (YieldsS.of_if (Or.inl ⟨by rfl, ?_⟩)) ?_
   rotate_left
   · (intro wS hSw; (try dsimp only at hSw); (first | (go_simp; done) | (go_simp; with_reducible rfl)))
   intro hsh3
   clear hsh2
   try simp only [Act.put, List.getElem_toArray, List.getElem_cons_zero, List.getElem_cons_succ, List.setIfInBounds_toArray, List.set_cons_zero, List.set_cons_succ]
   refine anyU_tk 60 (i := 4) (v := ?_) rfl (fun _ _ _ h => h) (YieldsS.of_if (Or.inl ⟨by rfl, ?_⟩)) ?_
   rotate_left
   · (intro wS hSw; (try dsimp only at hSw); have k14 : wS.cell? ⟨g, 14, none⟩ = some (.int .i64 (N : Int)) := hSw.conf.val (i := 14) rfl; (first | (go_simp; done) | (go_simp; with_reducible rfl)))
   intro hsh4
   clear hsh3
   try simp only [Act.put, List.getElem_toArray, List.getElem_cons_zero, List.getElem_cons_succ, List.setIfInBounds_toArray, List.set_cons_zero, List.set_cons_succ]
   refine anyU_pick (rs := [2, 5]) (by kernel_rfl) (by simp) (fun i hi => ?_)
   simp only [List.mem_cons, List.not_mem_nil, or_false] at hi
   rcases hi with rfl | rfl
   · refine ⟨by rfl, fun wS hSw hDw => one_op rfl (by rfl) ?_⟩
     refine op_call 50 #[] (by first | rfl | (go_simp; done)) ?_
     refine (lk_new wS).mono ?_
     rintro e wn ⟨rfl, hlk, hbn⟩
     obtain ⟨lk, hlke⟩ : ∃ x, wS.heap.size = x := ⟨_, rfl⟩
     have hlw : w.heap.size ≤ lk := by have := hSw.below.size; omega
     refine ⟨_, rfl, hSw.low hbn, fun w' => (LkAt w' lk (-1) ∧ w.heap.size ≤ lk), (fun x y hx hy => ⟨Blk.below_ hx.1 hy (Blk.size hx.1), hx.2⟩), ⟨hlke ▸ hlk, hlw⟩, ?_⟩
     rw [hlke]
     clear hSw hDw hlk hbn hlke hlw
     try simp only [Act.put, List.getElem_toArray, List.getElem_cons_zero, List.getElem_cons_succ, List.setIfInBounds_toArray, List.set_cons_zero, List.set_cons_succ]
     refine anyU_pick (rs := [5]) (by kernel_rfl) (by simp) (fun i hi => ?_)
     obtain rfl : i = 5 := List.mem_singleton.1 hi
     clear hi
     refine ⟨by rfl, fun wS hSw hDw => one_op rfl (by rfl) ?_⟩
     unfold Oper.wp
     go_simp
     obtain ⟨gc, hgce⟩ : ∃ x, wS.heap.size = x := ⟨_, rfl⟩
     have hgw : w.heap.size ≤ gc := by have := hSw.below.size; omega
     have hab := ((Below.refl wS.heap.size wS).alloc (Nat.le_refl _) (.cells (madeCells z13 (N * 13)) caT))
     refine ⟨hSw.low hab, fun w' => (LkAt w' lk (-1) ∧ w.heap.size ≤ lk) ∧ (Blk w' gc caT (madeCells z13 (N * 13)) ∧ w.heap.size ≤ gc), (fun x y hx hy => ⟨⟨Blk.below_ hx.1.1 hy (Blk.size hx.1.1), hx.1.2⟩, ⟨hx.2.1.below_ hy hx.2.1.size, hx.2.2⟩⟩), ⟨⟨Blk.below_ hDw.1 hab (Blk.size hDw.1), hDw.2⟩, ⟨Blk.new_ hgce.symm, hgw⟩⟩, ?_⟩
     rw [hgce]
     clear hSw hDw hab hgce hgw
     try simp only [Act.put, List.getElem_toArray, List.getElem_cons_zero, List.getElem_cons_succ, List.setIfInBounds_toArray, List.set_cons_zero, List.set_cons_succ]
     refine anyU_one (i := 6) (v := ?_) (by kernel_rfl) rfl (YieldsS.of_if (Or.inl ⟨by rfl, ?_⟩)) ?_
     rotate_left
     · (intro wS hSw; (first | (go_simp; done) | (go_simp; with_reducible rfl)))
     try simp only [Act.put, List.getElem_toArray, List.getElem_cons_zero, List.getElem_cons_succ, List.setIfInBounds_toArray, List.set_cons_zero, List.set_cons_succ]
     refine anyU_pick (rs := [7]) (by kernel_rfl) (by simp) (fun i hi => ?_)
     obtain rfl : i = 7 := List.mem_singleton.1 hi
     clear hi
     refine ⟨by rfl, fun wS hSw hDw => one_op rfl (by rfl) ?_⟩
     unfold Oper.wp
     go_simp
     obtain ⟨f, hfe⟩ : ∃ x, wS.heap.size = x := ⟨_, rfl⟩
     have hfw : w.heap.size ≤ f := by have := hSw.below.size; omega
     have hab := ((Below.refl wS.heap.size wS).alloc (Nat.le_refl _) (.cells #[.pointer (some ⟨p, 0, none⟩), .pointer (some ⟨r, 0, none⟩), .pointer (some ⟨lk, 0, none⟩), .slice none 0 0, .slice (some ⟨gc, 0, none⟩) N N, .int .i64 0, .pointer none] frT))
     refine ⟨hSw.low hab, fun w' => ((LkAt w' lk (-1) ∧ w.heap.size ≤ lk) ∧ (Blk w' gc caT (madeCells z13 (N * 13)) ∧ w.heap.size ≤ gc)) ∧ (Blk w' f frT #[.pointer (some ⟨p, 0, none⟩), .pointer (some ⟨r, 0, none⟩), .pointer (some ⟨lk, 0, none⟩), .slice none 0 0, .slice (some ⟨gc, 0, none⟩) N N, .int .i64 0, .pointer none] ∧ w.heap.size ≤ f), (fun x y hx hy => ⟨⟨⟨Blk.below_ hx.1.1.1 hy (Blk.size hx.1.1.1), hx.1.1.2⟩, ⟨hx.1.2.1.below_ hy hx.1.2.1.size, hx.1.2.2⟩⟩, ⟨hx.2.1.below_ hy hx.2.1.size, hx.2.2⟩⟩), ⟨⟨⟨Blk.below_ hDw.1.1 hab (Blk.size hDw.1.1), hDw.1.2⟩, ⟨hDw.2.1.below_ hab hDw.2.1.size, hDw.2.2⟩⟩, ⟨Blk.new_ hfe.symm, hfw⟩⟩, ?_⟩
     rw [hfe]
     clear hSw hDw hab hfe hfw
     try simp only [Act.put, List.getElem_toArray, List.getElem_cons_zero, List.getElem_cons_succ, List.setIfInBounds_toArray, List.set_cons_zero, List.set_cons_succ]
     refine anyU_one (i := 8) (v := ?_) (by kernel_rfl) rfl (YieldsS.of_if (Or.inl ⟨by rfl, ?_⟩)) ?_
     rotate_left
     · (intro wS hSw; (first | (go_simp; done) | (go_simp; with_reducible rfl)))
     try simp only [Act.put, List.getElem_toArray, List.getElem_cons_zero, List.getElem_cons_succ, List.setIfInBounds_toArray, List.set_cons_zero, List.set_cons_succ]
     refine anyU_done (by kernel_rfl) (fun w4 hS4 hD4 => ?_) _
     refine NoPanic.normal ?_
     obtain ⟨⟨⟨hlk, hlkw⟩, ⟨hgc, hgcw⟩⟩, ⟨hfr, hfw⟩⟩ := hD4
     have hlp : FLp w w4 g p r s n N lk gc f O (newC ⟨ti, ro, ta, iv, hx, lo, dw, ho, sp, kp, ki, kd, lm, sx, (N : Int), (n : Int)⟩ Nc nc) #[.int .i64 ti, .int .i64 ro, .int .i64 ta, .int .i64 iv, .int .i64 hx, .int .i64 lo, .int .i64 dw, .int .i64 ho, .int .i64 sp, .int .i64 kp, .int .i64 ki, .int .i64 kd, .int .i64 lm, .int .i64 sx, .int .i64 (N : Int), .int .i64 (n : Int)] 0 (.slice none 0 0) (fun _ => 0) := ⟨hS4, hlk, hgc, hfr, World.ownsRow_nil _ _ _ _, (fun j hj => absurd hj (by omega)), (fun i j hi => absurd hi (by omega)), hlkw, hgcw, hfw⟩
     have k14 : w4.cell? ⟨g, 14, none⟩ = some (.int .i64 (N : Int)) := hS4.conf.val (i := 14) rfl
     have HLP := Lib.hid hlp
     clear hlp hS4 hlk hlkw hgc hgcw hfr hfw HX
     go_wp2_with fail
     go_loopw [33] (fun s33 wr => ∃ (k : Nat) (v : Value) (ab : Nat → Nat), k ≤ N ∧ s33 = .int .i64 (k : Int) ∧ FLp w wr g p r s n N lk gc f O (newC ⟨ti, ro, ta, iv, hx, lo, dw, ho, sp, kp, ki, kd, lm, sx, (N : Int), (n : Int)⟩ Nc nc) #[.int .i64 ti, .int .i64 ro, .int .i64 ta, .int .i64 iv, .int .i64 hx, .int .i64 lo, .int .i64 dw, .int .i64 ho, .int .i64 sp, .int .i64 kp, .int .i64 ki, .int .i64 kd, .int .i64 lm, .int .i64 sx, .int .i64 (N : Int), .int .i64 (n : Int)] k v ab) (fun s _ => N - (intOf s).toNat)
     case atStart => exact ⟨0, _, _, Nat.zero_le _, rfl, HLP.out⟩
     case round =>
       obtain ⟨k, v, ab, hk, rfl, hlp⟩ := hrel
       have HLP := Lib.hid hlp
       clear hlp k14
       by_cases hkn : k < N
       · have j1 : (k : Int) < (N : Int) := by omega
         go_upto_region 8 with fail
         refine wp_region_noPanic ?_
         refine wp_region_U (fun w' => FLp w w' g p r s n N lk gc f O (newC ⟨ti, ro, ta, iv, hx, lo, dw, ho, sp, kp, ki, kd, lm, sx, (N : Int), (n : Int)⟩ Nc nc) #[.int .i64 ti, .int .i64 ro, .int .i64 ta, .int .i64 iv, .int .i64 hx, .int .i64 lo, .int .i64 dw, .int .i64 ho, .int .i64 sp, .int .i64 kp, .int .i64 ki, .int .i64 kd, .int .i64 lm, .int .i64 sx, .int .i64 (N : Int), .int .i64 (n : Int)] k v ab) [5, 6] [7, 10] (by kernel_rfl) (HLP.out.below (Below.drew (Below.refl _ _))) ?_
         intro hsh0
         skip
         refine anyU_takeW (i := 0) (v := ?_) rfl (by kernel_rfl) (by kernel_rfl) (by kernel_rfl) (fun _ _ _ h => h) (by assumption) (Or.inl ⟨by rfl, ?_⟩) ?_
         rotate_left
         · (intro wS; (first | (go_simp; done) | (go_simp; with_reducible rfl)))
         intro hsh1
         clear hsh0
         try simp only [Act.put, List.getElem_toArray, List.getElem_cons_zero, List.getElem_cons_succ, List.setIfInBounds_toArray, List.set_cons_zero, List.set_cons_succ]
         refine anyU_tk 60 (i := 1) (v := ?_) rfl (fun _ _ _ h => h) (YieldsS.of_if (Or.inl ⟨by rfl, ?_⟩)) ?_
         rotate_left
         · (intro wS hSw; (try dsimp only at hSw); (first | (go_simp; done) | (go_simp; with_reducible rfl)))
         intro hsh2
         clear hsh1
         try simp only [Act.put, List.getElem_toArray, List.getElem_cons_zero, List.getElem_cons_succ, List.setIfInBounds_toArray, List.set_cons_zero, List.set_cons_succ]
         refine anyU_tk 60 (i := 2) (v := ?_) rfl (fun _ _ _ h => h) (YieldsS.of_if (Or.inl ⟨by rfl, ?_⟩)) ?_
         rotate_left
         · (intro wS hSw; (try dsimp only at hSw); (first | (go_simp; done) | (go_simp; with_reducible rfl)))
         intro hsh3
         clear hsh2
         try simp only [Act.put, List.getElem_toArray, List.getElem_cons_zero, List.getElem_cons_succ, List.setIfInBounds_toArray, List.set_cons_zero, List.set_cons_succ]
         refine anyU_tk 60 (i := 3) (v := ?_) rfl (fun _ _ _ h => h) (YieldsS.of_if (Or.inl ⟨by rfl, ?_⟩)) ?_
         rotate_left
         · (intro wS hSw; (try dsimp only at hSw); (first | (go_simp; done) | (go_simp; with_reducible rfl)))
         intro hsh4
         clear hsh3
         try simp only [Act.put, List.getElem_toArray, List.getElem_cons_zero, List.getElem_cons_succ, List.setIfInBounds_toArray, List.set_cons_zero, List.set_cons_succ]
         refine anyU_tk 60 (i := 4) (v := ?_) rfl (fun _ _ _ h => h) (YieldsS.of_if (Or.inl ⟨by rfl, ?_⟩)) ?_
         rotate_left
         · (intro wS hSw; (try dsimp only at hSw); have f3 : wS.cell? ⟨f, 3, none⟩ = some v := hSw.fA.val (i := 3) rfl; (first | (go_simp; done) | (go_simp; with_reducible rfl)))
         intro hsh5
         clear hsh4
         try simp only [Act.put, List.getElem_toArray, List.getElem_cons_zero, List.getElem_cons_succ, List.setIfInBounds_toArray, List.set_cons_zero, List.set_cons_succ]
         refine anyU_pick (rs := [5]) (by kernel_rfl) (by simp) (fun i hi => ?_)
         obtain rfl : i = 5 := List.mem_singleton.1 hi
         clear hi
         refine ⟨by rfl, fun wS hSw hDw => one_op rfl (by rfl) ?_⟩
         refine op_call 51 #[] (by first | rfl | (go_simp; done)) ?_
         refine (bx_new wS).mono ?_
         rintro e wn ⟨rfl, hbx, hbn⟩
         obtain ⟨x, hxe⟩ : ∃ x, wS.heap.size = x := ⟨_, rfl⟩
         have hxw : w.heap.size ≤ x := by have := hSw.x.below.size; omega
         have hxi : ∀ j, j < k → ab j ≠ x := fun j hj e => by have := Blk.size (hSw.box j hj).1; omega
         refine ⟨_, rfl, hSw.below hbn, fun w' => BoxAt w' x 0 op0 re0, (fun a b hx hy => Blk.below_ hx hy (Blk.size hx)), hxe ▸ hbx, ?_⟩
         rw [hxe]
         have HXW := Lib.hid hxw
         have HXI := Lib.hid hxi
         clear hSw hDw hbx hbn hxe hxw hxi
         try simp only [Act.put, List.getElem_toArray, List.getElem_cons_zero, List.getElem_cons_succ, List.setIfInBounds_toArray, List.set_cons_zero, List.set_cons_succ]
         refine anyU_pick (rs := [6]) (by kernel_rfl) (by simp) (fun i hi => ?_)
         obtain rfl : i = 6 := List.mem_singleton.1 hi
         clear hi
         refine ⟨by rfl, fun wS hSw hDw => one_op rfl (by rfl) ?_⟩
         unfold Oper.wp
         go_simp
         obtain ⟨gr, hgr⟩ : ∃ x, wS.heap.size = x := ⟨_, rfl⟩
         have hnr : v.ownBlock ≠ some gr := fun e => by
           obtain ⟨_, ks, hb⟩ := own_lt_ hSw.own e
           have := hb.size
           omega
         have hab := ((Below.refl wS.heap.size wS).alloc (Nat.le_refl _) (.cells #[.pointer (some ⟨x, 0, none⟩)] bpT))
         refine ⟨hSw.below hab, fun w' => BoxAt w' x 0 op0 re0 ∧ Blk w' gr bpT #[.pointer (some ⟨x, 0, none⟩)], (fun a b hx hy => ⟨Blk.below_ hx.1 hy (Blk.size hx.1), hx.2.below_ hy hx.2.size⟩), ⟨Blk.below_ hDw hab (Blk.size hDw), Blk.new_ hgr.symm⟩, ?_⟩
         rw [hgr]
         have HNR := Lib.hid hnr
         clear hSw hDw hab hgr hnr
         try simp only [Act.put, List.getElem_toArray, List.getElem_cons_zero, List.getElem_cons_succ, List.setIfInBounds_toArray, List.set_cons_zero, List.set_cons_succ]
         refine anyU_last (i := 7) (by kernel_rfl) (by kernel_rfl) (fun wS hSw hDw => one_op rfl (by rfl) ?_)
         obtain ⟨i0, hi0, hz0, hz1, hz2⟩ := inf_of bpinfo
         refine wp_append_lies wS _ _ _ (by rfl) w.heap.size bpT i0 _ 1 8 (by kernel_rfl) hi0 hz0 hz1 hz2 rfl (by decide) v k (ptrs ab k) (by rfl) hSw.own ⟨gr, 0, none⟩ 1 1 [.pointer (some ⟨x, 0, none⟩)] (by rfl) (by rfl) (World.news_of_block (cs := #[.pointer (some ⟨x, 0, none⟩)]) (t := bpT) (fr := (0, 0)) hDw.2) (fun u hu => by rw [List.mem_singleton.1 hu]; rfl) (by omega) (by unfold maxLen; omega) (by omega) hSw.x.below.size wS.heap.size rfl ?_
         intro gg cap1 wn hown1 hgrow hat hlt
         have hm := hSw.more hDw.1 HXW.out HXI.out hgrow hown1
         have f3 : wn.cell? ⟨f, 3, none⟩ = some v := (hgrow.cell_far ⟨f, 3, none⟩ hSw.fA.size (fun e => by obtain ⟨_, ks, hb⟩ := own_lt_ hSw.own e.symm; exact hb.other hSw.fA (by decide) rfl)).trans (hSw.fA.val (i := 3) rfl)
         have z3 : wn.frozen? ⟨f, 3, none⟩ = false := (hgrow.frozen_far ⟨f, 3, none⟩ hSw.fA.size (fun e => by obtain ⟨_, ks, hb⟩ := own_lt_ hSw.own e.symm; exact hb.other hSw.fA (by decide) rfl)).trans (hSw.fA.free 3)
         have HM := Lib.hid hm
         clear hSw hDw hown1 hgrow hat hlt hm HLP HNR
         try simp only [Act.put, List.getElem_toArray, List.getElem_cons_zero, List.getElem_cons_succ, List.setIfInBounds_toArray, List.set_cons_zero, List.set_cons_succ]
         refine any_one (i := 8) (by kernel_rfl) rfl (by rfl) ?_
         unfold Oper.wp
         go_simp
         try simp only [Act.put, List.getElem_toArray, List.getElem_cons_zero, List.getElem_cons_succ, List.setIfInBounds_toArray, List.set_cons_zero, List.set_cons_succ]
         refine any_one (i := 9) (by kernel_rfl) rfl (by rfl) ?_
         unfold Oper.wp
         go_simp
         try simp only [Act.put, List.getElem_toArray, List.getElem_cons_zero, List.getElem_cons_succ, List.setIfInBounds_toArray, List.set_cons_zero, List.set_cons_succ]
         refine any_one (i := 10) (by kernel_rfl) rfl (by rfl) ?_
         unfold Oper.wp
         go_simp
         refine any_done (by kernel_rfl) ?_ _
         refine NoPanic.normal ?_
         clear f3 z3
         go_wp2_with fail
         go_roundw
         case rel => exact ⟨k + 1, _, _, by omega, by go_num, HM.out⟩
         case measure => simp [intOf]; omega
       · obtain rfl : k = N := by omega
         have j1 : ¬ (k : Int) < (k : Int) := by omega
         go_upto_region 10 with fail
         obtain ⟨gs, hgs⟩ : ∃ x, wr.heap.size = x := ⟨_, rfl⟩
         have hb1 : Below wr.heap.size wr ((wr.alloc (.cells #[] apT)).alloc (.cells #[.slice (some ⟨gs, 0, none⟩) 0 0] asT)) := ((Below.refl _ _).alloc (Nat.le_refl _) _).alloc (by simp) _
         have hv1 : (wr.alloc (.cells #[] apT)).ownsRow 0 apT 11 (.slice (some ⟨wr.heap.size, 0, none⟩) 0 0) 0 (flatA []) := World.ownsRow_lit wr #[] 0 (Nat.zero_le _) (by decide) rfl
         rw [hgs] at hv1
         have hv2 : ((wr.alloc (.cells #[] apT)).alloc (.cells #[.slice (some ⟨gs, 0, none⟩) 0 0] asT)).ownsRow 0 apT 11 (.slice (some ⟨gs, 0, none⟩) 0 0) 0 (flatA []) := own_kept hv1 (Kept.of_below (own := fun _ => False) ((Below.refl _ _).alloc (Nat.le_refl _) _)) (fun _ _ _ h => h)
         have hx2 : Blk ((wr.alloc (.cells #[] apT)).alloc (.cells #[.slice (some ⟨gs, 0, none⟩) 0 0] asT)) (gs + 1) asT #[.slice (some ⟨gs, 0, none⟩) 0 0] := Blk.new_ (by simp [hgs])
         have hlp2 := HLP.out.below hb1
         have hgw : w.heap.size ≤ gs := by have := HLP.out.x.below.size; omega
         go_wp2_with fail
         (try rw [hgs])
         obtain ⟨W, hW⟩ : ∃ W, ((wr.alloc (.cells #[] apT)).alloc (.cells #[.slice (some ⟨gs, 0, none⟩) 0 0] asT)) = W := ⟨_, rfl⟩
         rw [hW] at hlp2 hx2 hv2 ⊢
         clear hW hb1 hv1 HLP
         refine (apstorep f 6 (gs + 1) _ _ W (hlp2.fA.val (i := 6) rfl) (hlp2.fA.free 6) hx2).mono ?_
         rintro e w6 ⟨rfl, rfl⟩
         obtain ⟨O', hfl, hO'⟩ := hlp2.front (by omega) hx2 hv2 (by omega) (fun y e => Nat.le_trans hgw (Nat.le_of_eq (by simpa [Value.ownBlock] using e)))
         have hbl := hlp2.x.below.setCell (p := ⟨f, 6, none⟩) hlp2.low.2.2 (.pointer (some ⟨gs + 1, 0, none⟩))
         have HFL := Lib.hid hfl
         have HO2 := Lib.hid hO'
         have HBL := Lib.hid hbl
         clear hfl hO' hbl hlp2 hx2 hv2 hgs hgw
         go_wp2
         go_ret2
         exact ⟨.inr ⟨HV.out, f, O', k, n, Nc, nc, rfl, rfl, rfl, HCO.out, HFL.out, HO2.out⟩, HBL.out⟩
   · refine ⟨by rfl, fun wS hSw hDw => one_op rfl (by rfl) ?_⟩
     unfold Oper.wp
     go_simp
     obtain ⟨gc, hgce⟩ : ∃ x, wS.heap.size = x := ⟨_, rfl⟩
     have hgw : w.heap.size ≤ gc := by have := hSw.below.size; omega
     have hab := ((Below.refl wS.heap.size wS).alloc (Nat.le_refl _) (.cells (madeCells z13 (N * 13)) caT))
     refine ⟨hSw.low hab, fun w' => Blk w' gc caT (madeCells z13 (N * 13)) ∧ w.heap.size ≤ gc, (fun x y hx hy => ⟨hx.1.below_ hy hx.1.size, hx.2⟩), ⟨Blk.new_ hgce.symm, hgw⟩, ?_⟩
     rw [hgce]
     clear hSw hDw hab hgce hgw
     try simp only [Act.put, List.getElem_toArray, List.getElem_cons_zero, List.getElem_cons_succ, List.setIfInBounds_toArray, List.set_cons_zero, List.set_cons_succ]
     refine anyU_pick (rs := [2]) (by kernel_rfl) (by simp) (fun i hi => ?_)
     obtain rfl : i = 2 := List.mem_singleton.1 hi
     clear hi
     refine ⟨by rfl, fun wS hSw hDw => one_op rfl (by rfl) ?_⟩
     refine op_call 50 #[] (by first | rfl | (go_simp; done)) ?_
     refine (lk_new wS).mono ?_
     rintro e wn ⟨rfl, hlk, hbn⟩
     obtain ⟨lk, hlke⟩ : ∃ x, wS.heap.size = x := ⟨_, rfl⟩
     have hlw : w.heap.size ≤ lk := by have := hSw.below.size; omega
     refine ⟨_, rfl, hSw.low hbn, fun w' => (LkAt w' lk (-1) ∧ w.heap.size ≤ lk) ∧ (Blk w' gc caT (madeCells z13 (N * 13)) ∧ w.heap.size ≤ gc), (fun x y hx hy => ⟨⟨Blk.below_ hx.1.1 hy (Blk.size hx.1.1), hx.1.2⟩, ⟨hx.2.1.below_ hy hx.2.1.size, hx.2.2⟩⟩), ⟨⟨hlke ▸ hlk, hlw⟩, ⟨hDw.1.below_ hbn hDw.1.size, hDw.2⟩⟩, ?_⟩
     rw [hlke]
     clear hSw hDw hlk hbn hlke hlw
     try simp only [Act.put, List.getElem_toArray, List.getElem_cons_zero, List.getElem_cons_succ, List.setIfInBounds_toArray, List.set_cons_zero, List.set_cons_succ]
     refine anyU_one (i := 6) (v := ?_) (by kernel_rfl) rfl (YieldsS.of_if (Or.inl ⟨by rfl, ?_⟩)) ?_
     rotate_left
     · (intro wS hSw; (first | (go_simp; done) | (go_simp; with_reducible rfl)))
     try simp only [Act.put, List.getElem_toArray, List.getElem_cons_zero, List.getElem_cons_succ, List.setIfInBounds_toArray, List.set_cons_zero, List.set_cons_succ]
     refine anyU_pick (rs := [7]) (by kernel_rfl) (by simp) (fun i hi => ?_)
     obtain rfl : i = 7 := List.mem_singleton.1 hi
     clear hi
     refine ⟨by rfl, fun wS hSw hDw => one_op rfl (by rfl) ?_⟩
     unfold Oper.wp
     go_simp
     obtain ⟨f, hfe⟩ : ∃ x, wS.heap.size = x := ⟨_, rfl⟩
     have hfw : w.heap.size ≤ f := by have := hSw.below.size; omega
     have hab := ((Below.refl wS.heap.size wS).alloc (Nat.le_refl _) (.cells #[.pointer (some ⟨p, 0, none⟩), .pointer (some ⟨r, 0, none⟩), .pointer (some ⟨lk, 0, none⟩), .slice none 0 0, .slice (some ⟨gc, 0, none⟩) N N, .int .i64 0, .pointer none] frT))
     refine ⟨hSw.low hab, fun w' => ((LkAt w' lk (-1) ∧ w.heap.size ≤ lk) ∧ (Blk w' gc caT (madeCells z13 (N * 13)) ∧ w.heap.size ≤ gc)) ∧ (Blk w' f frT #[.pointer (some ⟨p, 0, none⟩), .pointer (some ⟨r, 0, none⟩), .pointer (some ⟨lk, 0, none⟩), .slice none 0 0, .slice (some ⟨gc, 0, none⟩) N N, .int .i64 0, .pointer none] ∧ w.heap.size ≤ f), (fun x y hx hy => ⟨⟨⟨Blk.below_ hx.1.1.1 hy (Blk.size hx.1.1.1), hx.1.1.2⟩, ⟨hx.1.2.1.below_ hy hx.1.2.1.size, hx.1.2.2⟩⟩, ⟨hx.2.1.below_ hy hx.2.1.size, hx.2.2⟩⟩), ⟨⟨⟨Blk.below_ hDw.1.1 hab (Blk.size hDw.1.1), hDw.1.2⟩, ⟨hDw.2.1.below_ hab hDw.2.1.size, hDw.2.2⟩⟩, ⟨Blk.new_ hfe.symm, hfw⟩⟩, ?_⟩
     rw [hfe]
     clear hSw hDw hab hfe hfw
     try simp only [Act.put, List.getElem_toArray, List.getElem_cons_zero, List.getElem_cons_succ, List.setIfInBounds_toArray, List.set_cons_zero, List.set_cons_succ]
     refine anyU_one (i := 8) (v := ?_) (by kernel_rfl) rfl (YieldsS.of_if (Or.inl ⟨by rfl, ?_⟩)) ?_
     rotate_left
     · (intro wS hSw; (first | (go_simp; done) | (go_simp; with_reducible rfl)))
     try simp only [Act.put, List.getElem_toArray, List.getElem_cons_zero, List.getElem_cons_succ, List.setIfInBounds_toArray, List.set_cons_zero, List.set_cons_succ]
     refine anyU_done (by kernel_rfl) (fun w4 hS4 hD4 => ?_) _
     refine NoPanic.normal ?_
     obtain ⟨⟨⟨hlk, hlkw⟩, ⟨hgc, hgcw⟩⟩, ⟨hfr, hfw⟩⟩ := hD4
     have hlp : FLp w w4 g p r s n N lk gc f O (newC ⟨ti, ro, ta, iv, hx, lo, dw, ho, sp, kp, ki, kd, lm, sx, (N : Int), (n : Int)⟩ Nc nc) #[.int .i64 ti, .int .i64 ro, .int .i64 ta, .int .i64 iv, .int .i64 hx, .int .i64 lo, .int .i64 dw, .int .i64 ho, .int .i64 sp, .int .i64 kp, .int .i64 ki, .int .i64 kd, .int .i64 lm, .int .i64 sx, .int .i64 (N : Int), .int .i64 (n : Int)] 0 (.slice none 0 0) (fun _ => 0) := ⟨hS4, hlk, hgc, hfr, World.ownsRow_nil _ _ _ _, (fun j hj => absurd hj (by omega)), (fun i j hi => absurd hi (by omega)), hlkw, hgcw, hfw⟩
     have k14 : w4.cell? ⟨g, 14, none⟩ = some (.int .i64 (N : Int)) := hS4.conf.val (i := 14) rfl
     have HLP := Lib.hid hlp
     clear hlp hS4 hlk hlkw hgc hgcw hfr hfw HX
     go_wp2_with fail
     go_loopw [33] (fun s33 wr => ∃ (k : Nat) (v : Value) (ab : Nat → Nat), k ≤ N ∧ s33 = .int .i64 (k : Int) ∧ FLp w wr g p r s n N lk gc f O (newC ⟨ti, ro, ta, iv, hx, lo, dw, ho, sp, kp, ki, kd, lm, sx, (N : Int), (n : Int)⟩ Nc nc) #[.int .i64 ti, .int .i64 ro, .int .i64 ta, .int .i64 iv, .int .i64 hx, .int .i64 lo, .int .i64 dw, .int .i64 ho, .int .i64 sp, .int .i64 kp, .int .i64 ki, .int .i64 kd, .int .i64 lm, .int .i64 sx, .int .i64 (N : Int), .int .i64 (n : Int)] k v ab) (fun s _ => N - (intOf s).toNat)
     case atStart => exact ⟨0, _, _, Nat.zero_le _, rfl, HLP.out⟩
     case round =>
       obtain ⟨k, v, ab, hk, rfl, hlp⟩ := hrel
       have HLP := Lib.hid hlp
       clear hlp k14
       by_cases hkn : k < N
       · have j1 : (k : Int) < (N : Int) := by omega
         go_upto_region 8 with fail
         refine wp_region_noPanic ?_
         refine wp_region_U (fun w' => FLp w w' g p r s n N lk gc f O (newC ⟨ti, ro, ta, iv, hx, lo, dw, ho, sp, kp, ki, kd, lm, sx, (N : Int), (n : Int)⟩ Nc nc) #[.int .i64 ti, .int .i64 ro, .int .i64 ta, .int .i64 iv, .int .i64 hx, .int .i64 lo, .int .i64 dw, .int .i64 ho, .int .i64 sp, .int .i64 kp, .int .i64 ki, .int .i64 kd, .int .i64 lm, .int .i64 sx, .int .i64 (N : Int), .int .i64 (n : Int)] k v ab) [5, 6] [7, 10] (by kernel_rfl) (HLP.out.below (Below.drew (Below.refl _ _))) ?_
         intro hsh0
         skip
         refine anyU_takeW (i := 0) (v := ?_) rfl (by kernel_rfl) (by kernel_rfl) (by kernel_rfl) (fun _ _ _ h => h) (by assumption) (Or.inl ⟨by rfl, ?_⟩) ?_
         rotate_left
         · (intro wS; (first | (go_simp; done) | (go_simp; with_reducible rfl)))
         intro hsh1
         clear hsh0
         try simp only [Act.put, List.getElem_toArray, List.getElem_cons_zero, List.getElem_cons_succ, List.setIfInBounds_toArray, List.set_cons_zero, List.set_cons_succ]
         refine anyU_tk 60 (i := 1) (v := ?_) rfl (fun _ _ _ h => h) (YieldsS.of_if (Or.inl ⟨by rfl, ?_⟩)) ?_
         rotate_left
         · (intro wS hSw; (try dsimp only at hSw); (first | (go_simp; done) | (go_simp; with_reducible rfl)))
         intro hsh2
         clear hsh1
         try simp only [Act.put, List.getElem_toArray, List.getElem_cons_zero, List.getElem_cons_succ, List.setIfInBounds_toArray, List.set_cons_zero, List.set_cons_succ]
         refine anyU_tk 60 (i := 2) (v := ?_) rfl (fun _ _ _ h => h) (YieldsS.of_if (Or.inl ⟨by rfl, ?_⟩)) ?_
         rotate_left
         · (intro wS hSw; (try dsimp only at hSw); (first | (go_simp; done) | (go_simp; with_reducible rfl)))
         intro hsh3
         clear hsh2
         try simp only [Act.put, List.getElem_toArray, List.getElem_cons_zero, List.getElem_cons_succ, List.setIfInBounds_toArray, List.set_cons_zero, List.set_cons_succ]
         refine anyU_tk 60 (i := 3) (v := ?_) rfl (fun _ _ _ h => h) (YieldsS.of_if (Or.inl ⟨by rfl, ?_⟩)) ?_
         rotate_left
         · (intro wS hSw; (try dsimp only at hSw); (first | (go_simp; done) | (go_simp; with_reducible rfl)))
         intro hsh4
         clear hsh3
         try simp only [Act.put, List.getElem_toArray, List.getElem_cons_zero, List.getElem_cons_succ, List.setIfInBounds_toArray, List.set_cons_zero, List.set_cons_succ]
         refine anyU_tk 60 (i := 4) (v := ?_) rfl (fun _ _ _ h => h) (YieldsS.of_if (Or.inl ⟨by rfl, ?_⟩)) ?_
         rotate_left
         · (intro wS hSw; (try dsimp only at hSw); have f3 : wS.cell? ⟨f, 3, none⟩ = some v := hSw.fA.val (i := 3) rfl; (first | (go_simp; done) | (go_simp; with_reducible rfl)))
         intro hsh5
         clear hsh4
         try simp only [Act.put, List.getElem_toArray, List.getElem_cons_zero, List.getElem_cons_succ, List.setIfInBounds_toArray, List.set_cons_zero, List.set_cons_succ]
         refine anyU_pick (rs := [5]) (by kernel_rfl) (by simp) (fun i hi => ?_)
         obtain rfl : i = 5 := List.mem_singleton.1 hi
         clear hi
         refine ⟨by rfl, fun wS hSw hDw => one_op rfl (by rfl) ?_⟩
         refine op_call 51 #[] (by first | rfl | (go_simp; done)) ?_
         refine (bx_new wS).mono ?_
         rintro e wn ⟨rfl, hbx, hbn⟩
         obtain ⟨x, hxe⟩ : ∃ x, wS.heap.size = x := ⟨_, rfl⟩
         have hxw : w.heap.size ≤ x := by have := hSw.x.below.size; omega
         have hxi : ∀ j, j < k → ab j ≠ x := fun j hj e => by have := Blk.size (hSw.box j hj).1; omega
         refine ⟨_, rfl, hSw.below hbn, fun w' => BoxAt w' x 0 op0 re0, (fun a b hx hy => Blk.below_ hx hy (Blk.size hx)), hxe ▸ hbx, ?_⟩
         rw [hxe]
         have HXW := Lib.hid hxw
         have HXI := Lib.hid hxi
         clear hSw hDw hbx hbn hxe hxw hxi
         try simp only [Act.put, List.getElem_toArray, List.getElem_cons_zero, List.getElem_cons_succ, List.setIfInBounds_toArray, List.set_cons_zero, List.set_cons_succ]
         refine anyU_pick (rs := [6]) (by kernel_rfl) (by simp) (fun i hi => ?_)
         obtain rfl : i = 6 := List.mem_singleton.1 hi
         clear hi
         refine ⟨by rfl, fun wS hSw hDw => one_op rfl (by rfl) ?_⟩
         unfold Oper.wp
         go_simp
         obtain ⟨gr, hgr⟩ : ∃ x, wS.heap.size = x := ⟨_, rfl⟩
         have hnr : v.ownBlock ≠ some gr := fun e => by
           obtain ⟨_, ks, hb⟩ := own_lt_ hSw.own e
           have := hb.size
           omega
         have hab := ((Below.refl wS.heap.size wS).alloc (Nat.le_refl _) (.cells #[.pointer (some ⟨x, 0, none⟩)] bpT))
         refine ⟨hSw.below hab, fun w' => BoxAt w' x 0 op0 re0 ∧ Blk w' gr bpT #[.pointer (some ⟨x, 0, none⟩)], (fun a b hx hy => ⟨Blk.below_ hx.1 hy (Blk.size hx.1), hx.2.below_ hy hx.2.size⟩), ⟨Blk.below_ hDw hab (Blk.size hDw), Blk.new_ hgr.symm⟩, ?_⟩
         rw [hgr]
         have HNR := Lib.hid hnr
         clear hSw hDw hab hgr hnr
         try simp only [Act.put, List.getElem_toArray, List.getElem_cons_zero, List.getElem_cons_succ, List.setIfInBounds_toArray, List.set_cons_zero, List.set_cons_succ]
         refine anyU_last (i := 7) (by kernel_rfl) (by kernel_rfl) (fun wS hSw hDw => one_op rfl (by rfl) ?_)
         obtain ⟨i0, hi0, hz0, hz1, hz2⟩ := inf_of bpinfo
         refine wp_append_lies wS _ _ _ (by rfl) w.heap.size bpT i0 _ 1 8 (by kernel_rfl) hi0 hz0 hz1 hz2 rfl (by decide) v k (ptrs ab k) (by rfl) hSw.own ⟨gr, 0, none⟩ 1 1 [.pointer (some ⟨x, 0, none⟩)] (by rfl) (by rfl) (World.news_of_block (cs := #[.pointer (some ⟨x, 0, none⟩)]) (t := bpT) (fr := (0, 0)) hDw.2) (fun u hu => by rw [List.mem_singleton.1 hu]; rfl) (by omega) (by unfold maxLen; omega) (by omega) hSw.x.below.size wS.heap.size rfl ?_
         intro gg cap1 wn hown1 hgrow hat hlt
         have hm := hSw.more hDw.1 HXW.out HXI.out hgrow hown1
         have f3 : wn.cell? ⟨f, 3, none⟩ = some v := (hgrow.cell_far ⟨f, 3, none⟩ hSw.fA.size (fun e => by obtain ⟨_, ks, hb⟩ := own_lt_ hSw.own e.symm; exact hb.other hSw.fA (by decide) rfl)).trans (hSw.fA.val (i := 3) rfl)
         have z3 : wn.frozen? ⟨f, 3, none⟩ = false := (hgrow.frozen_far ⟨f, 3, none⟩ hSw.fA.size (fun e => by obtain ⟨_, ks, hb⟩ := own_lt_ hSw.own e.symm; exact hb.other hSw.fA (by decide) rfl)).trans (hSw.fA.free 3)
         have HM := Lib.hid hm
         clear hSw hDw hown1 hgrow hat hlt hm HLP HNR
         try simp only [Act.put, List.getElem_toArray, List.getElem_cons_zero, List.getElem_cons_succ, List.setIfInBounds_toArray, List.set_cons_zero, List.set_cons_succ]
         refine any_one (i := 8) (by kernel_rfl) rfl (by rfl) ?_
         unfold Oper.wp
         go_simp
         try simp only [Act.put, List.getElem_toArray, List.getElem_cons_zero, List.getElem_cons_succ, List.setIfInBounds_toArray, List.set_cons_zero, List.set_cons_succ]
         refine any_one (i := 9) (by kernel_rfl) rfl (by rfl) ?_
         unfold Oper.wp
         go_simp
         try simp only [Act.put, List.getElem_toArray, List.getElem_cons_zero, List.getElem_cons_succ, List.setIfInBounds_toArray, List.set_cons_zero, List.set_cons_succ]
         refine any_one (i := 10) (by kernel_rfl) rfl (by rfl) ?_
         unfold Oper.wp
         go_simp
         refine any_done (by kernel_rfl) ?_ _
         refine NoPanic.normal ?_
         clear f3 z3
         go_wp2_with fail
         go_roundw
         case rel => exact ⟨k + 1, _, _, by omega, by go_num, HM.out⟩
         case measure => simp [intOf]; omega
       · obtain rfl : k = N := by omega
         have j1 : ¬ (k : Int) < (k : Int) := by omega
         go_upto_region 10 with fail
         obtain ⟨gs, hgs⟩ : ∃ x, wr.heap.size = x := ⟨_, rfl⟩
         have hb1 : Below wr.heap.size wr ((wr.alloc (.cells #[] apT)).alloc (.cells #[.slice (some ⟨gs, 0, none⟩) 0 0] asT)) := ((Below.refl _ _).alloc (Nat.le_refl _) _).alloc (by simp) _
         have hv1 : (wr.alloc (.cells #[] apT)).ownsRow 0 apT 11 (.slice (some ⟨wr.heap.size, 0, none⟩) 0 0) 0 (flatA []) := World.ownsRow_lit wr #[] 0 (Nat.zero_le _) (by decide) rfl
         rw [hgs] at hv1
         have hv2 : ((wr.alloc (.cells #[] apT)).alloc (.cells #[.slice (some ⟨gs, 0, none⟩) 0 0] asT)).ownsRow 0 apT 11 (.slice (some ⟨gs, 0, none⟩) 0 0) 0 (flatA []) := own_kept hv1 (Kept.of_below (own := fun _ => False) ((Below.refl _ _).alloc (Nat.le_refl _) _)) (fun _ _ _ h => h)
         have hx2 : Blk ((wr.alloc (.cells #[] apT)).alloc (.cells #[.slice (some ⟨gs, 0, none⟩) 0 0] asT)) (gs + 1) asT #[.slice (some ⟨gs, 0, none⟩) 0 0] := Blk.new_ (by simp [hgs])
         have hlp2 := HLP.out.below hb1
         have hgw : w.heap.size ≤ gs := by have := HLP.out.x.below.size; omega
         go_wp2_with fail
         (try rw [hgs])
         obtain ⟨W, hW⟩ : ∃ W, ((wr.alloc (.cells #[] apT)).alloc (.cells #[.slice (some ⟨gs, 0, none⟩) 0 0] asT)) = W := ⟨_, rfl⟩
         rw [hW] at hlp2 hx2 hv2 ⊢
         clear hW hb1 hv1 HLP
         refine (apstorep f 6 (gs + 1) _ _ W (hlp2.fA.val (i := 6) rfl) (hlp2.fA.free 6) hx2).mono ?_
         rintro e w6 ⟨rfl, rfl⟩
         obtain ⟨O', hfl, hO'⟩ := hlp2.front (by omega) hx2 hv2 (by omega) (fun y e => Nat.le_trans hgw (Nat.le_of_eq (by simpa [Value.ownBlock] using e)))
         have hbl := hlp2.x.below.setCell (p := ⟨f, 6, none⟩) hlp2.low.2.2 (.pointer (some ⟨gs + 1, 0, none⟩))
         have HFL := Lib.hid hfl
         have HO2 := Lib.hid hO'
         have HBL := Lib.hid hbl
         clear hfl hO' hbl hlp2 hx2 hv2 hgs hgw
         go_wp2
         go_ret2
         exact ⟨.inr ⟨HV.out, f, O', k, n, Nc, nc, rfl, rfl, rfl, HCO.out, HFL.out, HO2.out⟩, HBL.out⟩
end Go.Proofs.YtcffeokbipjaoaaGreat
