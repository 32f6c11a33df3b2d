/- Both slabs side by side: each call, and what stays. -/
import Derived.Test.YtjhcppiamkkdbaaSls
namespace Go.Proofs.Ytjhcppiamkkdbaa
open Go.RowKit
set_option linter.unusedVariables false
set_option linter.unusedSimpArgs false
section
variable {w0 w w' : World} {B : Nat} {x : Sn} {s : Sp} {r : Sr} {tv : Value} {ts : List Int} {ga : Nat} {ac : Array Value}
theorem sd_take_full (a b k d e : Int) (w : World) (h : Sd w0 w B x s r tv ts ga ac) (hm : s.m = 0) :
    Calls Try.prog 7 #[.pointer (some ⟨x.p, 0, none⟩), .agg #[.int .u64 a, .int .i64 b, .int .i64 k, .int .i64 d, .int .i64 e]] w fun e w' => e = .returned (.tuple #[.int .u64 0, .int .i64 4]) ∧ Sd w0 w' B x s r tv ts ga ac := by
  have hs := h.s
  rw [hm] at hs
  refine (sltake_full a b k d e w hs).mono ?_
  rintro e w' ⟨rfl, hb⟩
  exact ⟨rfl, h.below hb⟩
theorem sd_take_some {m i : Nat} (a b k d e : Int) (w : World) (h : Sd w0 w B x s r tv ts ga ac) (hm : s.m = m + 1) (hi : s.F m = i) (hF : i < x.n) (h0 : 0 ≤ s.H i) (h1 : s.H i + 4294967296 ≤ 18446744073709551615) :
    Calls Try.prog 7 #[.pointer (some ⟨x.p, 0, none⟩), .agg #[.int .u64 a, .int .i64 b, .int .i64 k, .int .i64 d, .int .i64 e]] w fun z w' => z = .returned (.tuple #[.int .u64 (s.H i + 4294967296), .int .i64 0]) ∧
      Sd w0 w' B x ⟨fun j => if j = i then s.H i + 4294967296 else s.H j, fun j => if j = i then true else s.T j, fun j => if j = i then ⟨a, b, k, d, e⟩ else s.R j, m, s.F⟩ r tv ts ga ac := by
  have hs := h.s
  rw [hm] at hs
  refine (sltake_any a b k d e w hs hi hF h0 h1).mono ?_
  rintro e w' ⟨rfl, h2, hk⟩
  exact ⟨rfl, h.prog h2 hk⟩
theorem sd_rtake_none (a b c d e : Int) (w : World) (h : Sd w0 w B x s r tv ts ga ac) (hl : r.l = []) :
    Calls Try.prog 8 #[.pointer (some ⟨x.q, 0, none⟩), .agg #[.int .u64 a, .int .i64 b, .int .i64 c, .int .i64 d, .int .i64 e]] w fun z w' => z = .returned (.tuple #[.int .u64 0, .int .i64 4]) ∧ Sd w0 w' B x s r tv ts ga ac := by
  obtain ⟨g4, o4, c4, hd, -, -⟩ := h.d
  rw [hl] at hd
  refine (rtake_none a b c d e w hd).mono ?_
  rintro z w' ⟨rfl, hb⟩
  exact ⟨rfl, h.below hb⟩
theorem sd_rtake_some {i : Nat} {l : List Nat} (a b c d e : Int) (w : World) (h : Sd w0 w B x s r tv ts ga ac) (hl : r.l = i :: l) (hi : i < x.n) (hn : x.n ≤ 1024) (u0 : 0 ≤ r.U i) (u1 : r.U i ≤ 1000000) :
    Calls Try.prog 8 #[.pointer (some ⟨x.q, 0, none⟩), .agg #[.int .u64 a, .int .i64 b, .int .i64 c, .int .i64 d, .int .i64 e]] w fun z w' => z = .returned (.tuple #[.int .u64 ((r.U i + 1) * 4294967296 + (i : Int)), .int .i64 0]) ∧
      Sd w0 w' B x s ⟨fun j => if j = i then ⟨a, b, c, d, e⟩ else r.Q j, fun j => if j = i then true else r.T j, fun j => if j = i then r.U i + 1 else r.U j, l⟩ tv ts ga ac := by
  obtain ⟨g4, o4, c4, hd, h4, h4'⟩ := h.d
  rw [hl] at hd
  refine (rtake_some a b c d e w hd hi hn u0 u1).mono ?_
  rintro z w' ⟨rfl, h5⟩
  exact ⟨rfl, h.doc_ hd h4 h4' h5⟩
theorem sd_free_no (g : Int) (w : World) (h : Sd w0 w B x s r tv ts ga ac) (h0 : 0 ≤ g) (h1 : g ≤ 18446744073709551615) (ha : aliveB x.n s.H s.T g = false) :
    Calls Try.prog 9 #[.pointer (some ⟨x.p, 0, none⟩), .int .u64 g] w fun e w' => e = .returned (.int .i64 6) ∧ Sd w0 w' B x s r tv ts ga ac := by
  refine (slfree_no g w h.s h0 h1 ha).mono ?_
  rintro e w' ⟨rfl, k, rfl⟩
  exact ⟨rfl, h.same⟩
theorem sd_free_yes {i : Nat} (g : Int) (w : World) (h : Sd w0 w B x s r tv ts ga ac) (h0 : 0 ≤ g) (h1 : g ≤ 18446744073709551615) (ha : aliveB x.n s.H s.T g = true) (hi : (g % 4294967296).toNat = i) (hm : s.m < x.n) :
    Calls Try.prog 9 #[.pointer (some ⟨x.p, 0, none⟩), .int .u64 g] w fun e w' => e = .returned (.int .i64 0) ∧
      Sd w0 w' B x ⟨s.H, fun j => if j = i then false else s.T j, fun j => if j = i then ⟨0, 0, 0, 0, 0⟩ else s.R j, s.m + 1, fun j => if j = s.m then i else s.F j⟩ r tv ts ga ac := by
  refine (slfree_yes g w h.s h0 h1 ha hi hm).mono ?_
  rintro e w' ⟨rfl, h2, hk⟩
  exact ⟨rfl, h.prog h2 hk⟩
theorem sd_drop_no (g : Int) (w : World) (h : Sd w0 w B x s r tv ts ga ac) (h0 : 0 ≤ g) (h1 : g ≤ 18446744073709551615) (hn : x.n ≤ 1024) (ha : atE x.n r.T r.U g = -1) :
    Calls Try.prog 10 #[.pointer (some ⟨x.q, 0, none⟩), .int .u64 g] w fun e w' => e = .returned (.int .i64 6) ∧ Sd w0 w' B x s r tv ts ga ac := by
  obtain ⟨g4, o4, c4, hd, -, -⟩ := h.d
  refine (rdrop_no g w hd h0 h1 hn ha).mono ?_
  rintro e w' ⟨rfl, rfl⟩
  exact ⟨rfl, h⟩
theorem sd_drop_yes {i : Nat} (g : Int) (w : World) (h : Sd w0 w B x s r tv ts ga ac) (h0 : 0 ≤ g) (h1 : g ≤ 18446744073709551615) (hn : x.n ≤ 1024) (ha : atE x.n r.T r.U g = (i : Int)) (hi : i < x.n) (hl : r.l.length ≤ 1024) :
    Calls Try.prog 10 #[.pointer (some ⟨x.q, 0, none⟩), .int .u64 g] w fun e w' => e = .returned (.int .i64 0) ∧ Sd w0 w' B x s ⟨r.Q, fun j => if j = i then false else r.T j, r.U, i :: r.l⟩ tv ts ga ac := by
  obtain ⟨g4, o4, c4, hd, h4, h4'⟩ := h.d
  refine (rdrop_yes g w hd h0 h1 hn ha hi hl).mono ?_
  rintro e w' ⟨rfl, h5⟩
  exact ⟨rfl, h.doc_ hd h4 h4' h5⟩
theorem sd_get_no (g : Int) (w : World) (h : Sd w0 w B x s r tv ts ga ac) (h0 : 0 ≤ g) (h1 : g ≤ 18446744073709551615) (ha : aliveB x.n s.H s.T g = false) :
    Calls Try.prog 11 #[.pointer (some ⟨x.p, 0, none⟩), .int .u64 g] w fun e w' => e = .returned (.tuple #[rqv ⟨0, 0, 0, 0, 0⟩, .int .i64 6]) ∧ Sd w0 w' B x s r tv ts ga ac := by
  refine (slget_no g w h.s h0 h1 ha).mono ?_
  rintro e w' ⟨rfl, hb⟩
  exact ⟨rfl, h.below hb⟩
theorem sd_get_yes {i : Nat} (g : Int) (w : World) (h : Sd w0 w B x s r tv ts ga ac) (h0 : 0 ≤ g) (h1 : g ≤ 18446744073709551615) (ha : aliveB x.n s.H s.T g = true) (hi : (g % 4294967296).toNat = i) :
    Calls Try.prog 11 #[.pointer (some ⟨x.p, 0, none⟩), .int .u64 g] w fun e w' => e = .returned (.tuple #[rqv (s.R i), .int .i64 0]) ∧ Sd w0 w' B x s r tv ts ga ac := by
  refine (slget_yes g w h.s h0 h1 ha hi).mono ?_
  rintro e w' ⟨rfl, hb⟩
  exact ⟨rfl, h.below hb⟩
theorem sd_at (g : Int) (w : World) (h : Sd w0 w B x s r tv ts ga ac) (h0 : 0 ≤ g) (h1 : g ≤ 18446744073709551615) (hn : x.n ≤ 1024) :
    Calls Try.prog 12 #[.pointer (some ⟨x.q, 0, none⟩), .int .u64 g] w fun e w' => e = .returned (.int .i64 (atE x.n r.T r.U g)) ∧ w = w' := by
  obtain ⟨g4, o4, c4, hd, -, -⟩ := h.d
  exact rat_any g w hd h0 h1 hn
theorem sd_len (w : World) (h : Sd w0 w B x s r tv ts ga ac) :
    Calls Try.prog 13 #[.pointer (some ⟨x.p, 0, none⟩)] w fun e w' => e = .returned (.int .i64 ((x.n : Int) - s.m)) ∧ Sd w0 w' B x s r tv ts ga ac := by
  refine (sllen_any w h.s).mono ?_
  rintro e w' ⟨k, rfl, rfl⟩
  exact ⟨rfl, h.same⟩
theorem sd_rlen (w : World) (h : Sd w0 w B x s r tv ts ga ac) (hn : x.n ≤ 1024) (hl : r.l.length ≤ x.n) :
    Calls Try.prog 14 #[.pointer (some ⟨x.q, 0, none⟩)] w fun e w' => e = .returned (.int .i64 ((x.n : Int) - (r.l.length : Int))) ∧ Sd w0 w' B x s r tv ts ga ac := by
  obtain ⟨g4, o4, c4, hd, -, -⟩ := h.d
  refine (rlen_any w hd hn hl).mono ?_
  rintro e w' ⟨k, rfl, rfl⟩
  exact ⟨rfl, h.same⟩
theorem sd_room (w : World) (h : Sd w0 w B x s r tv ts ga ac) :
    Calls Try.prog 15 #[.pointer (some ⟨x.p, 0, none⟩)] w fun e w' => e = .returned (.int .i64 (x.n : Int)) ∧ w = w' :=
  slroom_any w h.s
end
end Go.Proofs.Ytjhcppiamkkdbaa
