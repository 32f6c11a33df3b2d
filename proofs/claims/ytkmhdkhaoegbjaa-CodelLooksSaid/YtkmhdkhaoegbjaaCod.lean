/- CoDel's state and what each look says of it, as plain functions. No program. -/
import Derived.Test.YtkmhdkhaoegbjaaSatb
import Derived.Test.YtkmhdkhaoegbjaaRootc
namespace Go.Proofs.Ytkmhdkhaoegbjaa
open Go.RowKit Kn
structure Cst where
  ab : Bool
  fi : Int
  dr : Bool
  ne : Int
  co : Int
  la : Int
/-- The state as a value. -/
abbrev Cst.v (s : Cst) : Value := .agg #[.bool s.ab, .int .i64 s.fi, .bool s.dr, .int .i64 s.ne, .int .u64 s.co, .int .u64 s.la]
structure Cst.ok (s : Cst) : Prop where
  f0 : -9223372036854775808 ≤ s.fi
  f1 : s.fi ≤ 9223372036854775807
  n0 : -9223372036854775808 ≤ s.ne
  n1 : s.ne ≤ 9223372036854775807
  c0 : 0 ≤ s.co
  c1 : s.co ≤ 18446744073709551615
  l0 : 0 ≤ s.la
  l1 : s.la ≤ 18446744073709551615
def highB (t j b : Int) : Bool := decide (t ≤ j) && decide (1 < b)
def noteC (s : Cst) (i now : Int) (hb : Bool) : Cst :=
  bif hb then (bif s.ab then s else { s with ab := true, fi := sat (now + i) }) else { s with ab := false, fi := 0 }
def mayC (s : Cst) (now : Int) (hb : Bool) : Bool := s.ab && decide (s.fi ≤ now) && hb
def consC (s : Cst) (i now : Int) (hb : Bool) : Cst := { noteC s i now hb with dr := s.dr && mayC s now hb }
def upC (c : Int) : Int := if c < 18446744073709551615 then c + 1 else c
def timeC (s : Cst) (now : Int) : Cst × Int := if now < s.ne then (s, 0) else ({ s with co := upC s.co }, 1)
def beginN (s : Cst) (i now : Int) : Int :=
  let d := (s.co - s.la) % 18446744073709551616
  if 2 ≤ d ∧ d ≤ 9223372036854775808 ∧ sat (now - s.ne) < sat (16 * i) then d else 1
def beginC (s : Cst) (i now : Int) : Cst := { s with dr := true, co := beginN s i now, ne := sat (now + lawZ i (beginN s i now)), la := beginN s i now }
def lookC (s : Cst) (i now : Int) (hb : Bool) : Cst × Int :=
  bif mayC s now hb then (bif s.dr then timeC (consC s i now hb) now else (beginC (consC s i now hb) i now, 2)) else (consC s i now hb, 0)
def moreC (s : Cst) (i now : Int) (hb : Bool) : Cst × Int :=
  bif mayC s now hb then timeC { consC s i now hb with ne := sat (s.ne + lawZ i s.co) } now else (consC s i now hb, 0)
def emptyC (s : Cst) : Cst := { s with ab := false, fi := 0, dr := false }
end Go.Proofs.Ytkmhdkhaoegbjaa
