package swing_test

import (
	"math"
	"math/big"
	"math/rand"
	"slices"
	"testing"

	"overfall/swing"
)

const (
	most  = math.MaxInt64
	least = math.MinInt64
	bound = 1 << 20
	paths = 1000 // the most points of a path
)

func p(u, level int64) complex128 { return complex(float64(u), float64(level)) }

// square is the chapter's example, counterclockwise.
func square() []complex128 { return []complex128{0, 2, 2 + 2i, 2i} }

// frame is the greatest square of all, counterclockwise.
func frame() []complex128 {
	return []complex128{p(-bound, -bound), p(bound, -bound), p(bound, bound), p(-bound, bound)}
}

func backward(l []complex128) []complex128 {
	l = slices.Clone(l)
	slices.Reverse(l)
	return l
}

// often repeats the path n times.
func often(l []complex128, n int) []complex128 { return slices.Repeat(l, n) }

// P12.1

func TestAt(t *testing.T) {
	for _, c := range []struct {
		u, level int64
		want     complex128
	}{
		{0, 0, 0},
		{3, 4, 3 + 4i},
		{-3, 4, -3 + 4i},
		{3, -4, 3 - 4i},
		{bound, -bound, p(bound, -bound)},
		{-bound, bound, p(-bound, bound)},
		{bound - 1, 1 - bound, p(bound-1, 1-bound)},
		{bound + 1, 7, p(bound, 7)},
		{-bound - 1, 7, p(-bound, 7)},
		{7, bound + 1, p(7, bound)},
		{7, -bound - 1, p(7, -bound)},
		{most, least, p(bound, -bound)},
		{least, most, p(-bound, bound)},
		{1 << 32, -1 << 32, p(bound, -bound)},
	} {
		if got := swing.At(c.u, c.level); got != c.want {
			t.Errorf("%d, %d: %v", c.u, c.level, got)
		}
	}
}

// P12.2: Area

type path struct {
	name string
	l    []complex128
}

func TestArea(t *testing.T) {
	for _, c := range []struct {
		path
		want int64
	}{
		{path{"nothing", nil}, 0},
		{path{"an empty path", []complex128{}}, 0},
		{path{"one point", []complex128{5 + 3i}}, 0},
		{path{"to and fro", []complex128{5 + 3i, 7 - 2i}}, 0},
		{path{"the example", square()}, 8},
		{path{"clockwise", backward(square())}, -8},
		{path{"a triangle", []complex128{0, 1, 1i}}, 1},
		{path{"a triangle clockwise", []complex128{0, 1i, 1}}, -1},
		{path{"a triangle about 0", []complex128{-1 - 1i, 1 - 1i, 1i}}, 4},
		{path{"a triangle away from 0", []complex128{10 + 10i, 11 + 10i, 10 + 11i}}, 1},
		{path{"on a line", []complex128{0, 1 + 1i, 5 + 5i, 2 + 2i}}, 0},
		{path{"an eight", []complex128{0, 2 + 2i, 2, 2i}}, 0},
		{path{"an uneven eight", []complex128{0, 3 + 3i, 3, 1i}}, -9 + 3},
		{path{"twice", often(square(), 2)}, 16},
		{path{"there and back", append(square(), backward(square())...)}, 0},
		{path{"the frame", frame()}, 1 << 43},
		{path{"the frame clockwise", backward(frame())}, -1 << 43},
		{path{"the frame as often as a path can", often(frame(), paths/4)}, paths / 4 << 43},
		{path{"the frame less a corner", []complex128{p(-bound, -bound), p(bound, -bound), p(bound, bound-1), p(bound-1, bound), p(-bound, bound)}}, 1<<43 - 1},
	} {
		if got := swing.Area(c.l); got != c.want {
			t.Errorf("%s: %d, not %d", c.name, got, c.want)
		}
	}
}

// P12.2: Far

func TestFar(t *testing.T) {
	for _, c := range []struct {
		path
		from complex128
		want int64
	}{
		{path{"nothing", nil}, 3, 0},
		{path{"an empty path", []complex128{}}, 3, 0},
		{path{"the point itself", []complex128{5 + 3i}}, 5 + 3i, 0},
		{path{"3, 4, 5", []complex128{4 + 6i}}, 1 + 2i, 25},
		{path{"the first one", []complex128{9, 1, 2}}, 0, 81},
		{path{"the last one", []complex128{1, 2, 9}}, 0, 81},
		{path{"one between", []complex128{1, -9, 2}}, 0, 81},
		{path{"downwards", []complex128{1, -9i, 2}}, 1, 82},
		{path{"the example from its middle", square()}, 1 + 1i, 2},
		{path{"the example from a corner", square()}, 2, 8},
		{path{"the steps do not count", []complex128{-5, 5}}, 0, 25},
		{path{"across", []complex128{p(bound, bound)}}, p(-bound, -bound), 1 << 43},
		{path{"nearly across", []complex128{p(bound, bound-1)}}, p(-bound, -bound), 1<<43 - 1<<22 + 1},
	} {
		if got := swing.Far(c.l, c.from); got != c.want {
			t.Errorf("%s: %d, not %d", c.name, got, c.want)
		}
	}
}

// P12.2: Corners

func TestCorners(t *testing.T) {
	for _, c := range []struct {
		path
		low, high complex128
	}{
		{path{"nothing", nil}, 0, 0},
		{path{"an empty path", []complex128{}}, 0, 0},
		{path{"one point", []complex128{5 - 3i}}, 5 - 3i, 5 - 3i},
		{path{"the example", square()}, 0, 2 + 2i},
		{path{"all above 0", []complex128{3 + 9i, 5 + 4i}}, 3 + 4i, 5 + 9i},
		{path{"all below 0", []complex128{-3 - 9i, -5 - 4i}}, -5 - 9i, -3 - 4i},
		{path{"four points, one bound each", []complex128{-7 + 1i, 2 - 8i, 9 + 2i, 1 + 6i}}, -7 - 8i, 9 + 6i},
		{path{"the last one", []complex128{1 + 1i, 2 + 2i, -4 - 5i}}, -4 - 5i, 2 + 2i},
		{path{"the frame", frame()}, p(-bound, -bound), p(bound, bound)},
	} {
		low, high := swing.Corners(c.l)
		if low != c.low || high != c.high {
			t.Errorf("%s: %v, %v", c.name, low, high)
		}
	}
}

// P12.3: Turns

func TestTurns(t *testing.T) {
	star := []complex128{10, -8 + 6i, 3 - 10i, 3 + 10i, -8 - 6i} // each point is two fifths of a turn on
	for _, c := range []struct {
		path
		about complex128
		want  int
	}{
		{path{"nothing", nil}, 0, 0},
		{path{"an empty path", []complex128{}}, 0, 0},
		{path{"one point", []complex128{1 + 1i}}, 0, 0},
		{path{"the point itself", []complex128{1 + 1i}}, 1 + 1i, 0},
		{path{"to and fro", []complex128{-1 - 1i, 1 + 1i}}, 1i, 0},
		{path{"the example", square()}, 1 + 1i, 1},
		{path{"the example clockwise", backward(square())}, 1 + 1i, -1},
		{path{"left of it", square()}, -1 + 1i, 0},
		{path{"right of it", square()}, 3 + 1i, 0},
		{path{"above it", square()}, 1 + 3i, 0},
		{path{"below it", square()}, 1 - 1i, 0},
		{path{"left of it at the lower level", square()}, -1, 0},
		{path{"left of it at the upper level", square()}, -1 + 2i, 0},
		{path{"right of it at the lower level", square()}, 3, 0},
		{path{"right of it at the upper level", square()}, 3 + 2i, 0},
		{path{"twice", often(square(), 2)}, 1 + 1i, 2},
		{path{"twice clockwise", often(backward(square()), 2)}, 1 + 1i, -2},
		{path{"there and back", append(square(), backward(square())...)}, 1 + 1i, 0},
		{path{"as often as a path can", often(frame(), paths/4)}, 0, paths / 4},
		{path{"within the frame", frame()}, p(bound-1, bound-1), 1},
		{path{"within the frame, far", frame()}, p(1-bound, 1-bound), 1},
		{path{"a corner at its level", []complex128{-2i, 2, 2i, -2}}, 0, 1},
		{path{"a corner at its level, on the right", []complex128{-2i, 2, 2i, -2}}, -3, 0},
		{path{"a corner that turns back at its level", []complex128{-2 - 2i, 2 - 2i, 2 + 2i, 0, -2 + 2i}}, -1, 1},
		{path{"below a corner that turns back", []complex128{-2 - 2i, 2 - 2i, 2 + 2i, 0, -2 + 2i}}, -1i, 1},
		{path{"above a corner that turns back", []complex128{-2 - 2i, 2 - 2i, 2 + 2i, 0, -2 + 2i}}, 1i, 0},
		{path{"the inner part of a star", star}, 0, 2},
		{path{"a point of the star", star}, 8, 1},
		{path{"beside the star", star}, -9, 0},
		{path{"one part of an eight", []complex128{-4 - 4i, 4 + 4i, 4 - 4i, -4 + 4i}}, 3, -1},
		{path{"the other part of an eight", []complex128{-4 - 4i, 4 + 4i, 4 - 4i, -4 + 4i}}, -3, 1},
	} {
		if got := swing.Turns(c.l, c.about); got != c.want {
			t.Errorf("%s: %d, not %d", c.name, got, c.want)
		}
	}
}

// TestOnThePath: the words say too what a point adds that lies on the path itself.
func TestOnThePath(t *testing.T) {
	for _, c := range []struct {
		about complex128
		want  int
	}{
		{0, 1}, // the step up has it to its left, the one down goes through it
		{1, 1},
		{1i, 1},
		{2, 0}, // the step up goes through it
		{2 + 1i, 0},
		{2 + 2i, 0}, // no step goes beyond this level
		{1 + 2i, 0},
		{2i, 0},
	} {
		if got := swing.Turns(square(), c.about); got != c.want {
			t.Errorf("%v: %d, not %d", c.about, got, c.want)
		}
	}
}

// P12.3: Turned

func TestTurned(t *testing.T) {
	for _, c := range []struct{ l, want []complex128 }{
		{nil, nil},
		{[]complex128{}, nil},
		{[]complex128{0}, []complex128{0}},
		{[]complex128{1}, []complex128{1i}},
		{[]complex128{1i}, []complex128{-1}},
		{[]complex128{-1}, []complex128{-1i}},
		{[]complex128{-1i}, []complex128{1}},
		{[]complex128{3 + 4i, 5 - 2i}, []complex128{-4 + 3i, 2 + 5i}},
		{square(), []complex128{0, 2i, -2 + 2i, -2}},
		{frame(), []complex128{p(bound, -bound), p(bound, bound), p(-bound, bound), p(-bound, -bound)}},
	} {
		if got := swing.Turned(c.l); !slices.Equal(got, c.want) {
			t.Errorf("%v: %v, not %v", c.l, got, c.want)
		}
	}
}

func TestTurnedHasNoMinusZero(t *testing.T) {
	for _, q := range []complex128{0, 1, -1, 1i, -1i, p(-bound, 0), p(0, -bound)} {
		got := swing.Turned([]complex128{q})[0]
		if got != q*1i {
			t.Errorf("%v: %v", q, got)
		}
		if real(got) == 0 && math.Signbit(real(got)) || imag(got) == 0 && math.Signbit(imag(got)) {
			t.Errorf("%v: %v", q, got)
		}
	}
}

func TestTurnedIsNewMemory(t *testing.T) {
	all := square()
	spare := all[:2]
	turned := swing.Turned(spare)
	if !slices.Equal(all, square()) {
		t.Fatal("the argument is modified:", all)
	}
	turned = turned[:cap(turned)]
	for i := range turned {
		turned[i] = 77
	}
	_ = append(turned[:0], 78, 79)
	if !slices.Equal(all, square()) {
		t.Fatal("the result shares memory with the argument:", all)
	}
	again := swing.Turned(spare)
	spare[0], spare[1] = 80, 81
	if !slices.Equal(again, []complex128{0, 2i}) {
		t.Fatal("the result shares memory with another one or with the argument:", again)
	}
}

// What the words of P12.2 and P12.3 say, in integers.

type point struct{ u, level int64 }

func of(q complex128) point { return point{int64(real(q)), int64(imag(q))} }

func area(l []complex128) int64 {
	sum := new(big.Int)
	for i := range l {
		a, b := of(l[i]), of(l[0])
		if i+1 < len(l) {
			b = of(l[i+1])
		}
		sum.Add(sum, new(big.Int).Mul(big.NewInt(a.u), big.NewInt(b.level)))
		sum.Sub(sum, new(big.Int).Mul(big.NewInt(a.level), big.NewInt(b.u)))
	}
	return sum.Int64()
}

func winding(l []complex128, about complex128) int {
	n := 0
	for i := range l {
		a, b, q := of(l[i]), of(l[(i+1)%len(l)]), of(about)
		side := area([]complex128{l[i], l[(i+1)%len(l)], about})
		if a.level <= q.level && b.level > q.level && side > 0 {
			n++
		}
		if a.level > q.level && b.level <= q.level && side < 0 {
			n--
		}
	}
	return n
}

func far(l []complex128, from complex128) int64 {
	var most int64
	for _, q := range l {
		u, level := of(q).u-of(from).u, of(q).level-of(from).level
		most = max(most, u*u+level*level)
	}
	return most
}

func corners(l []complex128) (complex128, complex128) {
	if len(l) == 0 {
		return 0, 0
	}
	var us, levels []int64
	for _, q := range l {
		us = append(us, of(q).u)
		levels = append(levels, of(q).level)
	}
	return p(slices.Min(us), slices.Min(levels)), p(slices.Max(us), slices.Max(levels))
}

func check(t *testing.T, l []complex128, about complex128) {
	t.Helper()
	kept := slices.Clone(l)
	for range 2 { // P2: the same answers again
		if got, want := swing.Area(l), area(l); got != want {
			t.Fatalf("Area of %v: %d, not %d", l, got, want)
		}
		if got, want := swing.Far(l, about), far(l, about); got != want {
			t.Fatalf("Far of %v from %v: %d, not %d", l, about, got, want)
		}
		if got, want := swing.Turns(l, about), winding(l, about); got != want {
			t.Fatalf("Turns of %v about %v: %d, not %d", l, about, got, want)
		}
		low, high := swing.Corners(l)
		if a, b := corners(l); low != a || high != b {
			t.Fatalf("Corners of %v: %v, %v", l, low, high)
		}
		checkTurned(t, l, about)
	}
	if !slices.Equal(l, kept) {
		t.Fatalf("%v is now %v", kept, l)
	}
}

// checkTurned: a path that is rotated as a whole keeps what it encloses.
func checkTurned(t *testing.T, l []complex128, about complex128) {
	t.Helper()
	turned := swing.Turned(l)
	if len(turned) != len(l) {
		t.Fatalf("Turned of %v: %v", l, turned)
	}
	for i, q := range l {
		if turned[i] != p(-of(q).level, of(q).u) {
			t.Fatalf("Turned of %v: %v", l, turned)
		}
	}
	if swing.Area(turned) != area(l) || swing.Far(turned, about*1i) != far(l, about) {
		t.Fatalf("Turned of %v encloses something else", l)
	}
}

func TestAllSmallTriangles(t *testing.T) {
	var grid []complex128
	for u := range int64(3) {
		for level := range int64(3) {
			grid = append(grid, p(u-1, level-1))
		}
	}
	for _, a := range grid {
		for _, b := range grid {
			for _, c := range grid {
				for _, about := range grid {
					check(t, []complex128{a, b, c}, about)
				}
			}
		}
	}
}

func TestAgainstIntegers(t *testing.T) {
	r := rand.New(rand.NewSource(12))
	for _, size := range []int64{1, 2, 5, 1000, bound} {
		some := func() complex128 { return p(r.Int63n(2*size+1)-size, r.Int63n(2*size+1)-size) }
		for range 2000 {
			l := make([]complex128, r.Intn(9))
			for i := range l {
				l[i] = some()
			}
			check(t, l, some())
		}
	}
}

func TestLongPaths(t *testing.T) {
	r := rand.New(rand.NewSource(121))
	for range 20 {
		l := make([]complex128, paths)
		for i := range l {
			l[i] = p(r.Int63n(2*bound+1)-bound, r.Int63n(2*bound+1)-bound)
		}
		check(t, l, p(r.Int63n(2*bound+1)-bound, r.Int63n(2*bound+1)-bound))
	}
}

// P1: beyond points nothing is promised but that the calls end.

func TestNoPoints(t *testing.T) {
	parts := []float64{0, math.Copysign(0, -1), 0.5, -1, 1e300, -1e300, math.MaxFloat64, math.Inf(1), math.Inf(-1), math.NaN()}
	for _, a := range parts {
		for _, b := range parts {
			for _, c := range parts {
				l := []complex128{complex(a, b), complex(b, c), complex(c, a), 3}
				q := complex(c, b)
				swing.Area(l)
				swing.Far(l, q)
				swing.Turns(l, q)
				swing.Turned(l)
				swing.Corners(l)
			}
		}
	}
}

// The example of the chapter.

func TestExample(t *testing.T) {
	l := []complex128{swing.At(0, 0), swing.At(2, 0), swing.At(2, 2), swing.At(0, 2)}
	if a, n := swing.Area(l), swing.Turns(l, 1+1i); a != 8 || n != 1 {
		t.Error(a, n)
	}
}
