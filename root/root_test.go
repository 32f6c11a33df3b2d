package root_test

import (
	"math"
	"math/big"
	"math/rand"
	"testing"

	"overfall/root"
	"overfall/wide"
)

const full = math.MaxUint64

// numbers are edges of uint64, all small numbers, and numbers of every size in between.
func numbers() []uint64 {
	l := []uint64{full, full - 1, 1<<63 - 1, 1 << 63, 1<<63 + 1, 1<<53 - 1, 1 << 53, 1<<53 + 1}
	for n := range uint64(300) {
		l = append(l, n)
	}
	r := rand.New(rand.NewSource(3))
	for range 1000 {
		l = append(l, r.Uint64()>>r.Intn(64))
	}
	return l
}

func bigOf(n wide.Num) *big.Int {
	b := new(big.Int).SetUint64(n.Hi)
	return b.Lsh(b, 64).Add(b, new(big.Int).SetUint64(n.Lo))
}

// P3.1

func TestSqrtEdges(t *testing.T) {
	for _, c := range []struct{ n, want uint64 }{
		{0, 0}, {1, 1}, {2, 1}, {3, 1}, {4, 2}, {5, 2}, {8, 2}, {9, 3}, {99, 9}, {100, 10},
		{1<<32 - 1, 1<<16 - 1}, {1 << 32, 1 << 16}, {1<<62 - 1, 1<<31 - 1}, {1 << 62, 1 << 31}, {1 << 63, 3037000499},
		{1<<64 - 1<<33, 1<<32 - 2}, {1<<64 - 1<<33 + 1, 1<<32 - 1}, {full, 1<<32 - 1}, // around the greatest square
		{4503599761588224, 67108864}, {4503599761588225, 67108865}, {4503599761588226, 67108865}, // where floats lose digits
		{9223372037000249999, 3037000499}, {9223372037000250000, 3037000500},
	} {
		if got := root.Sqrt(c.n); got != c.want {
			t.Errorf("the root of %d is %d, not %d", c.n, got, c.want)
		}
	}
}

func TestSqrtAndSquareAroundSquares(t *testing.T) {
	for _, n := range numbers() {
		v := n >> 32
		if n < 1<<32 {
			v = n
		}
		if root.Sqrt(v*v) != v || !root.Square(v*v) {
			t.Fatalf("%d squared: root %d", v, root.Sqrt(v*v))
		}
		if v > 0 && root.Sqrt(v*v-1) != v-1 || v > 1 && root.Square(v*v-1) {
			t.Fatalf("%d squared, less 1: root %d", v, root.Sqrt(v*v-1))
		}
		if root.Sqrt(v*v+2*v) != v || v > 0 && (root.Square(v*v+1) || root.Square(v*v+2*v)) {
			t.Fatalf("%d squared, and more: root %d", v, root.Sqrt(v*v+2*v))
		}
	}
}

func TestSquareEdges(t *testing.T) {
	for n, want := range map[uint64]bool{
		0: true, 1: true, 2: false, 3: false, 4: true, 5: false, 15: false, 16: true, 17: false,
		1 << 32: true, 1<<32 + 1: false, 1 << 62: true, 1 << 63: false,
		1<<64 - 1<<33 + 1: true, 1<<64 - 1<<33: false, 1<<64 - 1<<33 + 2: false, full: false,
	} {
		if root.Square(n) != want {
			t.Errorf("%d as a square: %v", n, !want)
		}
	}
}

func TestWideEdges(t *testing.T) {
	for _, c := range []struct {
		n    wide.Num
		want uint64
	}{
		{wide.Num{}, 0}, {wide.Of(1), 1}, {wide.Of(3), 1}, {wide.Of(4), 2}, {wide.Of(full), 1<<32 - 1},
		{wide.Num{Hi: 1}, 1 << 32}, {wide.Num{Hi: 1, Lo: 1 << 33}, 1 << 32}, {wide.Num{Hi: 1, Lo: 1<<33 + 1}, 1<<32 + 1},
		{wide.Num{Hi: 1 << 62}, 1 << 63}, {wide.Num{Hi: 1<<62 - 1, Lo: full}, 1<<63 - 1},
		{wide.Num{Hi: 1 << 63}, 13043817825332782212},
		{wide.Num{Hi: full - 1, Lo: 1}, full}, {wide.Num{Hi: full - 1}, full - 1}, // the greatest square, and 1 less
		{wide.Num{Hi: full, Lo: full}, full},
	} {
		if got := root.Wide(c.n); got != c.want {
			t.Errorf("the root of %v is %d, not %d", c.n, got, c.want)
		}
	}
}

func TestRootsOfNumbers(t *testing.T) {
	l := numbers()
	for i, n := range l {
		if got, want := root.Sqrt(n), new(big.Int).Sqrt(new(big.Int).SetUint64(n)); got != want.Uint64() {
			t.Fatalf("the root of %d is %d, not %d", n, got, want)
		}
		square := wide.Mul(n, n)
		below, under := square.Sub(wide.Of(1))
		for _, m := range []wide.Num{square, below, {Hi: n, Lo: l[len(l)-1-i]}} {
			if got, want := root.Wide(m), new(big.Int).Sqrt(bigOf(m)); got != want.Uint64() {
				t.Fatalf("the root of %v is %d, not %d", m, got, want)
			}
		}
		if root.Wide(square) != n || !under && root.Wide(below) != n-1 {
			t.Fatalf("the root of %d squared is %d, of 1 less %d", n, root.Wide(square), root.Wide(below))
		}
	}
}

// P3.2

const most = math.MaxInt64

func TestLawEdges(t *testing.T) {
	for _, c := range []struct {
		interval int64
		n        uint64
		want     int64
	}{
		{100, 1, 100}, {100, 2, 70}, {100, 3, 57}, {100, 4, 50}, {100, 5, 44},
		{100, 9999, 1}, {100, 10000, 1}, {100, 10001, 0}, {100, full, 0},
		{100, 0, 100}, {0, 0, 0}, {0, 1, 0}, {0, full, 0}, {1, 1, 1}, {1, 2, 0},
		{-1, 0, 0}, {-1, 1, 0}, {-100, 4, 0}, {math.MinInt64, 1, 0}, {math.MinInt64, 0, 0}, {math.MinInt64, full, 0},
		{most, 0, most}, {most, 1, most}, {most, 2, 6521908912666391105}, {most, 4, 1<<62 - 1}, {most, full, 1<<31 - 1},
		{1 << 62, 1 << 63, 1518500249}, {1 << 32, full, 1}, {1<<32 - 1, full, 0},
	} {
		if got := root.Law(c.interval, c.n); got != c.want {
			t.Errorf("%d by the root of %d is %d, not %d", c.interval, c.n, got, c.want)
		}
	}
}

// withinSquare reports whether v v n is at most the interval's square.
func withinSquare(v int64, n uint64, interval int64) bool {
	product := new(big.Int).Mul(big.NewInt(v), big.NewInt(v))
	product.Mul(product, new(big.Int).SetUint64(n))
	return product.Cmp(new(big.Int).Mul(big.NewInt(interval), big.NewInt(interval))) <= 0
}

func TestLawOfNumbers(t *testing.T) {
	l := numbers()
	for i, x := range l {
		interval := int64(x >> 1)
		for _, n := range []uint64{0, 1, 2, 3, 7, 1000, 1 << 32, full, l[len(l)-1-i]} {
			v := root.Law(interval, n)
			if !withinSquare(v, max(n, 1), interval) || v < most && withinSquare(v+1, max(n, 1), interval) {
				t.Fatalf("%d by the root of %d is %d", interval, n, v)
			}
			if below := root.Law(-1-interval, n); below != 0 {
				t.Fatalf("%d by the root of %d is %d", -1-interval, n, below)
			}
		}
	}
}

// P2 of the document: an answer hangs on nothing but the arguments.
func TestSameAnswerAgain(t *testing.T) {
	ask := func(n uint64) [3]uint64 {
		return [3]uint64{root.Sqrt(n), root.Wide(wide.Num{Hi: n, Lo: n}), uint64(root.Law(int64(n), n))}
	}
	for _, n := range numbers() {
		first := ask(n)
		ask(n + 1)
		if again := ask(n); again != first || root.Square(n) != root.Square(n) {
			t.Fatalf("%d: %v, then %v", n, first, again)
		}
	}
}
