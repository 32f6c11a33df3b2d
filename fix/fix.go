// Package fix implements saturating integer and fixed-point arithmetic: see shared/doc/02-fix.md.
package fix

import "overfall/wide"

// Q represents the number q / 2^32.
type Q int64

// One is the number 1; Most and Least are the bounds to which results are saturated.
const (
	One   Q     = 1 << 32
	Most  int64 = 1<<63 - 1
	Least int64 = -1 << 63
)

// point is the number of bits of a Q behind the point.
const point = 32

// Add compares before it adds, since a sum that is too great would wrap round; Sub likewise.
func Add(a, b int64) int64 {
	if b > 0 && a > Most-b {
		return Most
	}
	if b < 0 && a < Least-b {
		return Least
	}
	return a + b
}

func Sub(a, b int64) int64 {
	if b < 0 && a > Most+b {
		return Most
	}
	if b > 0 && a < Least+b {
		return Least
	}
	return a - b
}

func Neg(a int64) int64 { return Sub(0, a) }

func Mul(a, b int64) int64 {
	return saturate(below(a, b), wide.Mul(size(a), size(b)))
}

func Clamp(x, low, high int64) int64 {
	if x < low {
		return low
	}
	if x > high {
		return high
	}
	return x
}

func Whole(n int64) Q { return Q(Mul(n, int64(One))) }

func Ratio(a, b int64) Q {
	if b == 0 {
		return Q(unbounded(a))
	}
	n, rest := wide.Of(size(a)).Left(point).Div(size(b))
	return Q(round(below(a, b), n, rest))
}

// Floor shifts, since a division would round up below 0.
func (q Q) Floor() int64 { return int64(q >> point) }

func (q Q) Plus(p Q) Q { return Q(Add(int64(q), int64(p))) }

func (q Q) Less(p Q) Q { return Q(Sub(int64(q), int64(p))) }

func (q Q) Times(p Q) Q { return Q(product(int64(q), int64(p))) }

// Over is the ratio of the underlying integers, since 2^32 is in both and cancels out.
func (q Q) Over(p Q) Q { return Ratio(int64(q), int64(p)) }

// Of is the same product as Times, since here 2^32 is in one factor and not in the result.
func (q Q) Of(n int64) int64 { return product(int64(q), n) }

// product returns a times b / 2^32, rounded down and saturated.
func product(a, b int64) int64 {
	n, rest := wide.Mul(size(a), size(b)).Div(1 << point)
	return round(below(a, b), n, rest)
}

// unbounded returns the quotient of a and 0.
func unbounded(a int64) int64 {
	if a > 0 {
		return Most
	}
	if a < 0 {
		return Least
	}
	return 0
}

// below reports whether a product or quotient of a and b is negative, if it isn't 0.
func below(a, b int64) bool { return (a < 0) != (b < 0) }

// size returns a without its sign.
func size(a int64) uint64 {
	if a < 0 {
		return -uint64(a) // unsigned first, since 2^63 is no int64
	}
	return uint64(a)
}

// round returns the number of size n plus a fraction, which is 0 if rest is 0, rounded down and saturated.
func round(negative bool, n wide.Num, rest uint64) int64 {
	if negative && rest != 0 {
		n, _ = n.Add(wide.Of(1)) // down is away from 0 here; every n is below 2^96, so it fits
	}
	return saturate(negative, n)
}

// saturate returns the number of size n, saturated.
func saturate(negative bool, n wide.Num) int64 {
	if negative {
		if n.Cmp(wide.Of(size(Least))) > 0 {
			return Least
		}
		return int64(-n.Lo)
	}
	if n.Cmp(wide.Of(size(Most))) > 0 {
		return Most
	}
	return int64(n.Lo)
}
