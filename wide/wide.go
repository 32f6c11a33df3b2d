// Package wide implements 128-bit integer arithmetic: see shared/doc/01-wide.md.
package wide

import (
	"math/bits"

	"overfall/api"
)

// Num is the number Hi times 2^64 plus Lo.
type Num struct {
	Hi, Lo uint64
}

// mostDigits is the number of decimal digits of 2^128 - 1.
const mostDigits = 39

func Of(x uint64) Num { return Num{Lo: x} }

func Mul(a, b uint64) Num {
	hi, lo := bits.Mul64(a, b)
	return Num{hi, lo}
}

func (n Num) Add(m Num) (Num, bool) {
	lo, carry := bits.Add64(n.Lo, m.Lo, 0)
	hi, over := bits.Add64(n.Hi, m.Hi, carry)
	return Num{hi, lo}, over != 0
}

func (n Num) Sub(m Num) (Num, bool) {
	lo, borrow := bits.Sub64(n.Lo, m.Lo, 0)
	hi, under := bits.Sub64(n.Hi, m.Hi, borrow)
	return Num{hi, lo}, under != 0
}

func (n Num) Cmp(m Num) int {
	if n == m {
		return 0
	}
	if n.Hi < m.Hi || n.Hi == m.Hi && n.Lo < m.Lo {
		return -1
	}
	return 1
}

func (n Num) Left(k int) Num {
	k = max(k, 0) // a negative shift count would panic
	if k >= 64 {
		return Num{Hi: n.Lo << (k - 64)}
	}
	return Num{n.Hi<<k | n.Lo>>(64-k), n.Lo << k}
}

func (n Num) Right(k int) Num {
	k = max(k, 0) // a negative shift count would panic
	if k >= 64 {
		return Num{Lo: n.Hi >> (k - 64)}
	}
	return Num{n.Hi >> k, n.Lo>>k | n.Hi<<(64-k)}
}

func (n Num) Div(d uint64) (Num, uint64) {
	if d == 0 {
		return Num{}, 0
	}
	// What is left of the upper half is below d, as Div64 needs it to be.
	lo, rest := bits.Div64(n.Hi%d, n.Lo, d)
	return Num{n.Hi / d, lo}, rest
}

func (n Num) Bits() int {
	if n.Hi != 0 {
		return 64 + bits.Len64(n.Hi)
	}
	return bits.Len64(n.Lo)
}

func (n Num) Text() string {
	var digits [mostDigits]byte
	start := len(digits)
digit: // at least once, since 0 has a digit, too
	quotient, rest := n.Div(10)
	start--
	digits[start] = '0' + byte(rest)
	n = quotient
	if n != (Num{}) {
		goto digit
	}
	return string(digits[start:])
}

func Parse(s string) (Num, api.Errno) {
	// The form comes first: a text that is wrong far behind is ErrText, however great the number before it.
	if !decimal(s) {
		return Num{}, api.ErrText
	}
	var n Num
	for i := range len(s) {
		longer, over := n.withDigit(s[i] - '0')
		if over {
			return Num{}, api.ErrOver
		}
		n = longer
	}
	return n, api.OK
}

// decimal reports whether s is written as Text writes a number of any size.
func decimal(s string) bool {
	for i := range len(s) {
		if s[i] < '0' || s[i] > '9' {
			return false
		}
	}
	return len(s) == 1 || len(s) > 1 && s[0] != '0'
}

func (n Num) withDigit(digit byte) (Num, bool) {
	upper := Mul(n.Hi, 10)
	if upper.Hi != 0 {
		return Num{}, true
	}
	tenfold, over := Mul(n.Lo, 10).Add(Num{Hi: upper.Lo})
	if over {
		return Num{}, true
	}
	return tenfold.Add(Of(uint64(digit)))
}
