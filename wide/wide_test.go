package wide_test

import (
	"math"
	"math/big"
	"math/rand"
	"strings"
	"testing"

	"overfall/api"
	"overfall/wide"
)

const full = math.MaxUint64

var modulus = new(big.Int).Lsh(big.NewInt(1), 128)

// halves are the halves of the numbers under test: the edges and a few in between.
func halves() []uint64 {
	return []uint64{0, 1, 2, 9, 10, 1<<32 - 1, 1 << 32, 1<<63 - 1, 1 << 63, 1<<63 + 1, full - 1, full}
}

func nums() []wide.Num {
	var l []wide.Num
	for _, hi := range halves() {
		for _, lo := range halves() {
			l = append(l, wide.Num{Hi: hi, Lo: lo})
		}
	}
	r := rand.New(rand.NewSource(1))
	for range 100 {
		l = append(l, wide.Num{Hi: r.Uint64() >> r.Intn(64), Lo: r.Uint64() >> r.Intn(64)})
	}
	return l
}

func bigOf(n wide.Num) *big.Int {
	b := new(big.Int).SetUint64(n.Hi)
	return b.Lsh(b, 64).Add(b, new(big.Int).SetUint64(n.Lo))
}

// numOf takes b modulo 2^128.
func numOf(b *big.Int) wide.Num {
	b = new(big.Int).Mod(b, modulus)
	hi := new(big.Int).Rsh(b, 64)
	lo := new(big.Int).Sub(b, new(big.Int).Lsh(hi, 64))
	return wide.Num{Hi: hi.Uint64(), Lo: lo.Uint64()}
}

// P1.1

func TestOf(t *testing.T) {
	for _, x := range halves() {
		if n := wide.Of(x); n != (wide.Num{Hi: 0, Lo: x}) {
			t.Errorf("Of(%d) is %v", x, n)
		}
	}
}

func TestMul(t *testing.T) {
	if n := wide.Mul(1<<32, 1<<32); n != (wide.Num{Hi: 1, Lo: 0}) {
		t.Errorf("2^32 times 2^32 is %v", n)
	}
	if n := wide.Mul(full, full); n != (wide.Num{Hi: full - 1, Lo: 1}) {
		t.Errorf("the greatest product is %v", n)
	}
	for _, n := range nums() {
		want := numOf(new(big.Int).Mul(new(big.Int).SetUint64(n.Hi), new(big.Int).SetUint64(n.Lo)))
		if got := wide.Mul(n.Hi, n.Lo); got != want {
			t.Errorf("Mul(%d, %d) is %v, not %v", n.Hi, n.Lo, got, want)
		}
	}
}

func TestAddEdges(t *testing.T) {
	most := wide.Num{Hi: full, Lo: full}
	for _, c := range []struct {
		n, m, sum wide.Num
		over      bool
	}{
		{wide.Of(2), wide.Of(3), wide.Of(5), false},
		{wide.Of(full), wide.Of(1), wide.Num{Hi: 1}, false}, // 2^64
		{most, wide.Of(0), most, false},
		{most, wide.Of(1), wide.Num{}, true}, // 2^128 itself
		{most, most, wide.Num{Hi: full, Lo: full - 1}, true},
		{wide.Num{Hi: 1 << 63}, wide.Num{Hi: 1 << 63}, wide.Num{}, true},
		{wide.Num{Hi: full}, wide.Of(full), most, false},
	} {
		if sum, over := c.n.Add(c.m); sum != c.sum || over != c.over {
			t.Errorf("%v and %v are %v, %v", c.n, c.m, sum, over)
		}
	}
}

func TestSubEdges(t *testing.T) {
	most := wide.Num{Hi: full, Lo: full}
	for _, c := range []struct {
		n, m, difference wide.Num
		under            bool
	}{
		{wide.Of(5), wide.Of(3), wide.Of(2), false},
		{wide.Num{Hi: 1}, wide.Of(1), wide.Of(full), false}, // 2^64 - 1
		{wide.Of(0), wide.Of(0), wide.Of(0), false},
		{wide.Of(0), wide.Of(1), most, true},
		{wide.Of(0), most, wide.Of(1), true},
		{most, most, wide.Num{}, false},
		{wide.Num{Hi: 1}, wide.Num{Hi: 1, Lo: 1}, most, true},
	} {
		if d, under := c.n.Sub(c.m); d != c.difference || under != c.under {
			t.Errorf("%v less %v is %v, %v", c.n, c.m, d, under)
		}
	}
}

func TestAddSubCmpOfPairs(t *testing.T) {
	for _, n := range nums() {
		for _, m := range nums() {
			a, b := bigOf(n), bigOf(m)
			exact := new(big.Int).Add(a, b)
			if sum, over := n.Add(m); sum != numOf(exact) || over != (exact.Cmp(modulus) >= 0) {
				t.Fatalf("%v and %v are %v, %v", n, m, sum, over)
			}
			exact.Sub(a, b)
			if d, under := n.Sub(m); d != numOf(exact) || under != (exact.Sign() < 0) {
				t.Fatalf("%v less %v is %v, %v", n, m, d, under)
			}
			if c := n.Cmp(m); c != a.Cmp(b) {
				t.Fatalf("%v to %v is %d", n, m, c)
			}
		}
	}
}

func TestCmpEdges(t *testing.T) {
	low, high := wide.Num{Hi: 1, Lo: full}, wide.Num{Hi: 2, Lo: 0}
	if low.Cmp(high) != -1 || high.Cmp(low) != 1 || low.Cmp(low) != 0 {
		t.Error("the upper halves come first")
	}
	if (wide.Num{Hi: 1, Lo: 1 << 63}).Cmp(wide.Num{Hi: 1, Lo: 1}) != 1 || (wide.Num{Hi: 1 << 63}).Cmp(wide.Num{Hi: 1}) != 1 {
		t.Error("halves have no sign")
	}
}

// P1.2

func shifts() []int {
	return []int{math.MinInt, -128, -64, -1, 0, 1, 2, 31, 32, 33, 63, 64, 65, 100, 126, 127, 128, 129, 191, 192, 256, 1000, 1 << 32, math.MaxInt - 1, math.MaxInt}
}

func TestShiftEdges(t *testing.T) {
	n := wide.Num{Hi: 1<<63 | 1, Lo: 1<<63 | 1}
	for _, c := range []struct {
		k           int
		left, right wide.Num
	}{
		{math.MinInt, n, n},
		{-1, n, n},
		{0, n, n},
		{1, wide.Num{Hi: 3, Lo: 2}, wide.Num{Hi: 1 << 62, Lo: 1<<63 | 1<<62}},
		{63, wide.Num{Hi: 1<<63 | 1<<62, Lo: 1 << 63}, wide.Num{Hi: 1, Lo: 3}},
		{64, wide.Num{Hi: 1<<63 | 1}, wide.Num{Lo: 1<<63 | 1}},
		{65, wide.Num{Hi: 2}, wide.Num{Lo: 1 << 62}},
		{127, wide.Num{Hi: 1 << 63}, wide.Num{Lo: 1}},
		{128, wide.Num{}, wide.Num{}},
		{129, wide.Num{}, wide.Num{}},
		{math.MaxInt, wide.Num{}, wide.Num{}},
	} {
		if left := n.Left(c.k); left != c.left {
			t.Errorf("left by %d: %v", c.k, left)
		}
		if right := n.Right(c.k); right != c.right {
			t.Errorf("right by %d: %v", c.k, right)
		}
	}
}

func TestShiftsOfNumbers(t *testing.T) {
	for _, n := range nums() {
		for _, k := range shifts() {
			by := uint(min(max(k, 0), 128)) // what is shifted by more is 0 as well
			if got, want := n.Left(k), numOf(new(big.Int).Lsh(bigOf(n), by)); got != want {
				t.Fatalf("%v left by %d is %v, not %v", n, k, got, want)
			}
			if got, want := n.Right(k), numOf(new(big.Int).Rsh(bigOf(n), by)); got != want {
				t.Fatalf("%v right by %d is %v, not %v", n, k, got, want)
			}
		}
	}
}

func TestDiv(t *testing.T) {
	if q, rest := (wide.Num{Hi: 1}).Div(10); q != wide.Of(1844674407370955161) || rest != 6 {
		t.Errorf("2^64 by 10 is %v, %d", q, rest)
	}
	for _, n := range nums() {
		for _, d := range halves() {
			q, rest := n.Div(d)
			if d == 0 {
				if q != (wide.Num{}) || rest != 0 {
					t.Fatalf("%v by 0 is %v, %d", n, q, rest)
				}
				continue
			}
			wantQ, wantRest := new(big.Int).QuoRem(bigOf(n), new(big.Int).SetUint64(d), new(big.Int))
			if q != numOf(wantQ) || rest != wantRest.Uint64() {
				t.Fatalf("%v by %d is %v, %d", n, d, q, rest)
			}
		}
	}
}

func TestBits(t *testing.T) {
	if (wide.Num{}).Bits() != 0 {
		t.Error("0 has bits")
	}
	for k := range 128 {
		power := wide.Of(1).Left(k)
		below, _ := power.Sub(wide.Of(1))
		if power.Bits() != k+1 || below.Bits() != k {
			t.Errorf("2^%d has %d bits, and the number below %d", k, power.Bits(), below.Bits())
		}
	}
	for _, n := range nums() {
		if n.Bits() != bigOf(n).BitLen() {
			t.Errorf("%v has %d bits", n, n.Bits())
		}
	}
}

// P1.3

const greatest = "340282366920938463463374607431768211455"

func TestTextAndParseEdges(t *testing.T) {
	for text, n := range map[string]wide.Num{
		"0":                                      wide.Of(0),
		"9":                                      wide.Of(9),
		"10":                                     wide.Of(10),
		"1000":                                   wide.Of(1000),
		"18446744073709551615":                   wide.Of(full),
		"18446744073709551616":                   {Hi: 1},
		"100000000000000000000":                  {Hi: 5, Lo: 7766279631452241920},
		"99999999999999999999999999999999999999": {Hi: 5421010862427522170, Lo: 687399551400673279},
		greatest:                                 {Hi: full, Lo: full},
	} {
		if got := n.Text(); got != text {
			t.Errorf("%v is written %s, not %s", n, got, text)
		}
		if got, e := wide.Parse(text); got != n || e != api.OK {
			t.Errorf("%s is read %v, %d", text, got, e)
		}
	}
}

func TestTextAndParseOfNumbers(t *testing.T) {
	for _, n := range nums() {
		text := n.Text()
		if want := bigOf(n).String(); text != want {
			t.Fatalf("%v is written %s, not %s", n, text, want)
		}
		if got, e := wide.Parse(text); got != n || e != api.OK {
			t.Fatalf("%s is read %v, %d", text, got, e)
		}
	}
}

func TestParseWrongTexts(t *testing.T) {
	for _, text := range []string{
		"", " ", "00", "01", "007", "-0", "-1", "+1", "+", "-", " 1", "1 ", "1\n", "1\x00", "0x1", "1a", "a", "1_000", "1.0", "1,0", "1e3",
		"/", ":", "1/", "1:", "٣", "1٣", "\xff", "1\xb0",
		"0" + greatest, "-" + greatest, greatest + "x", greatest + "0-", // the form comes before the size
		strings.Repeat("9", 1000) + " ", "0" + strings.Repeat("9", 1000),
	} {
		if n, e := wide.Parse(text); n != (wide.Num{}) || e != api.ErrText {
			t.Errorf("%q is read %v, %d", text, n, e)
		}
	}
}

func TestParseGreatNumbers(t *testing.T) {
	for _, text := range []string{
		"340282366920938463463374607431768211456", // 2^128
		"340282366920938463463374607431768211457",
		"340282366920938463463374607431768211460",
		"340282366920938463481821351505477763072", // 2^128 + 2^64, over in the upper half alone
		"999999999999999999999999999999999999999",
		"680564733841876926926749214863536422912", // 2^129, which is 0 modulo 2^128
		"1000000000000000000000000000000000000000",
		greatest + "0",
		"1" + strings.Repeat("0", 128), // 0 modulo 2^128
		strings.Repeat("9", 1000000),
	} {
		if n, e := wide.Parse(text); n != (wide.Num{}) || e != api.ErrOver {
			t.Errorf("%.50s is read %v, %d", text, n, e)
		}
	}
}

// P2 of the document: an answer hangs on nothing but the arguments.
func TestSameAnswerAgain(t *testing.T) {
	type answer struct {
		sum, difference, left, right, quotient, parsed wide.Num
		over, under                                    bool
		order, bits                                    int
		rest                                           uint64
		text                                           string
		e                                              api.Errno
	}
	ask := func(n wide.Num, k int) (a answer) {
		m := wide.Mul(n.Lo, n.Hi)
		a.sum, a.over = n.Add(m)
		a.difference, a.under = n.Sub(m)
		a.order, a.bits, a.text = n.Cmp(m), n.Bits(), n.Text()
		a.left, a.right = n.Left(k), n.Right(k)
		a.quotient, a.rest = n.Div(m.Lo)
		a.parsed, a.e = wide.Parse(a.text)
		return a
	}
	for _, n := range nums() {
		for _, k := range shifts() {
			first, kept := ask(n, k), n
			wide.Parse("x" + first.text)
			if again := ask(n, k); again != first || n != kept {
				t.Fatalf("%v, %d: %v, then %v", kept, k, first, again)
			}
		}
	}
}
