package fix_test

import (
	"math/big"
	"math/rand"
	"testing"

	"overfall/fix"
)

const (
	most  = 1<<63 - 1
	least = -1 << 63
	one   = 1 << 32
)

// edges are the numbers at which a result turns to another side, and some in between.
func edges() []int64 {
	l := []int64{0, 10, 100, 1000000007}
	for _, near := range []int64{1, 3, 1 << 16, 1 << 31, one, 3 * one, 1 << 47, 1 << 62, most} {
		for d := int64(-2); d <= 1; d++ {
			l = append(l, near+d, -near-d) // most + 1 is least: an edge as well
		}
	}
	r := rand.New(rand.NewSource(2))
	for range 60 {
		l = append(l, int64(r.Uint64())>>r.Intn(64))
	}
	return l
}

func number(n int64) *big.Int { return big.NewInt(n) }

func saturated(n *big.Int) int64 {
	if n.IsInt64() {
		return n.Int64()
	}
	if n.Sign() < 0 {
		return least
	}
	return most
}

// divided is a / b, rounded down: big's Div rounds down for a divisor above 0.
func divided(a, b *big.Int) int64 {
	if b.Sign() < 0 {
		a, b = new(big.Int).Neg(a), new(big.Int).Neg(b)
	}
	return saturated(new(big.Int).Div(a, b))
}

func shifted(n int64) *big.Int { return new(big.Int).Lsh(number(n), 32) }

func times(a, b int64) *big.Int { return new(big.Int).Mul(number(a), number(b)) }

// P2.1

func TestConstants(t *testing.T) {
	if fix.One != one || fix.Most != most || fix.Least != least {
		t.Error(fix.One, fix.Most, fix.Least)
	}
}

func TestSaturatedEdges(t *testing.T) {
	for _, c := range []struct {
		what      string
		got, want int64
	}{
		{"2 + 3", fix.Add(2, 3), 5},
		{"Most + 0", fix.Add(most, 0), most},
		{"Most - 1 + 1", fix.Add(most-1, 1), most},
		{"Most + 1", fix.Add(most, 1), most},
		{"1 + Most", fix.Add(1, most), most},
		{"Most + Most", fix.Add(most, most), most},
		{"Least + -1", fix.Add(least, -1), least},
		{"Least + Least", fix.Add(least, least), least},
		{"Most + Least", fix.Add(most, least), -1},
		{"2 - 3", fix.Sub(2, 3), -1},
		{"0 - Least", fix.Sub(0, least), most},
		{"-1 - Least", fix.Sub(-1, least), most},
		{"-2 - Least", fix.Sub(-2, least), most - 1},
		{"Least - Least", fix.Sub(least, least), 0},
		{"Least - 1", fix.Sub(least, 1), least},
		{"Most - -1", fix.Sub(most, -1), most},
		{"-1 - Most", fix.Sub(-1, most), least},
		{"-2 - Most", fix.Sub(-2, most), least},
		{"-5", fix.Neg(5), -5},
		{"- 0", fix.Neg(0), 0},
		{"- Least", fix.Neg(least), most},
		{"- Most", fix.Neg(most), least + 1},
		{"-3 * 4", fix.Mul(-3, 4), -12},
		{"-3 * -4", fix.Mul(-3, -4), 12},
		{"0 * Least", fix.Mul(0, least), 0},
		{"Least * 1", fix.Mul(least, 1), least},
		{"Least * -1", fix.Mul(least, -1), most},
		{"Most * -1", fix.Mul(most, -1), least + 1},
		{"Most * 2", fix.Mul(most, 2), most},
		{"Most * -2", fix.Mul(most, -2), least},
		{"Least * Least", fix.Mul(least, least), most},
		{"2^32 * 2^32", fix.Mul(one, one), most}, // 0 modulo 2^64
		{"2^32 * -2^32", fix.Mul(one, -one), least},
		{"2^31 * -2^32", fix.Mul(1<<31, -one), least}, // Least itself
	} {
		if c.got != c.want {
			t.Errorf("%s is %d, not %d", c.what, c.got, c.want)
		}
	}
}

func TestSaturatedPairs(t *testing.T) {
	for _, a := range edges() {
		if got, want := fix.Neg(a), saturated(new(big.Int).Neg(number(a))); got != want {
			t.Fatalf("-(%d) is %d, not %d", a, got, want)
		}
		for _, b := range edges() {
			if got, want := fix.Add(a, b), saturated(new(big.Int).Add(number(a), number(b))); got != want {
				t.Fatalf("%d + %d is %d, not %d", a, b, got, want)
			}
			if got, want := fix.Sub(a, b), saturated(new(big.Int).Sub(number(a), number(b))); got != want {
				t.Fatalf("%d - %d is %d, not %d", a, b, got, want)
			}
			if got, want := fix.Mul(a, b), saturated(times(a, b)); got != want {
				t.Fatalf("%d * %d is %d, not %d", a, b, got, want)
			}
		}
	}
}

func TestClamp(t *testing.T) {
	for _, c := range []struct{ x, low, high, want int64 }{
		{2, 1, 3, 2}, {1, 1, 3, 1}, {3, 1, 3, 3}, {0, 1, 3, 1}, {4, 1, 3, 3},
		{least, -1, 1, -1}, {most, -1, 1, 1}, {0, 0, 0, 0}, {5, least, most, 5},
		// Where low is above high, low is asked first.
		{0, 3, 1, 3}, {2, 3, 1, 3}, {3, 3, 1, 1}, {4, 3, 1, 1}, {0, most, least, most}, {most, most, least, least},
	} {
		if got := fix.Clamp(c.x, c.low, c.high); got != c.want {
			t.Errorf("%d from %d to %d is %d, not %d", c.x, c.low, c.high, got, c.want)
		}
	}
}

// P2.2

func TestFixedPointExamples(t *testing.T) {
	third, half := fix.Ratio(-1, 3), fix.Ratio(1, 2)
	for _, c := range []struct {
		what      string
		got, want int64
	}{
		{"-1 / 3", int64(third), -1431655766},
		{"the Floor of -1 / 3", third.Floor(), -1},
		{"1 / 3", int64(fix.Ratio(1, 3)), 1431655765},
		{"-1 / -3", int64(fix.Ratio(-1, -3)), 1431655765},
		{"1 / -3", int64(fix.Ratio(1, -3)), -1431655766},
		{"-6 / 3", int64(fix.Ratio(-6, 3)), -2 * one},
		{"1 / 2", int64(half), 1 << 31},
		{"the Floor of 1 / 2", half.Floor(), 0},
		{"the Floor of -1 / 2", (-half).Floor(), -1},
		{"the Floor of -2", fix.Whole(-2).Floor(), -2},
		{"the Floor of the least part", fix.Q(1).Floor(), 0},
		{"the Floor of the least part below 0", fix.Q(-1).Floor(), -1},
		{"1 / 2 times 5", half.Of(5), 2},
		{"1 / 2 times -5", half.Of(-5), -3},
		{"-1 / 2 times -5", (-half).Of(-5), 2},
		{"1 / 2 times -4", half.Of(-4), -2},
		{"the least part times itself", int64(fix.Q(1).Times(1)), 0},
		{"the least part times minus itself", int64(fix.Q(1).Times(-1)), -1},
		{"1 / 2 times 1 / 2", int64(half.Times(half)), 1 << 30},
		{"1 by 1 / 2", int64(fix.One.Over(half)), 2 * one},
		{"1 by -3", int64(fix.One.Over(-3 * fix.One)), -1431655766},
		{"1 / 2 and 1 / 2", int64(half.Plus(half)), one},
		{"1 / 2 less 1", int64(half.Less(fix.One)), -1 << 31},
		{"3", int64(fix.Whole(3)), 3 * one},
	} {
		if c.got != c.want {
			t.Errorf("%s is %d, not %d", c.what, c.got, c.want)
		}
	}
}

func TestFixedPointSaturated(t *testing.T) {
	highest, lowest := fix.Q(most), fix.Q(least)
	for _, c := range []struct {
		what      string
		got, want int64
	}{
		{"2^31 - 1", int64(fix.Whole(1<<31 - 1)), (1<<31 - 1) * one},
		{"2^31", int64(fix.Whole(1 << 31)), most},
		{"-2^31", int64(fix.Whole(-1 << 31)), least},
		{"-2^31 - 1", int64(fix.Whole(-1<<31 - 1)), least},
		{"2^32", int64(fix.Whole(one)), most}, // 0 modulo 2^64
		{"Most", int64(fix.Whole(most)), most},
		{"Least", int64(fix.Whole(least)), least},
		{"Most / 1", int64(fix.Ratio(most, 1)), most},
		{"Least / 1", int64(fix.Ratio(least, 1)), least},
		{"Least / -1", int64(fix.Ratio(least, -1)), most},
		{"Least / Least", int64(fix.Ratio(least, least)), one},
		{"Most / Least", int64(fix.Ratio(most, least)), -one}, // a bit more than -1, rounded down
		{"the highest and one part", int64(highest.Plus(1)), most},
		{"the lowest less one part", int64(lowest.Less(1)), least},
		{"the lowest squared", int64(lowest.Times(lowest)), most},
		{"the lowest times the highest", int64(lowest.Times(highest)), least},
		{"the highest times 1", int64(highest.Times(fix.One)), most},
		{"the lowest times 1", int64(lowest.Times(fix.One)), least},
		{"the lowest times -1", int64(lowest.Times(-fix.One)), most},
		{"the lowest by -1", int64(lowest.Over(-fix.One)), most},
		{"the lowest by one part", int64(lowest.Over(1)), least},
		{"the Floor of the lowest", lowest.Floor(), -1 << 31},
		{"the Floor of the highest", highest.Floor(), 1<<31 - 1},
		{"the highest of Most", highest.Of(most), most},
		{"the highest of Least", highest.Of(least), least},
		{"the lowest of Least", lowest.Of(least), most},
		{"1 of Most", fix.One.Of(most), most},
		{"1 of Least", fix.One.Of(least), least},
		{"-1 of Least", (-fix.One).Of(least), most},
	} {
		if c.got != c.want {
			t.Errorf("%s is %d, not %d", c.what, c.got, c.want)
		}
	}
}

func TestDivisionByZero(t *testing.T) {
	for a, want := range map[int64]int64{0: 0, 1: most, 7: most, most: most, -1: least, -7: least, least: least} {
		if got := int64(fix.Ratio(a, 0)); got != want {
			t.Errorf("Ratio of %d and 0 is %d, not %d", a, got, want)
		}
		if got := int64(fix.Q(a).Over(0)); got != want {
			t.Errorf("%d Over 0 is %d, not %d", a, got, want)
		}
	}
}

func TestFixedPointOfNumbers(t *testing.T) {
	for _, a := range edges() {
		if got, want := int64(fix.Whole(a)), saturated(shifted(a)); got != want {
			t.Fatalf("Whole of %d is %d, not %d", a, got, want)
		}
		if got, want := fix.Q(a).Floor(), divided(number(a), number(one)); got != want {
			t.Fatalf("the Floor of %d is %d, not %d", a, got, want)
		}
	}
}

func TestFixedPointOfPairs(t *testing.T) {
	for _, a := range edges() {
		for _, b := range edges() {
			q, p := fix.Q(a), fix.Q(b)
			if got, want := int64(q.Plus(p)), saturated(new(big.Int).Add(number(a), number(b))); got != want {
				t.Fatalf("%d Plus %d is %d, not %d", a, b, got, want)
			}
			if got, want := int64(q.Less(p)), saturated(new(big.Int).Sub(number(a), number(b))); got != want {
				t.Fatalf("%d Less %d is %d, not %d", a, b, got, want)
			}
			product := divided(times(a, b), number(one))
			if times, of := int64(q.Times(p)), q.Of(b); times != product || of != product {
				t.Fatalf("%d Times, Of %d is %d, %d, not %d", a, b, times, of, product)
			}
			if b == 0 {
				continue
			}
			quotient := divided(shifted(a), number(b))
			if over, ratio := int64(q.Over(p)), int64(fix.Ratio(a, b)); over != quotient || ratio != quotient {
				t.Fatalf("%d Over, Ratio %d is %d, %d, not %d", a, b, over, ratio, quotient)
			}
		}
	}
}

// P2 of the document: an answer hangs on nothing but the arguments.
func TestSameAnswerAgain(t *testing.T) {
	ask := func(a, b int64) [13]int64 {
		q, p := fix.Q(a), fix.Q(b)
		return [13]int64{
			fix.Add(a, b), fix.Sub(a, b), fix.Neg(a), fix.Mul(a, b), fix.Clamp(a, b, a),
			int64(fix.Whole(a)), int64(fix.Ratio(a, b)), q.Floor(),
			int64(q.Plus(p)), int64(q.Less(p)), int64(q.Times(p)), int64(q.Over(p)), q.Of(b),
		}
	}
	for _, a := range edges() {
		for _, b := range edges() {
			first := ask(a, b)
			ask(b, a)
			if again := ask(a, b); again != first {
				t.Fatalf("%d, %d: %v, then %v", a, b, first, again)
			}
		}
	}
}
