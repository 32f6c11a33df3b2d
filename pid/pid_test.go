package pid_test

import (
	"math"
	"math/big"
	"math/rand"
	"testing"

	"overfall/fix"
	"overfall/pid"
)

const (
	most  = math.MaxInt64
	least = math.MinInt64
	one   = fix.One
)

// plain are the params of the chapter's example.
var plain = pid.Params{Setpoint: one, Kp: 2 * one, Step: 100, Most: 1000}

// whole has every weight, with room for sum, step and level.
var whole = pid.Params{Setpoint: one, Kp: 2 * one, Ki: 3 * one, Kd: 5 * one, Limit: 1000 * one, Step: 1000, Most: 1000}

func state(sum, last fix.Q, level int64) pid.State {
	return pid.State{Sum: sum, Last: last, Level: level}
}

// P11.1: Right

func TestRight(t *testing.T) {
	for _, c := range []struct {
		p    pid.Params
		want bool
	}{
		{pid.Params{}, false}, // Step is 0
		{pid.Params{Step: 1}, true},
		{plain, true},
		{whole, true},
		{pid.Params{Setpoint: least, Step: 1}, true},
		{pid.Params{Setpoint: -1, Step: 1}, true},
		{pid.Params{Setpoint: most, Kp: most, Ki: most, Kd: most, Limit: most, Step: most, Most: most}, true},
		{pid.Params{Kp: -1, Step: 1}, false},
		{pid.Params{Kp: least, Step: 1}, false},
		{pid.Params{Ki: -1, Step: 1}, false},
		{pid.Params{Ki: least, Step: 1}, false},
		{pid.Params{Kd: -1, Step: 1}, false},
		{pid.Params{Kd: least, Step: 1}, false},
		{pid.Params{Limit: -1, Step: 1}, false},
		{pid.Params{Limit: least, Step: 1}, false},
		{pid.Params{Step: 0}, false},
		{pid.Params{Step: -1}, false},
		{pid.Params{Step: least}, false},
		{pid.Params{Step: 1, Most: -1}, false},
		{pid.Params{Step: 1, Most: least}, false},
	} {
		if got := c.p.Right(); got != c.want {
			t.Errorf("%+v: %v", c.p, got)
		}
	}
}

// P11.1: Open

func TestOpen(t *testing.T) {
	for _, c := range []struct {
		setpoint, u fix.Q
		want        bool
	}{
		{one, one, false},
		{one, one + 1, true},
		{one, one - 1, false},
		{one, 0, false},
		{one, -one, false},
		{0, 0, false},
		{0, 1, true},
		{-1, -1, false},
		{-1, 0, true},
		{least, least, false},
		{least, least + 1, true},
		{least, most, true},
		{most, most, false},
		{most, least, false},
		{most - 1, most, true},
	} {
		p := plain
		p.Setpoint = c.setpoint
		for _, s := range []pid.State{{}, state(-5, 7, -9), state(most, least, most)} {
			if got := s.Open(p, c.u); got != c.want {
				t.Errorf("%d above %d: %v", c.u, c.setpoint, got)
			}
		}
	}
}

// P11.2

type sample struct {
	name string
	s    pid.State
	p    pid.Params
	u    fix.Q
	want pid.State
}

func (c sample) check(t *testing.T) {
	t.Helper()
	if got := c.s.Sample(c.p, c.u); got != c.want {
		t.Errorf("%s: %+v, not %+v", c.name, got, c.want)
	}
}

func TestClosed(t *testing.T) {
	low := pid.Params{Setpoint: least, Step: 1, Most: 1000}
	for _, c := range []sample{
		{"below the setpoint", state(8*one, 7, 5), whole, 0, state(4*one, -one, 4)},
		{"at the setpoint", state(8*one, 7, 5), whole, one, state(4*one, 0, 4)},
		{"the sum is rounded down", state(9, 0, 5), whole, one, state(4, 0, 4)},
		{"the sum of one part", state(1, 0, 5), whole, one, state(0, 0, 4)},
		{"the sum of 0", state(0, 0, 5), whole, one, state(0, 0, 4)},
		{"a sum below 0", state(-1, 0, 5), whole, one, state(0, 0, 4)},
		{"the least sum", state(least, 0, 5), whole, one, state(0, 0, 4)},
		{"the greatest sum, beyond the limit too", state(most, 0, 5), whole, one, state(most/2, 0, 4)},
		{"the level of 1", state(0, 0, 1), whole, one, state(0, 0, 0)},
		{"the level of 0", state(0, 0, 0), whole, one, state(0, 0, 0)},
		{"a level below 0", state(0, 0, -7), whole, one, state(0, 0, 0)},
		{"the least level", state(0, 0, least), whole, one, state(0, 0, 0)},
		{"one above the most", state(0, 0, 1001), whole, one, state(0, 0, 1000)},
		{"two above the most", state(0, 0, 1002), whole, one, state(0, 0, 1000)},
		{"the greatest level", state(0, 0, most), whole, one, state(0, 0, 1000)},
		{"a most of 0", state(0, 0, 5), pid.Params{Setpoint: one, Step: 1}, one, state(0, 0, 0)},
		{"the greatest most", state(0, 0, most), pid.Params{Setpoint: one, Step: 1, Most: most}, one, state(0, 0, most-1)},
		{"a most below 0", state(0, 0, 5), pid.Params{Setpoint: one, Step: 1, Most: -3}, one, state(0, 0, -3)},
		{"a most below 0, from below 0", state(0, 0, -5), pid.Params{Setpoint: one, Step: 1, Most: -3}, one, state(0, 0, 0)},
		{"the difference is saturated", state(0, 0, 5), whole, least, state(0, least, 4)},
		{"at the least setpoint", state(0, 9, 5), low, least, state(0, 0, 4)},
		{"a limit below 0", state(8, 0, 5), pid.Params{Setpoint: one, Limit: -1, Step: 1, Most: 9}, one, state(4, 0, 4)},
	} {
		c.check(t)
	}
}

func TestOpenGate(t *testing.T) {
	only := func(change func(p *pid.Params)) pid.Params {
		p := pid.Params{Setpoint: one, Step: 1000, Most: 1000}
		change(&p)
		return p
	}
	sum := only(func(p *pid.Params) { p.Ki, p.Limit = 3*one, 10*one })
	change := only(func(p *pid.Params) { p.Kd = 5 * one })
	step := only(func(p *pid.Params) { p.Kp, p.Step = 2*one, 4 })
	up := only(func(p *pid.Params) { p.Setpoint, p.Kp, p.Step, p.Most = -one, one, most, most })
	for _, c := range []sample{
		{"each weight once", state(one, one, 0), whole, 3 * one, state(7*one, 2*one, 4+7+5)},
		{"only the difference", state(0, 0, 0), plain, 4 * one, state(0, 3*one, 6)},
		{"the level is rounded down", state(0, 0, 0), plain, 4*one - 1, state(0, 3*one-1, 5)},
		{"a part above the setpoint", state(0, 0, 0), plain, one + 1, state(0, 1, 0)},
		{"only the sum", state(one, 0, 0), sum, 2 * one, state(4*one, one, 4)},
		{"up to the limit", state(7*one, 0, 0), sum, 2 * one, state(10*one, one, 10)},
		{"at most the limit", state(7*one+1, 0, 0), sum, 2 * one, state(10*one, one, 10)},
		{"a sum beyond the limit", state(most, 0, 0), sum, 2 * one, state(10*one, one, 10)},
		{"a sum below 0", state(-5*one, 0, 0), sum, 2 * one, state(0, one, 0)},
		{"the sum is rounded down", state(0, 0, 0), only(func(p *pid.Params) { p.Ki, p.Limit = one/2, one }), one + 3, state(1, 3, 0)},
		{"only the change", state(0, one, 0), change, 4 * one, state(0, 3*one, 10)},
		{"a change of 0", state(0, 3*one, 0), change, 4 * one, state(0, 3*one, 0)},
		{"a fall", state(0, 4*one, 0), change, 4 * one, state(0, 3*one, 0)},
		{"a fall takes from the rest", state(0, 4*one, 0), only(func(p *pid.Params) { p.Kp, p.Kd = 2*one, one }), 4 * one, state(0, 3*one, 5)},
		{"a change from below 0", state(0, -2*one, 0), change, 2 * one, state(0, one, 15)},
		{"the change saturates", state(0, least, 0), change, 2 * one, state(0, one, 1000)},
		{"a fall saturates", state(0, most, 9), change, 2 * one, state(0, one, 9)},
		{"the level stays", state(0, 0, 7), plain, 4 * one, state(0, 3*one, 7)},
		{"the level stays at the same", state(0, 0, 6), plain, 4 * one, state(0, 3*one, 6)},
		{"the level rises by one", state(0, 0, 5), plain, 4 * one, state(0, 3*one, 6)},
		{"just the step", state(0, 0, 2), step, 4 * one, state(0, 3*one, 6)},
		{"at most the step", state(0, 0, 1), step, 4 * one, state(0, 3*one, 5)},
		{"the step from below 0", state(0, 0, -3), step, 4 * one, state(0, 3*one, 1)},
		{"the step ends below 0", state(0, 0, -9), step, 4 * one, state(0, 3*one, 0)},
		{"up to the most", state(0, 0, 999), step, 4096 * one, state(0, 4095*one, 1000)},
		{"the most", state(0, 0, 1000), step, 4096 * one, state(0, 4095*one, 1000)},
		{"above the most", state(0, 0, 1001), step, 4096 * one, state(0, 4095*one, 1000)},
		{"the greatest level and step", state(0, 0, most), up, 0, state(0, one, most)},
		{"a level below the greatest", state(0, 0, most-1), up, 0, state(0, one, most-1)},
		{"the least level", state(0, 0, least), up, 0, state(0, one, 0)},
		{"all saturates", state(most, least, most-5), pid.Params{Setpoint: least, Kp: most, Ki: most, Kd: most, Limit: most, Step: most, Most: most}, most, state(most, most, most-5)},
		{"all saturates from 0", state(0, 0, 0), pid.Params{Setpoint: least, Kp: most, Ki: most, Kd: most, Limit: most, Step: most, Most: most}, most, state(most, most, 1<<31-1)},
		{"the order of the sums", state(most, most, 0), pid.Params{Kp: one, Kd: one, Limit: most, Step: most, Most: most}, 2 * one, state(most, 2*one, 2)},
		{"a step below 0", state(0, 0, 7), only(func(p *pid.Params) { p.Step = -3 }), 4 * one, state(0, 3*one, 4)},
		{"the least step", state(0, 0, -7), only(func(p *pid.Params) { p.Step = least }), 4 * one, state(0, 3*one, 0)},
		{"a weight below 0", state(0, 0, 7), only(func(p *pid.Params) { p.Kp = -one }), 4 * one, state(0, 3*one, 7)},
		{"a weight of the sum below 0", state(9*one, 0, 0), only(func(p *pid.Params) { p.Ki, p.Limit = -one, 10*one }), 4 * one, state(6*one, 3*one, 6)},
		{"a weight of the sum below 0 takes all", state(one, 0, 0), only(func(p *pid.Params) { p.Ki, p.Limit = -one, 10*one }), 4 * one, state(0, 3*one, 0)},
		{"a weight of the change below 0", state(0, 4*one, 0), only(func(p *pid.Params) { p.Kd = -one }), 4 * one, state(0, 3*one, 1)},
		{"a limit below 0", state(one, 0, 0), only(func(p *pid.Params) { p.Limit = -one }), 4 * one, state(-one, 3*one, 0)},
		{"a most below 0", state(0, 0, 5), only(func(p *pid.Params) { p.Most = -3 }), 4 * one, state(0, 3*one, -3)},
	} {
		c.check(t)
	}
}

// The example of the chapter.

func TestExample(t *testing.T) {
	s := pid.State{}.Sample(plain, 4*one)
	if s.Level != 6 {
		t.Fatal(s)
	}
	if s = s.Sample(plain, one); s.Level != 5 {
		t.Fatal(s)
	}
}

func TestCourse(t *testing.T) {
	var s pid.State
	p := pid.Params{Setpoint: one, Kp: one, Ki: one / 2, Kd: one, Limit: 2 * one, Step: 3, Most: 7}
	for i, c := range []struct {
		u    fix.Q
		want pid.State
	}{
		{2 * one, state(one/2, one, 2)},         // 1 + 0.5 + 1
		{4 * one, state(2*one, 3*one, 5)},       // 3 + 2 + 2, by 3 at most
		{4 * one, state(2*one, 3*one, 5)},       // 3 + 2 + 0
		{9 * one, state(2*one, 8*one, 7)},       // 8 + 2 + 5, 7 at most
		{one, state(one, 0, 6)},                 // closed
		{one / 2, state(one/2, -one/2, 5)},      // closed
		{3 * one / 2, state(3*one/4, one/2, 5)}, // 0.5 + 0.75 + 1 is less
		{0, state(3*one/8, -one, 4)},
	} {
		if s = s.Sample(p, c.u); s != c.want {
			t.Fatalf("sample %d: %+v, not %+v", i, s, c.want)
		}
	}
}

// exact is an integer that is saturated when it is taken, as layer 2 has it, but computed by math/big.
func exact(b *big.Int) int64 {
	if b.Cmp(big.NewInt(most)) > 0 {
		return most
	}
	if b.Cmp(big.NewInt(least)) < 0 {
		return least
	}
	return b.Int64()
}

func plus(a, b int64) int64 { return exact(new(big.Int).Add(big.NewInt(a), big.NewInt(b))) }

func less(a, b int64) int64 { return exact(new(big.Int).Sub(big.NewInt(a), big.NewInt(b))) }

func times(a, b int64) int64 {
	product := new(big.Int).Mul(big.NewInt(a), big.NewInt(b))
	return exact(product.Rsh(product, 32)) // rounds down
}

func clamped(x, low, high int64) int64 {
	switch {
	case x < low:
		return low
	case x > high:
		return high
	}
	return x
}

// after is Sample by the words of P11.2.
func after(s pid.State, p pid.Params, u fix.Q) pid.State {
	d := less(int64(u), int64(p.Setpoint))
	sum, level := int64(s.Sum), s.Level
	if u <= p.Setpoint {
		if sum = times(sum, 1<<31); sum < 0 {
			sum = 0
		}
		level = clamped(less(level, 1), 0, p.Most)
		return state(fix.Q(sum), fix.Q(d), level)
	}
	sum = clamped(plus(sum, times(int64(p.Ki), d)), 0, int64(p.Limit))
	o := times(int64(p.Kp), d)
	o = plus(o, sum)
	o = plus(o, times(int64(p.Kd), less(d, int64(s.Last))))
	next := level
	if o>>32 > next {
		next = o >> 32
	}
	if bound := plus(level, p.Step); next > bound {
		next = bound
	}
	return state(fix.Q(sum), fix.Q(d), clamped(next, 0, p.Most))
}

// any number of some size: most of the sizes matter as much as each other.
func some(r *rand.Rand) int64 {
	edges := []int64{0, 1, -1, most, least, most - 1, least + 1, 1 << 31, 1 << 32, -1 << 32, 1000}
	if r.Intn(4) == 0 {
		return edges[r.Intn(len(edges))]
	}
	return int64(r.Uint64()) >> r.Intn(64)
}

func someParams(r *rand.Rand) pid.Params {
	q := func() fix.Q { return fix.Q(some(r)) }
	return pid.Params{Setpoint: q(), Kp: q(), Ki: q(), Kd: q(), Limit: q(), Step: some(r), Most: some(r)}
}

func TestAgainstPlainWords(t *testing.T) {
	r := rand.New(rand.NewSource(11))
	opened := 0
	for range 100000 {
		p := someParams(r)
		s := state(fix.Q(some(r)), fix.Q(some(r)), some(r))
		u := fix.Q(some(r))
		if s.Open(p, u) {
			opened++
		}
		got := s.Sample(p, u)
		if want := after(s, p, u); got != want {
			t.Fatalf("%+v of %+v, %d: %+v, not %+v", s, p, u, got, want)
		}
		if p.Right() != (p.Kp >= 0 && p.Ki >= 0 && p.Kd >= 0 && p.Limit >= 0 && p.Step > 0 && p.Most >= 0) {
			t.Fatal(p)
		}
	}
	if opened < 10000 || opened > 90000 {
		t.Error(opened)
	}
}

func TestStateIsAValue(t *testing.T) {
	s := state(one, one, 3)
	for range 2 { // P2: the same answer again, and the state stays as it was
		if got := s.Sample(whole, 3*one); got != state(7*one, 2*one, 16) || s != state(one, one, 3) {
			t.Fatal(got, s)
		}
	}
}

// P11.3

func TestBounds(t *testing.T) {
	r := rand.New(rand.NewSource(113))
	size := func() int64 { return max(some(r), 0) }
	for range 100000 {
		p := pid.Params{Setpoint: fix.Q(some(r)), Kp: fix.Q(size()), Ki: fix.Q(size()), Kd: fix.Q(size()), Limit: fix.Q(size()), Step: max(size(), 1), Most: size()}
		if !p.Right() {
			t.Fatal(p)
		}
		s := state(fix.Q(some(r)), fix.Q(some(r)), some(r))
		u := fix.Q(some(r))
		after := s.Sample(p, u)
		if after.Level < 0 || after.Level > p.Most {
			t.Fatalf("%+v of %+v, %d: level %d", s, p, u, after.Level)
		}
		if s.Open(p, u) && (after.Sum < 0 || after.Sum > p.Limit) {
			t.Fatalf("%+v of %+v, %d: sum %d", s, p, u, after.Sum)
		}
	}
}

func TestToNothing(t *testing.T) {
	r := rand.New(rand.NewSource(1133))
	fall := func(p pid.Params, level, samples int64) int64 {
		s := state(fix.Q(some(r)), fix.Q(some(r)), level)
		for range samples {
			s = s.Sample(p, min(fix.Q(some(r)), p.Setpoint))
		}
		return s.Level
	}
	for _, bound := range []int64{0, 1, 2, 10, 300} {
		p := whole
		p.Most = bound
		for level := range bound + 1 {
			if got := fall(p, level, level); got != 0 {
				t.Errorf("from %d, most %d: %d", level, bound, got)
			}
			if got := fall(p, level, bound); got != 0 {
				t.Errorf("from %d, most %d, by %d samples: %d", level, bound, bound, got)
			}
		}
		if got := fall(p, bound, bound-1); bound > 0 && got != 1 {
			t.Errorf("from %d by one sample less: %d", bound, got)
		}
		for _, level := range []int64{least, -1, bound + 1, bound + 2, most} { // one sample brings it into its bounds
			if got := fall(p, level, bound+1); got != 0 {
				t.Errorf("from %d, most %d: %d", level, bound, got)
			}
		}
	}
}
