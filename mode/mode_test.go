package mode_test

import (
	"math"
	"math/big"
	"testing"

	"overfall/mode"
)

const (
	most      = math.MaxInt64
	least     = math.MinInt64
	mostTurns = math.MaxUint64
)

// usual is what layer 13 has as its default.
var usual = mode.Params{High: 50, Low: 10, Dwell: 20}

// quick switches without a dwell.
var quick = mode.Params{High: 50, Low: 10}

func fifo(since int64, turns uint64) mode.State { return mode.State{Since: since, Turns: turns} }

func lifo(since int64, turns uint64) mode.State {
	return mode.State{Lifo: true, Since: since, Turns: turns}
}

// P10.1: Right

func TestRight(t *testing.T) {
	for _, c := range []struct {
		p    mode.Params
		want bool
	}{
		{mode.Params{}, true},
		{usual, true},
		{mode.Params{High: 10, Low: 10, Dwell: 20}, true},
		{mode.Params{High: 9, Low: 10, Dwell: 20}, false},
		{mode.Params{High: 50, Low: 0, Dwell: 20}, true},
		{mode.Params{High: 50, Low: -1, Dwell: 20}, false},
		{mode.Params{High: -1, Low: -1, Dwell: 20}, false},
		{mode.Params{High: -1, Low: 0, Dwell: 20}, false},
		{mode.Params{High: 50, Low: 10, Dwell: 0}, true},
		{mode.Params{High: 50, Low: 10, Dwell: -1}, false},
		{mode.Params{High: most, Low: most, Dwell: most}, true},
		{mode.Params{High: most, Low: 0, Dwell: least}, false},
		{mode.Params{High: most, Low: least, Dwell: 0}, false},
		{mode.Params{High: least, Low: 0, Dwell: 0}, false},
		{mode.Params{High: least, Low: least, Dwell: least}, false},
	} {
		if got := c.p.Right(); got != c.want {
			t.Errorf("%+v: %v", c.p, got)
		}
	}
}

// P10.1: Turn

type turn struct {
	name        string
	s           mode.State
	p           mode.Params
	now, oldest int64
	backlog     int
	want        mode.State
}

func (c turn) check(t *testing.T) {
	t.Helper()
	if got := c.s.Turn(c.p, c.now, c.oldest, c.backlog); got != c.want {
		t.Errorf("%s: %+v, not %+v", c.name, got, c.want)
	}
}

func TestWhatIsWanted(t *testing.T) {
	for _, c := range []turn{
		{"fifo, below High", fifo(3, 1), quick, 70, 49, 1, fifo(3, 1)},
		{"fifo, at High", fifo(3, 1), quick, 70, 50, 1, lifo(70, 2)},
		{"fifo, above High", fifo(3, 1), quick, 70, 51, 1, lifo(70, 2)},
		{"fifo, at Low", fifo(3, 1), quick, 70, 10, 1, fifo(3, 1)},
		{"fifo, no backlog", fifo(3, 1), quick, 70, 50, 0, fifo(3, 1)},
		{"fifo, a backlog below 0", fifo(3, 1), quick, 70, 50, -1, fifo(3, 1)},
		{"fifo, the least backlog", fifo(3, 1), quick, 70, 50, math.MinInt, fifo(3, 1)},
		{"fifo, the greatest backlog", fifo(3, 1), quick, 70, 50, math.MaxInt, lifo(70, 2)},
		{"lifo, above High", lifo(3, 1), quick, 70, 51, 1, lifo(3, 1)},
		{"lifo, below High", lifo(3, 1), quick, 70, 49, 1, lifo(3, 1)},
		{"lifo, at Low", lifo(3, 1), quick, 70, 10, 1, lifo(3, 1)},
		{"lifo, below Low", lifo(3, 1), quick, 70, 9, 1, fifo(70, 2)},
		{"lifo, no backlog", lifo(3, 1), quick, 70, 51, 0, fifo(70, 2)},
		{"lifo, a backlog below 0", lifo(3, 1), quick, 70, 51, -1, fifo(70, 2)},
		{"lifo, the least backlog", lifo(3, 1), quick, 70, 51, math.MinInt, fifo(70, 2)},
		{"lifo, the greatest backlog", lifo(3, 1), quick, 70, 51, math.MaxInt, lifo(3, 1)},
		{"fifo, bounds of 0", fifo(3, 1), mode.Params{}, 70, 0, 1, lifo(70, 2)},
		{"fifo, bounds of 0, waiting since later", fifo(3, 1), mode.Params{}, 70, -1, 1, fifo(3, 1)},
		{"lifo, bounds of 0", lifo(3, 1), mode.Params{}, 70, 0, 1, lifo(3, 1)},
		{"lifo, bounds of 0, waiting since later", lifo(3, 1), mode.Params{}, 70, -1, 1, fifo(70, 2)},
		{"fifo, the greatest bound", fifo(3, 1), mode.Params{High: most}, 70, most - 1, 1, fifo(3, 1)},
		{"fifo, at the greatest bound", fifo(3, 1), mode.Params{High: most}, 70, most, 1, lifo(70, 2)},
		{"lifo, the least bound", lifo(3, 1), mode.Params{Low: least}, 70, least, 1, lifo(3, 1)},
		{"lifo, above the least bound", lifo(3, 1), mode.Params{Low: least + 1}, 70, least, 1, fifo(70, 2)},
		{"fifo, Low above High", fifo(3, 1), mode.Params{High: 10, Low: 50}, 70, 10, 1, lifo(70, 2)},
		{"lifo, Low above High", lifo(3, 1), mode.Params{High: 10, Low: 50}, 70, 49, 1, fifo(70, 2)},
	} {
		c.check(t)
	}
}

func TestDwell(t *testing.T) {
	all := mode.Params{High: 50, Low: 10, Dwell: most}
	below := mode.Params{High: 50, Low: 10, Dwell: -5}
	for _, c := range []turn{
		{"to lifo, before the dwell is over", fifo(100, 1), usual, 119, 50, 1, fifo(100, 1)},
		{"to lifo, when it is over", fifo(100, 1), usual, 120, 50, 1, lifo(120, 2)},
		{"to lifo, later", fifo(100, 1), usual, 121, 50, 1, lifo(121, 2)},
		{"to fifo, before the dwell is over", lifo(100, 1), usual, 119, 9, 1, lifo(100, 1)},
		{"to fifo, when it is over", lifo(100, 1), usual, 120, 9, 1, fifo(120, 2)},
		{"to fifo without a backlog, before the dwell is over", lifo(100, 1), usual, 119, 0, 0, lifo(100, 1)},
		{"to fifo without a backlog, when it is over", lifo(100, 1), usual, 120, 0, 0, fifo(120, 2)},
		{"nothing wanted, after the dwell", fifo(100, 1), usual, 500, 49, 1, fifo(100, 1)},
		{"the first turn is at once", fifo(100, 0), usual, 100, 50, 1, lifo(100, 1)},
		{"the first turn before Since", fifo(100, 0), usual, 50, 50, 1, lifo(50, 1)},
		{"the first turn is from lifo", lifo(100, 0), usual, 100, 9, 1, fifo(100, 1)},
		{"no first turn, as nothing is wanted", fifo(100, 0), usual, 100, 49, 1, fifo(100, 0)},
		{"a dwell of 0", fifo(100, 1), quick, 100, 50, 1, lifo(100, 2)},
		{"a dwell of 0, before Since", fifo(100, 1), quick, 99, 50, 1, fifo(100, 1)},
		{"a dwell below 0", fifo(100, 1), below, 95, 50, 1, lifo(95, 2)},
		{"a dwell below 0, earlier", fifo(100, 1), below, 94, 50, 1, fifo(100, 1)},
		{"the turns begin anew", lifo(100, mostTurns), usual, 120, 9, 1, fifo(120, 0)},
		{"the turns have begun anew", fifo(120, 0), usual, 121, 50, 1, lifo(121, 1)},
		{"the most turns wait", lifo(100, mostTurns), usual, 119, 9, 1, lifo(100, mostTurns)},
		{"turns beyond the signed ones", lifo(100, 1<<63), usual, 119, 9, 1, lifo(100, 1<<63)},
		{"the greatest dwell, saturated", fifo(least, 1), all, most, 50, 1, lifo(most, 2)},
		{"the greatest dwell", fifo(0, 1), all, most, 50, 1, lifo(most, 2)},
		{"the greatest dwell, not over", fifo(1, 1), all, most, 50, 1, fifo(1, 1)},
		{"saturated below", fifo(most, 1), quick, least, 50, 1, fifo(most, 1)},
		{"saturated below, the least dwell", fifo(most, 1), mode.Params{High: 50, Low: 10, Dwell: least}, least, 50, 1, lifo(least, 2)},
	} {
		c.check(t)
	}
}

// The example of the chapter, and how it would go on with a dwell.

func TestExample(t *testing.T) {
	var s mode.State
	for _, c := range []struct {
		now, oldest int64
		back        bool
	}{{0, 49, false}, {1, 50, true}, {1, 10, true}, {1, 9, false}, {1, 10, false}} {
		s = s.Turn(quick, c.now, c.oldest, 1)
		if s.Back() != c.back {
			t.Fatal(c, s)
		}
	}
	if s != fifo(1, 2) {
		t.Error(s)
	}
}

func TestToAndFro(t *testing.T) {
	var s mode.State
	for _, c := range []struct {
		now, oldest int64
		backlog     int
		want        mode.State
	}{
		{5, 50, 1, lifo(5, 1)}, // the first turn does not wait
		{6, 9, 1, lifo(5, 1)},
		{24, 9, 1, lifo(5, 1)},
		{24, 50, 1, lifo(5, 1)},
		{25, 9, 1, fifo(25, 2)},
		{30, 60, 3, fifo(25, 2)},
		{45, 60, 3, lifo(45, 3)},
		{64, 60, 0, lifo(45, 3)},
		{65, 60, 0, fifo(65, 4)},
		{90, 60, 0, fifo(65, 4)},
	} {
		if s = s.Turn(usual, c.now, c.oldest, c.backlog); s != c.want {
			t.Fatalf("at %d: %+v, not %+v", c.now, s, c.want)
		}
	}
}

// after is Turn by the words of P10.1, with a difference that cannot overflow.
func after(s mode.State, p mode.Params, now, oldest int64, backlog int) mode.State {
	wanted := false
	switch {
	case backlog <= 0:
	case !s.Lifo:
		wanted = oldest >= p.High
	default:
		wanted = oldest >= p.Low
	}
	gone := new(big.Int).Sub(big.NewInt(now), big.NewInt(s.Since))
	if gone.Cmp(big.NewInt(most)) > 0 {
		gone.SetInt64(most)
	}
	if gone.Cmp(big.NewInt(least)) < 0 {
		gone.SetInt64(least)
	}
	if wanted != s.Lifo && (s.Turns == 0 || gone.Cmp(big.NewInt(p.Dwell)) >= 0) {
		s.Lifo = wanted
		s.Since = now
		s.Turns++
	}
	return s
}

func TestAllOfFewValues(t *testing.T) {
	times := []int64{least, -1, 0, 1, 2, most}
	bounds := []int64{least, 0, 2, most}
	for _, high := range bounds {
		for _, low := range bounds {
			for _, dwell := range bounds {
				p := mode.Params{High: high, Low: low, Dwell: dwell}
				if p.Right() != (low >= 0 && low <= high && dwell >= 0) {
					t.Fatal(p)
				}
				for _, now := range times {
					for _, since := range times {
						checkTurns(t, p, now, since, times)
					}
				}
			}
		}
	}
}

func checkTurns(t *testing.T, p mode.Params, now, since int64, times []int64) {
	t.Helper()
	for _, s := range []mode.State{fifo(since, 0), lifo(since, 0), fifo(since, 3), lifo(since, 3), fifo(since, mostTurns), lifo(since, mostTurns)} {
		for _, oldest := range times {
			for _, backlog := range []int{math.MinInt, 0, 1, math.MaxInt} {
				got := s.Turn(p, now, oldest, backlog)
				if want := after(s, p, now, oldest, backlog); got != want {
					t.Fatalf("%+v, %+v at %d with %d, %d: %+v, not %+v", s, p, now, oldest, backlog, got, want)
				}
			}
		}
	}
}

func TestStateIsAValue(t *testing.T) {
	s := fifo(7, 2)
	for range 2 { // P2: the same answer again, and the state stays as it was
		if got := s.Turn(quick, 70, 50, 1); got != lifo(70, 3) || s != fifo(7, 2) {
			t.Fatal(got, s)
		}
	}
}

// P10.2

func TestBack(t *testing.T) {
	for _, s := range []mode.State{{}, fifo(-1, 1), fifo(most, mostTurns)} {
		if s.Back() {
			t.Error(s)
		}
	}
	for _, s := range []mode.State{lifo(0, 0), lifo(least, 1), lifo(most, 2)} {
		if !s.Back() {
			t.Error(s)
		}
	}
}
