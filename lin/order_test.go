package lin_test

import (
	"math"
	"slices"
	"testing"

	"overfall/api"
	"overfall/conf"
	"overfall/core"
	"overfall/fix"
	"overfall/gate"
	"overfall/lin"
)

func admitted(ticket uint64, tier int) core.Result {
	return core.Result{Answer: gate.Admitted, Ticket: ticket, Tier: tier, Cohort: 3}
}

func dispatched(ticket uint64, tier int) core.Result {
	return core.Result{Answer: gate.Dispatched, Ticket: ticket, Tier: tier, Cohort: 3}
}

func done(begin, end int, op core.Op, r core.Result) lin.Done {
	return lin.Done{Begin: begin, End: end, Op: op, Result: r}
}

// admits and polls are calls that last from 0 to 9.
func admits(ticket uint64, tier int) lin.Done {
	return done(0, 9, submit(tier), admitted(ticket, tier))
}

func polls(r core.Result) lin.Done { return done(0, 9, poll(), r) }

// opens is a call that has not ended.
func opens(begin int, op core.Op) lin.Done { return done(begin, -1, op, core.Result{}) }

// holdOrder: without an order that it should be, there should be none.
func holdOrder(t *testing.T, l []lin.Done, want ...int) {
	t.Helper()
	holdOrderAt(t, sized(4, 9), 0, l, want)
}

func holdOrderAt(t *testing.T, c conf.Config, now int64, l []lin.Done, want []int) {
	t.Helper()
	e := api.OK
	if want == nil {
		e = api.ErrNone
	}
	if got, f := lin.Order(c, now, l); !slices.Equal(got, want) || f != e {
		t.Errorf("%v, %d, not %v, %d, for %+v", got, f, want, e, l)
	}
	if got, f := orderOf(c, now, l); !slices.Equal(got, want) || f != e {
		t.Errorf("restated %v, %d, not %v, %d, for %+v", got, f, want, e, l)
	}
}

// P22.2

func TestExample(t *testing.T) {
	holdOrder(t, []lin.Done{admits(1, 1), admits(2, 1), polls(dispatched(1, 1)), polls(dispatched(2, 1))}, 0, 1, 2, 3)
	holdOrder(t, []lin.Done{admits(1, 1), admits(2, 1), polls(dispatched(2, 1)), polls(dispatched(1, 1))}, 0, 1, 3, 2)
}

func TestErrorsOfOrder(t *testing.T) {
	none := []lin.Done{polls(admitted(1, 1))}
	long := slices.Repeat([]lin.Done{polls(empty())}, api.MaxCalls+1)
	for _, c := range wrongConfigs() {
		for _, l := range [][]lin.Done{nil, none, long, {polls(empty())}} {
			if got, e := lin.Order(c, 0, l); len(got) != 0 || e != api.ErrArg {
				t.Errorf("%v, %d, not nothing and ErrArg, for %+v", got, e, c)
			}
		}
	}
	c := sized(4, 9)
	for _, kind := range []lin.Done{polls(empty()), polls(refused()), opens(0, poll()), none[0]} {
		for _, n := range []int{api.MaxCalls + 1, api.MaxCalls + 2, 1000} {
			if got, e := lin.Order(c, 0, slices.Repeat([]lin.Done{kind}, n)); len(got) != 0 || e != api.ErrLong {
				t.Errorf("%v, %d, not nothing and ErrLong, for %d of %+v", got, e, n, kind)
			}
		}
	}
	holdOrder(t, none)
	holdOrder(t, append(slices.Repeat([]lin.Done{opens(0, poll())}, 5), none...))
}

func TestOrderOfNothing(t *testing.T) {
	for _, l := range [][]lin.Done{nil, {}, {opens(0, poll())}, {polls(refused())}, {opens(0, submit(1)), polls(refused()), opens(3, poll())}} {
		holdOrder(t, l, []int{}...)
		if got, e := lin.Order(sized(4, 9), 0, l); len(got) != 0 || e != api.OK {
			t.Errorf("%v, %d, for %+v", got, e, l)
		}
	}
}

func TestOrderOfAsManyAsMayBe(t *testing.T) {
	l := []lin.Done{
		polls(dispatched(2, 1)), admits(3, 3), polls(dispatched(1, 2)), admits(2, 1), polls(dispatched(3, 3)), admits(1, 2),
	}
	holdOrder(t, l, 5, 2, 3, 0, 1, 4)
	holdOrder(t, slices.Repeat([]lin.Done{polls(empty())}, api.MaxCalls), 0, 1, 2, 3, 4, 5)
}

// TestFirstOrderIsReturned: where several would do, that with the smallest index at the first position, and so on.
func TestFirstOrderIsReturned(t *testing.T) {
	expires := done(0, 9, core.Op{Kind: core.Submit, N: -1}, core.Result{Answer: gate.Expired})
	holdOrder(t, []lin.Done{polls(empty()), admits(1, 1), expires}, 0, 1, 2)
	holdOrder(t, []lin.Done{expires, polls(dispatched(1, 1)), expires, admits(1, 1)}, 0, 2, 3, 1)
	holdOrder(t, []lin.Done{polls(dispatched(1, 1)), admits(1, 1), polls(empty())}, 1, 0, 2)
	holdOrder(t, []lin.Done{polls(dispatched(1, 1)), polls(empty()), admits(1, 1)}, 1, 2, 0)
}

// TestSearchTakesBack: with the idle sample first, the level is 1 when the least critical request comes.
func TestSearchTakesBack(t *testing.T) {
	settled := core.Result{Answer: gate.Done}
	idle := done(0, 9, core.Op{Kind: core.Sample}, settled)
	busy := done(0, 4, core.Op{Kind: core.Sample, N: int64(fix.One + fix.One/2)}, settled)
	least := done(5, 9, core.Op{Kind: core.Submit, Tier: 3, Cohort: 127, N: 500}, core.Result{Answer: gate.Admitted, Ticket: 1, Tier: 3, Cohort: 127})
	holdOrder(t, []lin.Done{idle, busy, least}, 1, 0, 2)
	holdOrder(t, []lin.Done{idle, polls(empty()), busy, least}, 1, 2, 0, 3)
	least.Result = core.Result{Answer: gate.Cutoff}
	holdOrder(t, []lin.Done{idle, busy, least}, 0, 1, 2)
	holdOrder(t, []lin.Done{least, idle, busy}, 1, 2, 0)
}

func TestOrderKeepsToTheTimes(t *testing.T) {
	for _, c := range []struct {
		firstEnd, begin int
		want            []int
	}{
		{9, 10, nil}, // the Poll ended before the Submit began
		{9, 9, []int{1, 0}},
		{9, 8, []int{1, 0}},
		{9, 0, []int{1, 0}},
		{9, -1, []int{1, 0}},
		{0, 1, nil},
		{0, 0, []int{1, 0}},
		{math.MaxInt - 1, math.MaxInt, nil},
		{math.MaxInt, math.MaxInt, []int{1, 0}},
	} {
		l := []lin.Done{
			done(0, c.firstEnd, poll(), dispatched(1, 1)),
			done(c.begin, math.MaxInt, submit(1), admitted(1, 1)),
		}
		holdOrder(t, l, c.want...)
	}
}

// TestWhoEndsBeforeItsBeginning can never be next, unless it has not ended.
func TestWhoEndsBeforeItsBeginning(t *testing.T) {
	holdOrder(t, []lin.Done{done(5, 4, poll(), empty())})
	holdOrder(t, []lin.Done{done(5, 5, poll(), empty())}, 0)
	holdOrder(t, []lin.Done{done(5, 0, poll(), empty()), polls(empty())})
	holdOrder(t, []lin.Done{done(5, 0, poll(), refused()), polls(empty())}, 1)
	holdOrder(t, []lin.Done{done(5, -3, poll(), empty()), polls(dispatched(1, 1)), admits(1, 1)}, 0, 2, 1)
}

// TestOnlyThoseThatAreNotContainedComeFirst: once a call is contained, those that began after its end may be next.
func TestOnlyThoseThatAreNotContainedComeFirst(t *testing.T) {
	l := []lin.Done{
		done(6, 9, poll(), dispatched(2, 1)),
		done(4, 5, poll(), dispatched(1, 1)),
		done(2, 3, submit(1), admitted(2, 1)),
		done(0, 1, submit(1), admitted(1, 1)),
	}
	holdOrder(t, l, 3, 2, 1, 0)
	l[2].Begin, l[2].End, l[3].Begin, l[3].End = 0, 1, 2, 3
	holdOrder(t, l) // ticket 1 began after ticket 2 had ended
}

// TestOpenCalls are contained where the search comes upon them before all that have ended are contained.
func TestOpenCalls(t *testing.T) {
	holdOrder(t, []lin.Done{opens(0, submit(1)), polls(dispatched(1, 1))}, 0, 1)
	holdOrder(t, []lin.Done{polls(dispatched(1, 1)), opens(0, submit(1))}, 1, 0)
	holdOrder(t, []lin.Done{polls(empty()), opens(0, submit(1))}, 0)
	holdOrder(t, []lin.Done{opens(0, submit(1)), admits(2, 1)}, 0, 1)
	holdOrder(t, []lin.Done{opens(0, submit(1)), admits(1, 1)}, 1)
	holdOrder(t, []lin.Done{opens(0, poll()), admits(1, 1)}, 0, 1)
	holdOrder(t, []lin.Done{polls(dispatched(1, 1)), opens(10, submit(1))})
	holdOrder(t, []lin.Done{polls(dispatched(1, 1)), opens(9, submit(1))}, 1, 0)
	holdOrder(t, []lin.Done{opens(5, submit(1)), done(0, 4, poll(), empty()), done(9, 9, poll(), dispatched(1, 1))}, 1, 0, 2)
	holdOrder(t, []lin.Done{opens(0, submit(2)), opens(0, submit(1)), polls(dispatched(2, 1)), opens(0, submit(0))}, 0, 1, 2)
	holdOrder(t, []lin.Done{opens(0, submit(2)), opens(0, submit(1)), polls(dispatched(1, 1)), polls(empty())}, 1, 2, 3)
}

// TestOpenCallsHaveNoResult: what one has as its result is not held against the core's, also if it is Busy.
func TestOpenCallsHaveNoResult(t *testing.T) {
	for _, end := range []int{-1, -7, math.MinInt} {
		for _, r := range []core.Result{{}, refused(), admitted(9, 9), admitted(1, 1)} {
			holdOrder(t, []lin.Done{polls(dispatched(1, 1)), done(0, end, submit(1), r)}, 1, 0)
		}
	}
}

// TestBusyCallsAreIgnored: they are not contained, and need not come first though they ended early.
func TestBusyCallsAreIgnored(t *testing.T) {
	for _, end := range []int{0, 5, math.MaxInt} {
		b := done(0, end, submit(1), refused())
		holdOrder(t, []lin.Done{b, done(7, 9, poll(), empty()), b}, 1)
		holdOrder(t, []lin.Done{b, done(7, 9, poll(), dispatched(1, 1)), b})
		holdOrder(t, []lin.Done{b, done(7, 9, poll(), dispatched(1, 1)), b, opens(8, submit(1))}, 3, 1)
	}
}

func TestEachFieldOfAResult(t *testing.T) {
	for i, l := range [][]lin.Done{{admits(1, 2)}, {polls(empty())}, {done(0, 9, core.Op{Kind: core.Sample}, core.Result{Answer: gate.Done})}} {
		holdOrder(t, l, 0)
		for _, r := range changesOfResult(l[0].Result) {
			holdOrder(t, []lin.Done{done(0, 9, l[0].Op, r)})
		}
		if i == 0 {
			holdOrder(t, []lin.Done{done(0, 9, submit(1), l[0].Result)})
		}
	}
}

func TestTimeOfOrder(t *testing.T) {
	c := sized(4, 9)
	op := core.Op{Kind: core.Submit, Tier: 1, Cohort: 3, N: 7}
	in := []lin.Done{done(0, 9, op, admitted(1, 1)), polls(dispatched(1, 1))}
	late := []lin.Done{done(0, 9, op, core.Result{Answer: gate.Expired}), polls(empty())}
	for _, now := range []int64{math.MinInt64, -1, 0, 6} {
		holdOrderAt(t, c, now, in, []int{0, 1})
		holdOrderAt(t, c, now, late, nil)
	}
	for _, now := range []int64{7, 8, math.MaxInt64} {
		holdOrderAt(t, c, now, in, nil)
		holdOrderAt(t, c, now, late, []int{0, 1})
	}
	op.N = 0
	for _, now := range []int64{math.MinInt64, -1, 0} { // no core's clock is below 0
		holdOrderAt(t, c, now, []lin.Done{done(0, 9, op, core.Result{Answer: gate.Expired})}, []int{0})
	}
}

func TestConfigurationOfOrder(t *testing.T) {
	full := done(0, 9, submit(1), core.Result{Answer: gate.Full})
	invalid := done(0, 9, submit(1), core.Result{Answer: gate.Invalid})
	holdOrderAt(t, sized(4, 1), 0, []lin.Done{full, admits(1, 1)}, []int{1, 0})
	holdOrderAt(t, sized(4, 2), 0, []lin.Done{full, admits(1, 1)}, nil)
	holdOrderAt(t, sized(4, 2), 0, []lin.Done{full, admits(2, 1), admits(1, 1)}, []int{2, 1, 0})
	holdOrderAt(t, sized(1, 2), 0, []lin.Done{invalid, invalid}, []int{0, 1})
}
