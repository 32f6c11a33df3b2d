package core_test

import (
	"math"
	"slices"
	"testing"

	"overfall/api"
	"overfall/codel"
	"overfall/conf"
	"overfall/core"
	"overfall/fix"
	"overfall/gate"
	"overfall/mode"
	"overfall/pid"
	"overfall/slab"
	"overfall/tally"
)

const (
	far  = 1 << 40 // a deadline that no test reaches
	most = math.MaxInt64
)

// calm sheds nothing by waiting times, and serves the oldest one first, as far as a test comes.
func calm(tiers, room int) conf.Config {
	c := conf.Default()
	c.Tiers, c.Room = tiers, room
	c.Target, c.Interval = far, far
	c.High, c.Low, c.Dwell = far, far, 0
	c.Horizon = 1 << 50
	return c
}

// waiting sheds by CoDel with Target 5 and Interval 100.
func waiting(tiers, room int) conf.Config {
	c := calm(tiers, room)
	c.Target, c.Interval = 5, 100
	return c
}

// direct has a level that a Sample of a whole number raises to just this number, and one of 0 lowers by 1.
func direct(tiers, room int) conf.Config {
	c := calm(tiers, room)
	c.Setpoint, c.Kp, c.Ki, c.Kd, c.Step = 0, fix.One, 0, 0, 10000
	return c
}

func newCore(t *testing.T, config conf.Config) *core.Core {
	t.Helper()
	c, e := core.New(config)
	if c == nil || e != api.OK {
		t.Fatalf("New: %v, %d", c, e)
	}
	return c
}

func submit(tier, cohort int, deadline int64) core.Op {
	return core.Op{Kind: core.Submit, Tier: tier, Cohort: cohort, N: deadline}
}

func poll() core.Op { return core.Op{Kind: core.Poll} }

// level is a Sample for direct.
func level(n int64) core.Op { return core.Op{Kind: core.Sample, N: int64(fix.Whole(n))} }

func drain(limit int64) core.Op { return core.Op{Kind: core.Drain, N: limit} }

func admitted(ticket uint64, tier, cohort int) core.Result {
	return core.Result{Answer: gate.Admitted, Ticket: ticket, Tier: tier, Cohort: cohort}
}

func dispatched(ticket uint64, tier, cohort int, sojourn int64) core.Result {
	return core.Result{Answer: gate.Dispatched, Ticket: ticket, Tier: tier, Cohort: cohort, Sojourn: sojourn}
}

func answer(a byte) core.Result { return core.Result{Answer: a} }

// do holds the result of a call against the one that it should have.
func do(t *testing.T, c *core.Core, now int64, op core.Op, want core.Result) {
	t.Helper()
	if got := c.Do(now, op); got != want {
		t.Fatalf("at %d %+v: %+v, not %+v", now, op, got, want)
	}
}

// admit submits requests of these tiers, with cohort 0, which should get the next tickets.
func admit(t *testing.T, c *core.Core, now int64, tiers ...int) {
	t.Helper()
	for _, tier := range tiers {
		do(t, c, now, submit(tier, 0, far), admitted(c.Ticket()+1, tier, 0))
	}
}

// queued holds the tickets of all queued requests against those that there should be.
func queued(t *testing.T, c *core.Core, want ...uint64) {
	t.Helper()
	var got []uint64
	for _, r := range c.Queue() {
		got = append(got, r.Ticket)
	}
	if !slices.Equal(got, want) {
		t.Fatalf("queued are %v, not %v", got, want)
	}
}

type end struct {
	ticket  uint64
	why     byte
	at      int64
	sojourn int64
}

// ended holds the log against the ends that it should have, by their most telling fields.
func ended(t *testing.T, c *core.Core, want ...end) {
	t.Helper()
	var got []end
	for o := range c.Log().All(0) {
		got = append(got, end{o.Ticket, o.Why, o.At, o.Sojourn})
	}
	if !slices.Equal(got, want) {
		t.Fatalf("ended are %v, not %v", got, want)
	}
}

// view is all that a core tells.
type view struct {
	config conf.Config
	phase  byte
	clock  int64
	level  int64
	ticket uint64
	queue  []slab.Req
	codels []codel.State
	modes  []mode.State
	pid    pid.State
	log    []tally.Outcome
}

func viewOf(c *core.Core) view {
	v := view{
		config: c.Config(), phase: c.Phase(), clock: c.Clock(), level: c.Level(), ticket: c.Ticket(),
		queue: c.Queue(), pid: c.Pid(), log: c.Log().Since(0),
	}
	for tier := -1; tier <= api.MaxTiers; tier++ {
		v.codels = append(v.codels, c.Codel(tier))
		v.modes = append(v.modes, c.Mode(tier))
	}
	return v
}

func (v view) equal(w view) bool {
	return v.config == w.config && v.phase == w.phase && v.clock == w.clock && v.level == w.level && v.ticket == w.ticket &&
		slices.Equal(v.queue, w.queue) && slices.Equal(v.codels, w.codels) && slices.Equal(v.modes, w.modes) &&
		v.pid == w.pid && slices.Equal(v.log, w.log)
}

// unchanged holds what a core tells against what it told before, but for the clock.
func unchanged(t *testing.T, c *core.Core, before view, clock int64) {
	t.Helper()
	before.clock = clock
	if got := viewOf(c); !got.equal(before) {
		t.Fatalf("changed to %+v from %+v", got, before)
	}
}

// P16.1

func TestNumbers(t *testing.T) {
	kinds := []int{core.Submit, core.Poll, core.Sample, core.Drain}
	phases := []int{core.Running, core.Draining, core.Drained}
	if !slices.Equal(kinds, []int{0, 1, 2, 3}) || !slices.Equal(phases, []int{0, 1, 2}) {
		t.Error(kinds, phases)
	}
}

func TestExample(t *testing.T) {
	c := newCore(t, conf.Default())
	do(t, c, 0, submit(0, 0, 10), admitted(1, 0, 0))
	do(t, c, 0, poll(), dispatched(1, 0, 0, 0))
}

func TestNewErrors(t *testing.T) {
	for n, spoil := range []func(c *conf.Config){
		func(c *conf.Config) { *c = conf.Config{} },
		func(c *conf.Config) { c.Tiers = 0 },
		func(c *conf.Config) { c.Tiers = api.MaxTiers + 1 },
		func(c *conf.Config) { c.Room = 0 },
		func(c *conf.Config) { c.Room = api.MaxRoom + 1 },
		func(c *conf.Config) { c.Target = 0 },
		func(c *conf.Config) { c.Interval = -1 },
		func(c *conf.Config) { c.Low = c.High + 1 },
		func(c *conf.Config) { c.Horizon = c.Target - 1 },
		func(c *conf.Config) { c.Step = 0 },
		func(c *conf.Config) { c.Limit = -1 },
		func(c *conf.Config) { c.Threads = 0 },
		func(c *conf.Config) { c.Ring = 3 },
	} {
		config := conf.Default()
		spoil(&config)
		if c, e := core.New(config); c != nil || e != api.ErrArg {
			t.Errorf("%d: %v, %d", n, c, e)
		}
	}
}

func TestNewCore(t *testing.T) {
	for _, size := range [][2]int{{1, 1}, {1, api.MaxRoom}, {api.MaxTiers, 1}, {api.MaxTiers, api.MaxRoom}, {4, 64}} {
		config := calm(size[0], size[1])
		c := newCore(t, config)
		want := view{config: config, codels: make([]codel.State, api.MaxTiers+2), modes: make([]mode.State, api.MaxTiers+2)}
		if got := viewOf(c); !got.equal(want) {
			t.Errorf("%v: %+v", size, got)
		}
		if c.Log() == nil {
			t.Error("no log")
		}
	}
}

func TestQueueHasRoomForAllTiersTogether(t *testing.T) {
	c := newCore(t, calm(3, 5))
	admit(t, c, 0, 2, 0, 2, 1, 0)
	do(t, c, 0, submit(2, 0, far), answer(gate.Full))
	queued(t, c, 2, 5, 4, 1, 3)
}

func TestQueueTellsAllFields(t *testing.T) {
	c := newCore(t, calm(3, 5))
	do(t, c, 7, submit(2, 127, 90), admitted(1, 2, 127))
	do(t, c, 8, submit(1, 3, 70), admitted(2, 1, 3))
	want := []slab.Req{
		{Ticket: 2, Tier: 1, Cohort: 3, Deadline: 70, Arrived: 8},
		{Ticket: 1, Tier: 2, Cohort: 127, Deadline: 90, Arrived: 7},
	}
	if got := c.Queue(); !slices.Equal(got, want) {
		t.Error(got)
	}
}

func TestQueueIsNewMemory(t *testing.T) {
	c := newCore(t, calm(2, 9))
	admit(t, c, 0, 1, 0, 1)
	first, again := c.Queue(), c.Queue()
	spare := first[:cap(first)]
	for n := range spare {
		spare[n] = slab.Req{Ticket: 99}
	}
	queued(t, c, 2, 1, 3)
	do(t, c, 1, poll(), dispatched(2, 0, 0, 1))
	if len(again) != 3 || again[0].Ticket != 2 || again[2].Ticket != 3 {
		t.Error("changed afterwards:", again)
	}
}

func TestLogIsTheCoresOwn(t *testing.T) {
	c := newCore(t, calm(2, 9))
	log := c.Log()
	admit(t, c, 0, 0)
	if log.Len() != 0 {
		t.Error("a request that is queued has an outcome")
	}
	do(t, c, 6, poll(), dispatched(1, 0, 0, 6))
	if got := log.Since(0); len(got) != 1 || got[0] != (tally.Outcome{Ticket: 1, Why: tally.Out, At: 6, Sojourn: 6}) {
		t.Error(got)
	}
	if c.Log() != log {
		t.Error("another log")
	}
}

// TestTiersThatDoNotExist: beside tiers whose states are not zero.
func TestTiersThatDoNotExist(t *testing.T) {
	config := waiting(2, 9)
	config.High, config.Low = 5, 5
	c := newCore(t, config)
	for tier := range 2 {
		admit(t, c, 0, tier, tier)
		do(t, c, 9, poll(), dispatched(c.Ticket(), tier, 0, 9))
		do(t, c, 9, submit(tier, 0, 10), admitted(c.Ticket()+1, tier, 0))
		if c.Codel(tier) == (codel.State{}) || c.Mode(tier) == (mode.State{}) {
			t.Fatal("tier", tier, c.Codel(tier), c.Mode(tier))
		}
		c = newCore(t, config)
	}
	admit(t, c, 0, 0, 0)
	do(t, c, 9, poll(), dispatched(2, 0, 0, 9))
	for _, tier := range []int{-1, 2, 3, api.MaxTiers, math.MinInt, math.MaxInt, 1 << 32, -1 << 32} {
		if c.Codel(tier) != (codel.State{}) || c.Mode(tier) != (mode.State{}) {
			t.Error("tier", tier, c.Codel(tier), c.Mode(tier))
		}
	}
}

func TestCoresAreIndependent(t *testing.T) {
	a, b := newCore(t, direct(2, 4)), newCore(t, direct(2, 4))
	before := viewOf(b)
	admit(t, a, 3, 0, 1, 1)
	do(t, a, 3, level(128), answer(gate.Done))
	do(t, a, 3, drain(5), answer(gate.Done))
	unchanged(t, b, before, 0)
}

func TestNilCore(t *testing.T) {
	var c *core.Core
	for kind := range 256 {
		do(t, c, 5, core.Op{Kind: byte(kind), N: 9}, core.Result{})
	}
	want := view{codels: make([]codel.State, api.MaxTiers+2), modes: make([]mode.State, api.MaxTiers+2)}
	if got := viewOf(c); !got.equal(want) {
		t.Errorf("%+v", got)
	}
	if c.Log() != nil || c.Queue() != nil {
		t.Error(c.Log(), c.Queue())
	}
}

// P16.2

func TestClockNeverGoesBack(t *testing.T) {
	c := newCore(t, calm(2, 9))
	for _, step := range []struct {
		now, want int64
	}{
		{math.MinInt64, 0}, {-1, 0}, {0, 0}, {5, 5}, {4, 5}, {5, 5}, {-7, 5}, {6, 6}, {most - 1, most - 1}, {0, most - 1}, {most, most}, {most - 1, most},
	} {
		c.Do(step.now, poll())
		if c.Clock() != step.want {
			t.Fatalf("after %d it is %d, not %d", step.now, c.Clock(), step.want)
		}
	}
}

func TestEachCallSetsTheClock(t *testing.T) {
	for n, op := range []core.Op{submit(0, 0, far), submit(9, 0, far), submit(0, 0, 3), poll(), level(1), drain(99), {Kind: 4}, {Kind: 255}} {
		c := newCore(t, direct(2, 9))
		c.Do(7, op)
		if c.Clock() != 7 {
			t.Errorf("%d: %d", n, c.Clock())
		}
	}
}

// TestNowIsTheClock: an earlier now counts as the clock for deadlines, arrivals and times of ends.
func TestNowIsTheClock(t *testing.T) {
	c := newCore(t, calm(2, 9))
	do(t, c, 50, poll(), answer(gate.Empty))
	do(t, c, 10, submit(0, 0, 50), answer(gate.Expired))
	do(t, c, 10, submit(0, 0, 51), admitted(1, 0, 0))
	if got := c.Queue()[0].Arrived; got != 50 {
		t.Error("arrived at", got)
	}
	do(t, c, 51, poll(), answer(gate.Empty))
	do(t, c, 10, submit(0, 0, far), admitted(2, 0, 0))
	do(t, c, 20, poll(), dispatched(2, 0, 0, 0))
	ended(t, c, end{1, tally.Late, 51, 1}, end{2, tally.Out, 51, 0})
}

func TestOtherKinds(t *testing.T) {
	for kind := 4; kind < 256; kind++ {
		c := newCore(t, calm(2, 9))
		do(t, c, 0, submit(0, 0, 5), admitted(1, 0, 0))
		do(t, c, 0, submit(1, 0, far), admitted(2, 1, 0))
		do(t, c, 0, drain(10), answer(gate.Done))
		before := viewOf(c)
		for now := range int64(20) { // past the deadline and the limit: no sweep
			do(t, c, now, core.Op{Kind: byte(kind), N: 1}, answer(gate.Invalid))
			unchanged(t, c, before, now)
		}
		do(t, c, 0, poll(), answer(gate.Closed))
		ended(t, c, end{1, tally.Late, 19, 19}, end{2, tally.Drain, 19, 19})
	}
}

func TestOtherKindsDoNotEndTheDraining(t *testing.T) {
	c := newCore(t, calm(1, 3))
	do(t, c, 0, submit(0, 0, 5), admitted(1, 0, 0))
	do(t, c, 0, drain(far), answer(gate.Done))
	do(t, c, 5, core.Op{Kind: 4}, answer(gate.Invalid))
	queued(t, c, 1)
	if c.Phase() != core.Draining {
		t.Error("phase", c.Phase())
	}
}

// TestRefusedSubmitsSweepNothing: Invalid comes before Expired.
func TestRefusedSubmitsSweepNothing(t *testing.T) {
	c := newCore(t, direct(2, 1))
	do(t, c, 0, submit(0, 0, 5), admitted(1, 0, 0))
	do(t, c, 0, level(100), answer(gate.Done))
	before := viewOf(c)
	for _, s := range []struct {
		op   core.Op
		want byte
	}{
		{submit(2, 0, far), gate.Invalid},
		{submit(-1, 0, far), gate.Invalid},
		{submit(0, 128, far), gate.Invalid},
		{submit(0, -1, far), gate.Invalid},
		{submit(math.MaxInt, 0, far), gate.Invalid},
		{submit(math.MinInt, math.MinInt, far), gate.Invalid},
		{submit(2, 0, 0), gate.Invalid},
		{submit(1, 128, math.MinInt64), gate.Invalid},
		{submit(0, 0, 9), gate.Expired},
		{submit(0, 0, 8), gate.Expired},
		{submit(0, 0, -1), gate.Expired},
		{submit(0, 0, math.MinInt64), gate.Expired},
		{submit(1, 127, 9), gate.Expired}, // it would be cut off
	} {
		do(t, c, 9, s.op, answer(s.want))
		unchanged(t, c, before, 9)
	}
	do(t, c, 9, submit(1, 127, 10), answer(gate.Cutoff))
	ended(t, c, end{1, tally.Late, 9, 9})
}

func TestNothingIsInvalidOnceItDrains(t *testing.T) {
	for _, op := range []core.Op{submit(2, 0, far), submit(0, -1, far), submit(0, 0, 3), submit(0, 0, far)} {
		c := newCore(t, calm(2, 9))
		do(t, c, 0, submit(1, 0, 5), admitted(1, 1, 0))
		do(t, c, 0, submit(0, 0, 9), admitted(2, 0, 0))
		do(t, c, 0, drain(far), answer(gate.Done))
		do(t, c, 5, op, answer(gate.Draining)) // the sweep comes before the answer
		ended(t, c, end{1, tally.Late, 5, 5})
		do(t, c, 9, op, answer(gate.Draining))
		ended(t, c, end{1, tally.Late, 5, 5}, end{2, tally.Late, 9, 9})
		if c.Phase() != core.Drained {
			t.Error("phase", c.Phase())
		}
		do(t, c, 10, op, answer(gate.Draining))
	}
}

func TestSweepByDeadlineThenTicket(t *testing.T) {
	c := newCore(t, calm(3, 9))
	for n, r := range []struct {
		tier     int
		deadline int64
	}{
		{2, 9}, {0, 7}, {1, 7}, {2, 5}, {0, 9}, {0, 10}, {0, 5},
	} {
		do(t, c, int64(n/4), submit(r.tier, n, r.deadline), admitted(uint64(n+1), r.tier, n))
	}
	do(t, c, 4, level(0), answer(gate.Done))
	ended(t, c)
	do(t, c, 9, level(0), answer(gate.Done))
	want := []end{{4, tally.Late, 9, 9}, {7, tally.Late, 9, 8}, {2, tally.Late, 9, 9}, {3, tally.Late, 9, 9}, {1, tally.Late, 9, 9}, {5, tally.Late, 9, 8}}
	ended(t, c, want...)
	if o := c.Log().Since(3)[0]; o.Tier != 1 || o.Cohort != 2 {
		t.Error(o)
	}
	queued(t, c, 6)
	do(t, c, 10, level(0), answer(gate.Done))
	ended(t, c, append(want, end{6, tally.Late, 10, 9})...)
}

func TestEachKindSweeps(t *testing.T) {
	for _, s := range []struct {
		op   core.Op
		want core.Result
	}{
		{submit(0, 0, far), admitted(2, 0, 0)},
		{submit(1, 127, far), answer(gate.Cutoff)},
		{poll(), answer(gate.Empty)},
		{level(0), answer(gate.Done)},
		{drain(far), answer(gate.Done)},
	} {
		c := newCore(t, direct(2, 1))
		do(t, c, 1, submit(0, 0, 5), admitted(1, 0, 0))
		do(t, c, 1, level(9), answer(gate.Done))
		do(t, c, 4, level(9), answer(gate.Done))
		queued(t, c, 1)
		do(t, c, 5, s.op, s.want)
		ended(t, c, end{1, tally.Late, 5, 4})
	}
}

func TestLimitOfTheDraining(t *testing.T) {
	for _, op := range []core.Op{submit(0, 0, far), poll(), level(0)} {
		c := newCore(t, calm(3, 9))
		do(t, c, 0, submit(2, 0, far), admitted(1, 2, 0))
		admit(t, c, 0, 0, 2, 1)
		do(t, c, 0, submit(0, 0, 19), admitted(5, 0, 0))
		do(t, c, 1, drain(20), answer(gate.Done))
		do(t, c, 19, level(0), answer(gate.Done))
		queued(t, c, 2, 4, 1, 3)
		if c.Phase() != core.Draining {
			t.Fatal("phase", c.Phase())
		}
		c.Do(20, op)
		ended(t, c, end{5, tally.Late, 19, 19}, end{2, tally.Drain, 20, 20}, end{4, tally.Drain, 20, 20}, end{1, tally.Drain, 20, 20}, end{3, tally.Drain, 20, 20})
		if c.Phase() != core.Drained {
			t.Error("phase", c.Phase())
		}
	}
}

func TestLateBeforeDrained(t *testing.T) {
	c := newCore(t, calm(2, 9))
	do(t, c, 0, submit(0, 0, far), admitted(1, 0, 0))
	do(t, c, 0, submit(1, 0, 20), admitted(2, 1, 0))
	do(t, c, 0, submit(0, 0, 20), admitted(3, 0, 0))
	do(t, c, 0, drain(20), answer(gate.Done))
	do(t, c, 25, poll(), answer(gate.Closed))
	ended(t, c, end{2, tally.Late, 25, 25}, end{3, tally.Late, 25, 25}, end{1, tally.Drain, 25, 25})
}

// TestDrainingEndsWhenTheQueueIsEmpty: swept, taken or cut, before the next call.
func TestDrainingEndsWhenTheQueueIsEmpty(t *testing.T) {
	for _, s := range []struct {
		now  int64
		op   core.Op
		want core.Result
	}{
		{2, poll(), dispatched(1, 1, 0, 2)},
		{2, level(200), answer(gate.Done)},
		{5, level(0), answer(gate.Done)},
		{5, poll(), answer(gate.Closed)},
		{5, submit(0, 0, far), answer(gate.Draining)},
		{2, drain(1), answer(gate.Done)},
	} {
		c := newCore(t, direct(2, 9))
		do(t, c, 0, submit(1, 0, 5), admitted(1, 1, 0))
		do(t, c, 0, drain(far), answer(gate.Done))
		if c.Phase() != core.Draining {
			t.Fatal("phase", c.Phase())
		}
		do(t, c, s.now, s.op, s.want)
		if c.Phase() != core.Drained || len(c.Queue()) != 0 {
			t.Error(s, c.Phase(), c.Queue())
		}
		do(t, c, s.now, poll(), answer(gate.Closed))
	}
}

func TestWithoutDrainAnEmptyQueueEndsNothing(t *testing.T) {
	c := newCore(t, direct(2, 9))
	admit(t, c, 0, 1)
	for _, op := range []core.Op{poll(), poll(), level(200), level(0), submit(9, 9, 9)} {
		c.Do(most, op)
		if c.Phase() != core.Running {
			t.Fatal(op, c.Phase())
		}
	}
}

// P16.3

func TestTicketsOnlyForAdmitted(t *testing.T) {
	c := newCore(t, direct(2, 3))
	do(t, c, 0, level(10), answer(gate.Done))
	do(t, c, 0, submit(2, 0, far), answer(gate.Invalid))
	do(t, c, 0, submit(1, 5, far), admitted(1, 1, 5))
	do(t, c, 0, submit(1, 5, 0), answer(gate.Expired))
	do(t, c, 0, submit(1, 127, far), answer(gate.Cutoff))
	do(t, c, 0, submit(0, 7, far), admitted(2, 0, 7))
	do(t, c, 0, poll(), dispatched(2, 0, 7, 0))
	do(t, c, 0, submit(0, 8, far), admitted(3, 0, 8))
	do(t, c, 0, submit(1, 0, far), admitted(4, 1, 0))
	do(t, c, 0, submit(1, 0, far), answer(gate.Full))
	if c.Ticket() != 4 {
		t.Error("the last ticket is", c.Ticket())
	}
	do(t, c, 0, drain(0), answer(gate.Done))
	do(t, c, 0, submit(0, 0, far), answer(gate.Draining))
	if c.Ticket() != 4 {
		t.Error("the last ticket is", c.Ticket())
	}
}

func TestDeadlineAndArrival(t *testing.T) {
	config := calm(1, 9)
	config.Target, config.Horizon = 5, 1000
	for _, s := range []struct {
		now, deadline, want int64
	}{
		{0, 1, 1}, {0, 999, 999}, {0, 1000, 1000}, {0, 1001, 1000}, {0, most, 1000}, {7, 1007, 1007}, {7, 1008, 1007},
		{most - 1000, most, most}, {most - 1001, most, most - 1}, {most - 1, most, most},
	} {
		c := newCore(t, config)
		do(t, c, s.now, submit(0, 0, s.deadline), admitted(1, 0, 0))
		if got := c.Queue(); len(got) != 1 || got[0].Deadline != s.want || got[0].Arrived != s.now {
			t.Errorf("%v: %v", s, got)
		}
	}
	c := newCore(t, config)
	do(t, c, most, submit(0, 0, most), answer(gate.Expired))
}

func TestEdges(t *testing.T) {
	c := newCore(t, direct(3, 9)) // Most is 384
	do(t, c, 0, submit(2, 127, far), admitted(1, 2, 127))
	do(t, c, 0, level(1), answer(gate.Done))
	do(t, c, 0, submit(2, 127, far), answer(gate.Cutoff))
	do(t, c, 0, submit(2, 126, far), admitted(2, 2, 126))
	do(t, c, 0, level(200), answer(gate.Done)) // the edge is 184: tier 1, cohort 56
	do(t, c, 0, submit(2, 0, far), answer(gate.Cutoff))
	do(t, c, 0, submit(1, 57, far), answer(gate.Cutoff))
	do(t, c, 0, submit(1, 56, far), answer(gate.Cutoff))
	do(t, c, 0, submit(1, 55, far), admitted(3, 1, 55))
	do(t, c, 0, submit(0, 127, far), admitted(4, 0, 127))
	do(t, c, 0, level(5000), answer(gate.Done)) // the level is Most at most: then all are cut off
	do(t, c, 0, submit(0, 0, far), answer(gate.Cutoff))
	do(t, c, 0, level(0), answer(gate.Done))
	do(t, c, 0, submit(0, 1, far), answer(gate.Cutoff))
	do(t, c, 0, submit(0, 0, far), admitted(5, 0, 0))
	queued(t, c, 5)
}

func TestCutoffComesBeforeFullAndChangesNothing(t *testing.T) {
	c := newCore(t, direct(2, 2))
	admit(t, c, 0, 0, 0)
	do(t, c, 0, level(128), answer(gate.Done))
	before := viewOf(c)
	do(t, c, 3, submit(1, 0, far), answer(gate.Cutoff))
	unchanged(t, c, before, 3)
	do(t, c, 3, submit(0, 0, far), answer(gate.Full))
	unchanged(t, c, before, 3)
}

func TestFull(t *testing.T) {
	c := newCore(t, calm(4, 3))
	admit(t, c, 0, 1, 2, 2)
	before := viewOf(c)
	do(t, c, 1, submit(2, 0, far), answer(gate.Full))
	do(t, c, 1, submit(3, 0, far), answer(gate.Full)) // tier 3 itself has no request
	unchanged(t, c, before, 1)
	do(t, c, 1, submit(1, 9, far), admitted(4, 1, 9))
	queued(t, c, 1, 4, 2)
	do(t, c, 2, submit(0, 0, far), admitted(5, 0, 0))
	queued(t, c, 5, 1, 4)
	do(t, c, 3, submit(1, 0, far), answer(gate.Full)) // also where its cohort is more critical than that of the tail
	do(t, c, 4, submit(0, 127, far), admitted(6, 0, 127))
	do(t, c, 5, submit(0, 0, far), admitted(7, 0, 0))
	queued(t, c, 5, 6, 7)
	do(t, c, 6, submit(0, 0, far), answer(gate.Full)) // where all are of the most critical tier
	ended(t, c, end{3, tally.Full, 1, 1}, end{2, tally.Full, 2, 2}, end{4, tally.Full, 4, 3}, end{1, tally.Full, 5, 5})
	if o := c.Log().Since(2)[0]; o.Tier != 1 || o.Cohort != 9 {
		t.Error(o)
	}
}

func TestTheSweepMakesRoom(t *testing.T) {
	c := newCore(t, calm(2, 2))
	do(t, c, 0, submit(0, 0, 5), admitted(1, 0, 0))
	do(t, c, 0, submit(1, 0, far), admitted(2, 1, 0))
	do(t, c, 4, submit(1, 0, far), answer(gate.Full))
	do(t, c, 5, submit(1, 0, far), admitted(3, 1, 0))
	queued(t, c, 2, 3)
	ended(t, c, end{1, tally.Late, 5, 5})
}

// P16.4

func TestPollOfNone(t *testing.T) {
	c := newCore(t, calm(2, 2))
	do(t, c, 0, poll(), answer(gate.Empty))
	do(t, c, 0, core.Op{Kind: core.Poll, Tier: 99, Cohort: -4, N: -1}, answer(gate.Empty))
	do(t, c, 0, drain(far), answer(gate.Done))
	do(t, c, 0, poll(), answer(gate.Closed))
}

// TestPollInOrder: the other fields of a Poll have no meaning.
func TestPollInOrder(t *testing.T) {
	c := newCore(t, calm(3, 9))
	for n, tier := range []int{2, 1, 0, 2, 1, 0} {
		do(t, c, int64(n), submit(tier, 90-n, far), admitted(uint64(n+1), tier, 90-n))
	}
	do(t, c, 10, poll(), dispatched(3, 0, 88, 8))
	do(t, c, 11, poll(), dispatched(6, 0, 85, 6))
	do(t, c, 12, core.Op{Kind: core.Poll, Tier: 2, N: -1}, dispatched(2, 1, 89, 11))
	do(t, c, 12, submit(0, 0, far), admitted(7, 0, 0))
	do(t, c, 12, poll(), dispatched(7, 0, 0, 0))
	do(t, c, 13, poll(), dispatched(5, 1, 86, 9))
	do(t, c, 14, poll(), dispatched(1, 2, 90, 14))
	do(t, c, 15, poll(), dispatched(4, 2, 87, 12))
	do(t, c, 16, poll(), answer(gate.Empty))
	if c.Log().Len() != 7 || c.Log().Count(-1, tally.Out) != 7 || c.Log().Since(1)[0] != (tally.Outcome{Ticket: 6, Cohort: 85, Why: tally.Out, At: 11, Sojourn: 6}) {
		t.Error(c.Log().Since(0))
	}
}

func TestPollWhileDraining(t *testing.T) {
	c := newCore(t, calm(2, 9))
	admit(t, c, 0, 1, 0)
	do(t, c, 0, drain(50), answer(gate.Done))
	do(t, c, 1, poll(), dispatched(2, 0, 0, 1))
	do(t, c, 2, poll(), dispatched(1, 1, 0, 2))
	do(t, c, 3, poll(), answer(gate.Closed))
}

// TestNoLateDispatch: a request is dispatched until just before its deadline (P4).
func TestNoLateDispatch(t *testing.T) {
	for now := range int64(12) {
		c := newCore(t, calm(1, 9))
		do(t, c, 0, submit(0, 0, 8), admitted(1, 0, 0))
		if now < 8 {
			do(t, c, now, poll(), dispatched(1, 0, 0, now))
		} else {
			do(t, c, now, poll(), answer(gate.Empty))
		}
	}
}

func TestNewestFirst(t *testing.T) {
	config := calm(2, 9)
	config.High, config.Low, config.Dwell = 50, 10, 20
	c := newCore(t, config)
	admit(t, c, 0, 0, 0, 1)
	admit(t, c, 30, 0, 0)
	do(t, c, 49, poll(), dispatched(1, 0, 0, 49))
	do(t, c, 50, poll(), dispatched(5, 0, 0, 20)) // the head has been waiting for 50
	if c.Mode(0) != (mode.State{Lifo: true, Since: 50, Turns: 1}) || c.Mode(1) != (mode.State{}) {
		t.Error(c.Mode(0), c.Mode(1))
	}
	do(t, c, 51, poll(), dispatched(4, 0, 0, 21))
	do(t, c, 52, poll(), dispatched(2, 0, 0, 52))
	admit(t, c, 53, 0, 0)
	do(t, c, 60, poll(), dispatched(7, 0, 0, 7)) // the head has been waiting for less than 10, but the switch for less than 20
	admit(t, c, 70, 0)
	do(t, c, 70, poll(), dispatched(8, 0, 0, 0)) // the head, 6, has been waiting for 17
	admit(t, c, 71, 0, 0)
	if c.Mode(0) != (mode.State{Lifo: true, Since: 50, Turns: 1}) {
		t.Error(c.Mode(0))
	}
	do(t, c, 72, poll(), dispatched(10, 0, 0, 1))
	do(t, c, 72, poll(), dispatched(9, 0, 0, 1))
	do(t, c, 72, poll(), dispatched(6, 0, 0, 19))
	admit(t, c, 73, 0, 0)
	do(t, c, 74, poll(), dispatched(11, 0, 0, 1)) // the oldest first again
	if c.Mode(0) != (mode.State{Since: 74, Turns: 2}) || c.Mode(1) != (mode.State{}) {
		t.Error(c.Mode(0), c.Mode(1))
	}
	do(t, c, 75, poll(), dispatched(12, 0, 0, 2))
	do(t, c, 76, poll(), dispatched(3, 1, 0, 76))
	if c.Mode(0) != (mode.State{Since: 74, Turns: 2}) || c.Mode(1) != (mode.State{Lifo: true, Since: 76, Turns: 1}) {
		t.Error(c.Mode(0), c.Mode(1))
	}
}

// TestOnlyAPollTurns: and only where a request is queued.
func TestOnlyAPollTurns(t *testing.T) {
	config := calm(1, 9)
	config.High, config.Low = 0, 0
	c := newCore(t, config)
	admit(t, c, 5, 0)
	c.Do(6, level(0))
	c.Do(6, submit(0, 0, 6))
	if c.Mode(0) != (mode.State{}) {
		t.Error(c.Mode(0))
	}
	do(t, c, 7, poll(), dispatched(1, 0, 0, 2))
	do(t, c, 8, poll(), answer(gate.Empty))
	if c.Mode(0) != (mode.State{Lifo: true, Since: 7, Turns: 1}) {
		t.Error(c.Mode(0))
	}
}

func TestCodelShedsTheHeadOfTheLastTier(t *testing.T) {
	c := newCore(t, waiting(4, 20))
	admit(t, c, 0, 0, 0, 0, 0, 0, 3, 3, 1)
	do(t, c, 4, poll(), dispatched(1, 0, 0, 4))
	if c.Codel(0) != (codel.State{}) {
		t.Error(c.Codel(0))
	}
	do(t, c, 5, poll(), dispatched(2, 0, 0, 5))
	if c.Codel(0) != (codel.State{Above: true, First: 105}) {
		t.Error(c.Codel(0))
	}
	do(t, c, 104, poll(), dispatched(3, 0, 0, 104))
	do(t, c, 105, poll(), dispatched(4, 0, 0, 105)) // Once: ticket 6 goes first, and no more
	if c.Codel(0) != (codel.State{Above: true, First: 105, Dropping: true, Next: 205, Count: 1, Last: 1}) {
		t.Error(c.Codel(0))
	}
	do(t, c, 106, poll(), dispatched(5, 0, 0, 106)) // the only one of its tier
	if c.Codel(0) != (codel.State{Next: 205, Count: 1, Last: 1}) {
		t.Error(c.Codel(0))
	}
	for tier := 1; tier < 4; tier++ {
		if c.Codel(tier) != (codel.State{}) {
			t.Error(tier, c.Codel(tier))
		}
	}
	queued(t, c, 8, 7)
	if got := c.Log().Since(3); len(got) != 3 || got[0] != (tally.Outcome{Ticket: 6, Tier: 3, Why: tally.Codel, At: 105, Sojourn: 105}) || got[1].Ticket != 4 {
		t.Error(got)
	}
}

// TestCodelShedsOneOfTheLastTier: also where layer 8 would go on dropping.
func TestCodelShedsOneOfTheLastTier(t *testing.T) {
	c := newCore(t, waiting(2, 20))
	admit(t, c, 0, 0, 0, 0, 0, 1, 1, 1)
	do(t, c, 5, poll(), dispatched(1, 0, 0, 5))
	do(t, c, 105, poll(), dispatched(2, 0, 0, 105))
	do(t, c, 1000, poll(), dispatched(3, 0, 0, 1000)) // Drop: the loop ends with ticket 6
	if c.Codel(0) != (codel.State{Above: true, First: 105, Dropping: true, Next: 205, Count: 2, Last: 1}) {
		t.Error(c.Codel(0))
	}
	queued(t, c, 4, 7)
	ended(t, c, end{1, tally.Out, 5, 5}, end{5, tally.Codel, 105, 105}, end{2, tally.Out, 105, 105}, end{6, tally.Codel, 1000, 1000}, end{3, tally.Out, 1000, 1000})
}

func TestCodelShedsTheCandidateOfTheOnlyTier(t *testing.T) {
	c := newCore(t, waiting(2, 20))
	admit(t, c, 0, 1, 1, 1, 1, 1, 1)
	do(t, c, 5, poll(), dispatched(1, 1, 0, 5))
	do(t, c, 105, poll(), dispatched(3, 1, 0, 105)) // Once: ticket 2 goes, 3 is only noted
	if c.Codel(1) != (codel.State{Above: true, First: 105, Dropping: true, Next: 205, Count: 1, Last: 1}) || c.Codel(0) != (codel.State{}) {
		t.Error(c.Codel(1), c.Codel(0))
	}
	do(t, c, 204, poll(), dispatched(4, 1, 0, 204))
	do(t, c, 205, poll(), dispatched(6, 1, 0, 205)) // Drop: ticket 5 goes, 6 is the only one
	if c.Codel(1) != (codel.State{Next: 205, Count: 2, Last: 1}) {
		t.Error(c.Codel(1))
	}
	ended(t, c, end{1, tally.Out, 5, 5}, end{2, tally.Codel, 105, 105}, end{3, tally.Out, 105, 105}, end{4, tally.Out, 204, 204}, end{5, tally.Codel, 205, 205}, end{6, tally.Out, 205, 205})
	do(t, c, 206, poll(), answer(gate.Empty))
}

// TestCodelNotesWhatFollowsOnce: the one that follows is not high any more, since it came later.
func TestCodelNotesWhatFollowsOnce(t *testing.T) {
	c := newCore(t, waiting(1, 20))
	admit(t, c, 0, 0, 0)
	do(t, c, 5, poll(), dispatched(1, 0, 0, 5))
	admit(t, c, 101, 0, 0)
	do(t, c, 105, poll(), dispatched(3, 0, 0, 4)) // ticket 2 goes; ticket 3 is below Target: Above is cleared, Dropping stays
	if c.Codel(0) != (codel.State{Dropping: true, Next: 205, Count: 1, Last: 1}) {
		t.Error(c.Codel(0))
	}
}

func TestCodelGoesOnDropping(t *testing.T) {
	c := newCore(t, waiting(1, 20))
	admit(t, c, 0, 0, 0, 0, 0, 0, 0, 0, 0, 0, 0)
	do(t, c, 5, poll(), dispatched(1, 0, 0, 5))
	do(t, c, 105, poll(), dispatched(3, 0, 0, 105))
	do(t, c, 350, poll(), dispatched(7, 0, 0, 350)) // 4, 5 and 6 go: Next 205, 275, 332, 382
	if c.Codel(0) != (codel.State{Above: true, First: 105, Dropping: true, Next: 382, Count: 4, Last: 1}) {
		t.Error(c.Codel(0))
	}
	queued(t, c, 8, 9, 10)
	do(t, c, 381, poll(), dispatched(8, 0, 0, 381))
	do(t, c, 382, poll(), dispatched(10, 0, 0, 382))
	if c.Codel(0) != (codel.State{Next: 382, Count: 5, Last: 1}) {
		t.Error(c.Codel(0))
	}
}

// TestCodelNeverDropsAll: however long they wait, the last one is dispatched.
func TestCodelNeverDropsAll(t *testing.T) {
	config := waiting(1, 40)
	config.Interval = 1
	c := newCore(t, config)
	for range 40 {
		admit(t, c, 0, 0)
	}
	do(t, c, 5, poll(), dispatched(1, 0, 0, 5))
	do(t, c, 6, poll(), dispatched(3, 0, 0, 6))
	do(t, c, far-1, poll(), dispatched(40, 0, 0, far-1))
	if c.Log().Count(0, tally.Codel) != 37 || len(c.Queue()) != 0 {
		t.Error(c.Log().Count(0, tally.Codel), c.Queue())
	}
}

func TestCodelWithTheNewestFirst(t *testing.T) {
	config := waiting(1, 20)
	config.High, config.Low = 100, 50
	c := newCore(t, config)
	admit(t, c, 0, 0, 0, 0, 0, 0)
	do(t, c, 5, poll(), dispatched(1, 0, 0, 5))
	do(t, c, 105, poll(), dispatched(4, 0, 0, 105)) // the newest one, 5, goes
	if c.Codel(0) != (codel.State{Above: true, First: 105, Dropping: true, Next: 205, Count: 1, Last: 1}) || !c.Mode(0).Lifo {
		t.Error(c.Codel(0), c.Mode(0))
	}
	admit(t, c, 205, 0)
	do(t, c, 209, poll(), dispatched(6, 0, 0, 4)) // the candidate's time counts, not the head's
	if c.Codel(0) != (codel.State{Next: 205, Count: 1, Last: 1}) {
		t.Error(c.Codel(0))
	}
	ended(t, c, end{1, tally.Out, 5, 5}, end{5, tally.Codel, 105, 105}, end{4, tally.Out, 105, 105}, end{6, tally.Out, 209, 4})
}

// TestCodelOfTiersWithoutRequests: a Poll resets their states, an Empty one too, but nothing else does.
func TestCodelOfTiersWithoutRequests(t *testing.T) {
	for _, others := range [][]int{nil, {1}} {
		c := newCore(t, waiting(2, 9))
		do(t, c, 0, submit(0, 0, 50), admitted(1, 0, 0))
		do(t, c, 0, submit(0, 0, 50), admitted(2, 0, 0))
		admit(t, c, 0, others...)
		do(t, c, 5, poll(), dispatched(1, 0, 0, 5))
		above := codel.State{Above: true, First: 105}
		do(t, c, 60, level(0), answer(gate.Done))
		do(t, c, 60, submit(0, 0, 60), answer(gate.Expired))
		do(t, c, 60, core.Op{Kind: 9}, answer(gate.Invalid))
		if c.Codel(0) != above {
			t.Error(c.Codel(0))
		}
		queued(t, c, []uint64{3}[:len(others)]...)
		if len(others) == 0 {
			do(t, c, 60, poll(), answer(gate.Empty))
		} else {
			do(t, c, 60, poll(), dispatched(3, 1, 0, 60))
		}
		if c.Codel(0) != (codel.State{}) {
			t.Error(c.Codel(0))
		}
	}
}

func TestEmptyTiersKeepTheirCounts(t *testing.T) {
	c := newCore(t, waiting(1, 9))
	admit(t, c, 0, 0, 0)
	do(t, c, 0, submit(0, 0, 110), admitted(3, 0, 0))
	do(t, c, 0, submit(0, 0, 110), admitted(4, 0, 0))
	do(t, c, 5, poll(), dispatched(1, 0, 0, 5))
	do(t, c, 105, poll(), dispatched(3, 0, 0, 105))
	if c.Codel(0) != (codel.State{Above: true, First: 105, Dropping: true, Next: 205, Count: 1, Last: 1}) {
		t.Error(c.Codel(0))
	}
	do(t, c, 110, poll(), answer(gate.Empty))
	if c.Codel(0) != (codel.State{Next: 205, Count: 1, Last: 1}) {
		t.Error(c.Codel(0))
	}
}

func TestAClosedPollResetsNothing(t *testing.T) {
	c := newCore(t, waiting(1, 9))
	admit(t, c, 0, 0, 0)
	do(t, c, 5, poll(), dispatched(1, 0, 0, 5))
	do(t, c, 5, drain(5), answer(gate.Done))
	before := viewOf(c)
	do(t, c, 6, poll(), answer(gate.Closed))
	unchanged(t, c, before, 6)
	if c.Codel(0) != (codel.State{Above: true, First: 105}) {
		t.Error(c.Codel(0))
	}
}

// P16.5

func TestSampleIsLayer11s(t *testing.T) {
	config := conf.Default()
	c := newCore(t, config)
	var state pid.State
	for n, u := range []fix.Q{fix.One, 100 * fix.One, 0, fix.One / 2, fix.One/2 + 1, -fix.One, fix.Q(most), math.MinInt64, 7 * fix.One} {
		do(t, c, int64(n), core.Op{Kind: core.Sample, Tier: 3, Cohort: 5, N: int64(u)}, answer(gate.Done))
		state = state.Sample(config.Pid(), u)
		if c.Pid() != state || c.Level() != state.Level {
			t.Errorf("after %d: %v, %d, not %v", u, c.Pid(), c.Level(), state)
		}
	}
	if state.Level == 0 {
		t.Error("no level")
	}
}

func TestSampleCutsTheLeastCriticalFirst(t *testing.T) {
	c := newCore(t, direct(3, 20))
	for n, key := range []int{300, 184, 383, 183, 300, 0, 383, 185, 256, 255, 184, 127} {
		do(t, c, int64(n), submit(key/128, key%128, far), admitted(uint64(n+1), key/128, key%128))
	}
	do(t, c, 20, level(0), answer(gate.Done))
	ended(t, c)
	do(t, c, 20, level(200), answer(gate.Done)) // the edge is 184
	want := []end{
		{3, tally.Cut, 20, 18}, {7, tally.Cut, 20, 14}, {1, tally.Cut, 20, 20}, {5, tally.Cut, 20, 16}, {9, tally.Cut, 20, 12},
		{10, tally.Cut, 20, 11}, {8, tally.Cut, 20, 13}, {2, tally.Cut, 20, 19}, {11, tally.Cut, 20, 10},
	}
	ended(t, c, want...)
	if o := c.Log().Since(6)[0]; o.Tier != 1 || o.Cohort != 57 {
		t.Error(o)
	}
	queued(t, c, 6, 12, 4)
	do(t, c, 21, level(201), answer(gate.Done)) // the edge is 183
	ended(t, c, append(want, end{4, tally.Cut, 21, 18})...)
	do(t, c, 22, level(384), answer(gate.Done)) // the edge is 0
	if len(c.Queue()) != 0 || c.Phase() != core.Running {
		t.Error(c.Queue(), c.Phase())
	}
}

func TestSampleInEachPhase(t *testing.T) {
	c := newCore(t, direct(2, 9))
	do(t, c, 0, submit(1, 127, far), admitted(1, 1, 127))
	admit(t, c, 0, 0)
	do(t, c, 0, drain(far), answer(gate.Done))
	do(t, c, 1, level(1), answer(gate.Done))
	ended(t, c, end{1, tally.Cut, 1, 1})
	do(t, c, 2, drain(2), answer(gate.Done))
	do(t, c, 3, level(77), answer(gate.Done))
	if c.Level() != 77 || c.Phase() != core.Drained {
		t.Error(c.Level(), c.Phase())
	}
	do(t, c, 3, level(0), answer(gate.Done))
	if c.Level() != 76 {
		t.Error(c.Level())
	}
}

// TestDrain: N is a time, and what comes first ends it; the other fields have no meaning.
func TestDrain(t *testing.T) {
	for _, s := range []struct {
		limit int64
		phase byte
	}{
		{math.MinInt64, core.Drained}, {-1, core.Drained}, {0, core.Drained}, {9, core.Drained}, {10, core.Drained}, {11, core.Draining}, {most, core.Draining},
	} {
		c := newCore(t, calm(2, 9))
		admit(t, c, 3, 1, 0)
		do(t, c, 10, core.Op{Kind: core.Drain, Tier: -9, Cohort: 999, N: s.limit}, answer(gate.Done))
		if c.Phase() != s.phase {
			t.Fatal(s, c.Phase())
		}
		if s.phase == core.Draining {
			queued(t, c, 2, 1)
			ended(t, c)
		} else {
			queued(t, c)
			ended(t, c, end{2, tally.Drain, 10, 7}, end{1, tally.Drain, 10, 7})
		}
	}
}

func TestDrainOfAnEmptyQueue(t *testing.T) {
	c := newCore(t, calm(2, 9))
	do(t, c, 0, drain(far), answer(gate.Done))
	if c.Phase() != core.Drained {
		t.Error(c.Phase())
	}
	c = newCore(t, calm(2, 9))
	do(t, c, 0, submit(0, 0, 5), admitted(1, 0, 0))
	do(t, c, 5, drain(far), answer(gate.Done)) // the sweep empties it
	if c.Phase() != core.Drained {
		t.Error(c.Phase())
	}
	ended(t, c, end{1, tally.Late, 5, 5})
}

func TestTheSmallerLimitHolds(t *testing.T) {
	for _, limits := range [][2]int64{{30, 20}, {20, 30}, {20, 20}, {20, most}, {most, 20}} {
		c := newCore(t, calm(1, 9))
		admit(t, c, 0, 0)
		do(t, c, 1, drain(limits[0]), answer(gate.Done))
		do(t, c, 2, drain(limits[1]), answer(gate.Done))
		do(t, c, 19, level(0), answer(gate.Done))
		if c.Phase() != core.Draining {
			t.Error(limits, c.Phase())
		}
		do(t, c, 20, level(0), answer(gate.Done))
		if c.Phase() != core.Drained {
			t.Error(limits, c.Phase())
		}
		ended(t, c, end{1, tally.Drain, 20, 20})
	}
}

// TestTheLimitBeforeHoldsInTheSweep: a later limit comes too late.
func TestTheLimitBeforeHoldsInTheSweep(t *testing.T) {
	c := newCore(t, calm(1, 9))
	admit(t, c, 0, 0)
	do(t, c, 1, drain(20), answer(gate.Done))
	do(t, c, 20, drain(99), answer(gate.Done))
	ended(t, c, end{1, tally.Drain, 20, 20})
	before := viewOf(c)
	for _, limit := range []int64{math.MinInt64, 0, 99, most} {
		do(t, c, 21, drain(limit), answer(gate.Done))
		unchanged(t, c, before, 21)
	}
}

func TestASecondDrainAtOnce(t *testing.T) {
	c := newCore(t, calm(2, 9))
	admit(t, c, 0, 1, 0, 1)
	do(t, c, 1, drain(far), answer(gate.Done))
	do(t, c, 2, drain(2), answer(gate.Done))
	ended(t, c, end{2, tally.Drain, 2, 2}, end{1, tally.Drain, 2, 2}, end{3, tally.Drain, 2, 2})
	if c.Phase() != core.Drained {
		t.Error(c.Phase())
	}
}
